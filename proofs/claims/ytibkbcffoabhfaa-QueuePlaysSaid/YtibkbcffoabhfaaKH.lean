import Derived.Test.YtibkbcffoabhfaaKG
namespace Go.Proofs.Ytibkbcffoabhfaa
open Go.RowKit

/-- A step: its kind, its bytes. -/
abbrev OpV := Int × List UInt8
def OpsV (w : World) (B : Nat) (A : Option Addr) (l : List OpV) : Prop :=
  l ≠ [] → ∃ b o, A = some ⟨b, o, none⟩ ∧ b < B ∧ ∀ k (h : k < l.length), ∃ tA tc, SlB w B tA tc l[k].2 ∧
    w.cell? ⟨b, o + k * 2, none⟩ = some (.int .i64 l[k].1) ∧ w.cell? ⟨b, o + k * 2 + 1, none⟩ = some (.slice tA l[k].2.length tc)
theorem OpsV.below {w w' : World} {B : Nat} {A : Option Addr} {l : List OpV} (h : OpsV w B A l) (hb : Below B w w') : OpsV w' B A l := fun hn => by
  obtain ⟨b, o, e, hlt, hk⟩ := h hn
  refine ⟨b, o, e, hlt, fun k hkl => ?_⟩
  obtain ⟨tA, tc, h0, h1, h2⟩ := hk k hkl
  exact ⟨tA, tc, h0.below hb, (hb.cell (p := ⟨b, _, none⟩) hlt).trans h1, (hb.cell (p := ⟨b, _, none⟩) hlt).trans h2⟩
def sumL : List OpV → Nat
  | [] => 0
  | o :: r => min o.2.length 100000 + sumL r
def greatO (l : List OpV) : Bool := decide (100 < l.length) || decide (100000 < sumL l)
theorem great_len {l : List OpV} (h : greatO l = false) : l.length ≤ 100 := by
  simp [greatO] at h
  omega
theorem sum_le : ∀ l : List OpV, sumL l ≤ 100000 * l.length
  | [] => Nat.zero_le _
  | o :: r => by
    have := sum_le r
    simp only [sumL, List.length_cons]
    omega

set_option maxHeartbeats 1000000 in
set_option maxRecDepth 100000 in
theorem great_any (w : World) (A : Option Addr) (c n : Nat) (l : List OpV) (gr : Bool) (hl : Hid (OpsV w w.heap.size A l)) (hn : Hid (l.length = n)) (hl2 : n ≤ maxLen) (hg : Hid (greatO l = gr)) :
    Calls Try.prog 8 #[.slice A n c] w fun e w' => e = .returned (.bool gr) ∧ Hid (Below w.heap.size w w') := by
  unfold maxLen at hl2
  by_cases h1 : 100 < n
  · have hE : gr = true := by rw [← hg.out]; unfold greatO; rw [hn.out]; simp [h1]
    subst hE
    go_enter Try.func8, Try.ntmps8
    go_wp2
    go_loopw [3, 8] (fun s i wr => ∃ (k : Nat) (z : Int), k ≤ n ∧ i = .int .i64 k ∧ s = .int .i64 z ∧ Hid (Below w.heap.size w wr)) (fun _ i _ => n - (intOf i).toNat)
    case atStart => exact ⟨0, 0, Nat.zero_le _, rfl, rfl, Below.refl _ _⟩
    case round =>
      obtain ⟨k, z, hk, rfl, rfl, HB⟩ := hrel
      by_cases hlt : k < n
      · obtain ⟨b, o, rfl, hbw, hcells⟩ := hl.out (by intro e; have := hn.out; rw [e] at this; simp at this; omega)
        have hkl : k < l.length := by rw [hn.out]; exact hlt
        obtain ⟨tA, tc, hsl, e0, e2⟩ := hcells k hkl
        have c0 := (HB.out.cell (p := ⟨b, _, none⟩) hbw).trans e0
        have c2 := (HB.out.cell (p := ⟨b, _, none⟩) hbw).trans e2
        obtain ⟨x, HX⟩ : ∃ x : Nat, Hid (l[k].2.length = x) := ⟨_, hid rfl⟩
        rw [HX.out] at c2
        obtain ⟨k0, HK0⟩ : ∃ x : Int, Hid (l[k].1 = x) := ⟨_, hid rfl⟩
        rw [HK0.out] at c0
        have hsl2 := hsl.2.1
        have hsl1 := hsl.1
        rw [HX.out] at hsl1
        unfold maxLen at hsl2
        have i1 : (k : Int) < n := by omega
        clear e0 e2 hcells hsl
        go_wp2
        all_goals
          go_roundw
          case rel => exact ⟨k + 1, _, by omega, by go_num, rfl, HB.out.alloc HB.out.size _⟩
          case measure => simp [intOf]; omega
      · go_wp2
        go_ret
        exact ⟨rfl, HB⟩
  · have hE : Hid (gr = decide (100000 < sumL l)) := by show _ = _; rw [← hg.out]; unfold greatO; rw [hn.out]; simp [h1]
    have hsl := sum_le l
    rw [hn.out] at hsl
    obtain ⟨tot, HT⟩ : ∃ t, Hid (sumL l = t) := ⟨_, hid rfl⟩
    rw [HT.out] at hsl
    go_enter Try.func8, Try.ntmps8
    go_wp2
    go_loopw [3, 8] (fun s i wr => ∃ (k a : Nat), k ≤ n ∧ i = .int .i64 k ∧ s = .int .i64 a ∧ a ≤ 20000000 ∧ Hid (a + sumL (l.drop k) = tot) ∧ Hid (Below w.heap.size w wr)) (fun _ i _ => n - (intOf i).toNat)
    case atStart => exact ⟨0, 0, Nat.zero_le _, rfl, rfl, by omega, by show _ = _; simpa using HT.out, Below.refl _ _⟩
    case round =>
      obtain ⟨k, a, hk, rfl, rfl, ha, HS, HB⟩ := hrel
      by_cases hlt : k < n
      · obtain ⟨b, o, rfl, hbw, hcells⟩ := hl.out (by intro e; have := hn.out; rw [e] at this; simp at this; omega)
        have hkl : k < l.length := by rw [hn.out]; exact hlt
        obtain ⟨tA, tc, hsl, e0, e2⟩ := hcells k hkl
        have c0 := (HB.out.cell (p := ⟨b, _, none⟩) hbw).trans e0
        have c2 := (HB.out.cell (p := ⟨b, _, none⟩) hbw).trans e2
        have hdrop : l.drop k = l[k] :: l.drop (k + 1) := List.drop_eq_getElem_cons hkl
        obtain ⟨x, HX⟩ : ∃ x : Nat, Hid (l[k].2.length = x) := ⟨_, hid rfl⟩
        obtain ⟨y, HY⟩ : ∃ y : Nat, Hid (min x 100000 = y) := ⟨_, hid rfl⟩
        have HS2 : Hid (a + y + sumL (l.drop (k + 1)) = tot) := by
          show _ = _
          have h := HS.out
          rw [hdrop, sumL, HX.out, HY.out] at h
          omega
        rw [HX.out] at c2
        obtain ⟨k0, HK0⟩ : ∃ x : Int, Hid (l[k].1 = x) := ⟨_, hid rfl⟩
        rw [HK0.out] at c0
        have hy : min (x : Int) 100000 = y := by have := HY.out; omega
        have hyb : a + y ≤ 20000000 := by have := HS2.out; omega
        have i1 : (k : Int) < n := by omega
        clear e0 e2 hcells hsl hdrop
        have hxy : (y = x ∧ ¬ ((100000 : Int) < x)) ∨ (y = 100000 ∧ (100000 : Int) < x) := by have := HY.out; omega
        rcases hxy with ⟨rfl, hx⟩ | ⟨rfl, hx⟩
        all_goals
          go_wp2
          go_roundw
          case rel => exact ⟨k + 1, _, by omega, by go_num, by go_num, hyb, HS2, HB.out.alloc HB.out.size _⟩
          case measure => simp [intOf]; omega
      · have hd : l.drop k = [] := List.drop_of_length_le (by rw [hn.out]; omega)
        have hat : a = tot := by have h := HS.out; rw [hd, sumL] at h; omega
        subst hat
        have h2 : ¬ ((100 : Int) < n) := by omega
        by_cases h3 : 100000 < a
        · have hF : gr = true := by rw [hE.out, HT.out]; simp [h3]
          subst hF
          clear hd
          go_wp2
          go_ret
          exact ⟨ret_bool (decide_eq_true (by omega)), HB⟩
        · have hF : gr = false := by rw [hE.out, HT.out]; simp [h3]
          subst hF
          clear hd
          go_wp2
          go_ret
          exact ⟨ret_bool (decide_eq_false (by omega)), HB⟩
end Go.Proofs.Ytibkbcffoabhfaa
