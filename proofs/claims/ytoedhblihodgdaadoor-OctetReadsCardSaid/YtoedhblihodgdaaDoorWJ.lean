import Derived.Test.YtoedhblihodgdaaDoorWE
import Derived.BigQuiet
import Derived.Deep.QuietTactic
namespace Go.Proofs.YtoedhblihodgdaaDoor
open Go.RowKit

theorem Lies.drewN {w : World} {B : Nat} {A : Option Addr} {cs : List Value} (h : Lies w B A cs) (n : Nat) : Lies (w.drewN n) B A cs := h

/-- Nothing but draws. -/
def Quiet (w w' : World) : Prop := ∃ n, w' = w.drewN n
theorem Quiet.refl (w : World) : Quiet w w := ⟨0, rfl⟩

theorem quiet2 (w : World) (a b : Nat) : Quiet w ((w.drewN a).drewN b) := ⟨a + b, World.drewN_drewN w a b⟩
theorem list_ne {α : Type} {a b : List α} (k : Nat) (ha : k < a.length) (hb : k < b.length) (h : a[k] ≠ b[k]) : a ≠ b := by
  rintro rfl
  exact h rfl

set_option maxHeartbeats 1000000 in
set_option maxRecDepth 100000 in
theorem bytes_any (w : World) (B B2 : Nat) (A A2 : Option Addr) (c c2 : Nat) (xs ys : List UInt8) (hx : Lies w B A (bv xs)) (hy : Lies w B2 A2 (bv ys)) (hl : xs.length ≤ maxLen) (hl2 : ys.length ≤ maxLen) :
    Calls Tryd.prog 13 #[.slice A xs.length c, .slice A2 ys.length c2] w fun e w' => e = .returned (.bool (decide (xs = ys))) ∧ Quiet w w' := by
  unfold maxLen at hl hl2
  have HX := hid hx
  have HY := hid hy
  clear hx hy
  by_cases hlen : xs.length = ys.length
  · have ht : ((xs.length : Int) == ys.length) = true := by simp [hlen]
    have ht2 : ((xs.length : Int) != ys.length) = false := by simp [hlen]
    have HL := hid hlen
    clear hlen
    go_enter Tryd.func13, Tryd.ntmps13
    go_wp2
    go_loopw [13] (fun i wr => ∃ k d : Nat, k ≤ xs.length ∧ i = .int .i64 k ∧ wr = w.drewN d ∧ Hid (xs.take k = ys.take k)) (fun i _ => xs.length - (intOf i).toNat)
    case atStart => exact ⟨0, 0, Nat.zero_le _, rfl, rfl, rfl⟩
    case round =>
      obtain ⟨k, d, hk, rfl, rfl, HT⟩ := hrel
      by_cases hlt : k < xs.length
      · have hlt2 : k < ys.length := by have := HL.out; omega
        obtain ⟨b, o, rfl, _, hc1⟩ := HX.out (by intro e; have := congrArg List.length e; simp [bv] at this; subst this; simp at hlt)
        obtain ⟨b2, o2, rfl, _, hc2⟩ := HY.out (by intro e; have := congrArg List.length e; simp [bv] at this; subst this; simp at hlt2)
        have c1 : w.cell? ⟨b, o + k, none⟩ = some (.int .u8 xs[k].toNat) := hc1 k _ (by simp [bv, hlt])
        have c2 : w.cell? ⟨b2, o2 + k, none⟩ = some (.int .u8 ys[k].toNat) := hc2 k _ (by simp [bv, hlt2])
        clear hc1 hc2
        have hi1 : (k : Int) < xs.length := by omega
        have hi2 : (k : Int) < ys.length := by omega
        by_cases he : xs[k] = ys[k]
        · have t1 : ((xs[k].toNat : Int) == ys[k].toNat) = true := by simp [he]
          have t2 : ((xs[k].toNat : Int) != ys[k].toNat) = false := by simp [he]
          have HS : Hid (xs.take (k + 1) = ys.take (k + 1)) := by
            show _ = _
            rw [take_snoc _ _ hlt, take_snoc _ _ hlt2, HT.out, he]
          clear he
          go_wp2
          go_quiet (fail)
          go_wp2
          go_roundw
          case rel => exact ⟨k + 1, _, by omega, by go_num, rfl, HS.out⟩
          case measure => simp [intOf]; omega
        · have hne : xs[k].toNat ≠ ys[k].toNat := fun h => he (UInt8.toNat_inj.1 h)
          have t1 : ((xs[k].toNat : Int) == ys[k].toNat) = false := by simp; omega
          have t2 : ((xs[k].toNat : Int) != ys[k].toNat) = true := by simp; omega
          have hF : Hid (decide (xs = ys) = false) := by
            show _ = _
            simp
            exact list_ne k hlt hlt2 he
          clear he hne
          go_wp2
          go_quiet (fail)
          go_wp2
          go_ret
          rw [hF.out]
          exact ⟨rfl, quiet2 _ _ _⟩
      · have hF : Hid (decide (xs = ys) = true) := by
          show _ = _
          have h := HT.out
          rw [List.take_of_length_le (by omega), List.take_of_length_le (by have := HL.out; omega)] at h
          simp [h]
        go_wp2
        go_ret
        rw [hF.out]
        exact ⟨rfl, _, rfl⟩
  · have hF : Hid (decide (xs = ys) = false) := by
      show _ = _
      simp
      intro e
      exact hlen (by rw [e])
    have ht : ((xs.length : Int) == ys.length) = false := by simp; omega
    have ht2 : ((xs.length : Int) != ys.length) = true := by simp; omega
    clear hlen
    go_enter Tryd.func13, Tryd.ntmps13
    go_wp2
    go_ret
    rw [hF.out]
    exact ⟨rfl, Quiet.refl _⟩

def greatF (acc : Nat) : List Fd → Bool
  | [] => false
  | f :: r => if 120000 < acc + (min f.text.length 100000 + min f.list.length 1000) then true else greatF (acc + (min f.text.length 100000 + min f.list.length 1000)) r
def great (l : List Fd) : Bool := decide (100 < l.length) || greatF 0 l

set_option maxHeartbeats 1000000 in
set_option maxRecDepth 100000 in
theorem great_any (w : World) (B : Nat) (A : Option Addr) (c : Nat) (l : List Fd) (hl : FdsV w B A l) (hB : B ≤ w.heap.size) (hl2 : l.length ≤ maxLen) :
    Calls Tryd.prog 9 #[.slice A l.length c] w fun e w' => e = .returned (.bool (great l)) ∧ Below w.heap.size w w' := by
  unfold maxLen at hl2
  have HL := hid hl
  clear hl
  by_cases h1 : 100 < l.length
  · have hE : great l = true := by simp [great, h1]
    rw [hE]
    go_enter Tryd.func9, Tryd.ntmps9
    go_wp2
    go_ret
    exact ⟨rfl, Below.refl _ _⟩
  · have hE : Hid (great l = greatF 0 l) := by show _ = _; simp [great, h1]
    go_enter Tryd.func9, Tryd.ntmps9
    go_wp2
    go_loopw [3, 11] (fun n i wr => ∃ k a : Nat, k ≤ l.length ∧ i = .int .i64 k ∧ n = .int .i64 a ∧ a ≤ 120000 ∧ Below w.heap.size w wr ∧ Hid (greatF 0 l = greatF a (l.drop k))) (fun _ i _ => l.length - (intOf i).toNat)
    case atStart => exact ⟨0, 0, Nat.zero_le _, rfl, rfl, by omega, Below.refl _ _, rfl⟩
    case round =>
      obtain ⟨k, a, hk, rfl, rfl, ha, hb, HG⟩ := hrel
      by_cases hlt : k < l.length
      · obtain ⟨b, o, rfl, hbw, hcells⟩ := HL.out (by intro e; rw [e] at hlt; simp at hlt)
        obtain ⟨tA, tc, lA, lc, hfd, e0, e1, e2, e3⟩ := hcells k hlt
        have hbw' : b < w.heap.size := by omega
        have c0 := (hb.cell (p := ⟨b, _, none⟩) hbw').trans e0
        have c1 := (hb.cell (p := ⟨b, _, none⟩) hbw').trans e1
        have c2 := (hb.cell (p := ⟨b, _, none⟩) hbw').trans e2
        have c3 := (hb.cell (p := ⟨b, _, none⟩) hbw').trans e3
        obtain ⟨_, _, _, _, _, _, _, ht1, ht2, _⟩ := hfd
        unfold maxLen at ht1 ht2
        clear e0 e1 e2 e3 hcells
        have hdrop : l.drop k = l[k] :: l.drop (k + 1) := List.drop_eq_getElem_cons hlt
        obtain ⟨x, HX⟩ : ∃ x : Nat, Hid (min l[k].text.length 100000 = x) := ⟨_, hid rfl⟩
        obtain ⟨y, HY⟩ : ∃ y : Nat, Hid (min l[k].list.length 1000 = y) := ⟨_, hid rfl⟩
        have hx : min (l[k].text.length : Int) 100000 = x := by have := HX.out; omega
        have hy : min (l[k].list.length : Int) 1000 = y := by have := HY.out; omega
        have hxb : x ≤ 100000 := by have := HX.out; omega
        have hyb : y ≤ 1000 := by have := HY.out; omega
        have HD : Hid (greatF 0 l = if 120000 < a + (x + y) then true else greatF (a + (x + y)) (l.drop (k + 1))) := by
          show _ = _
          rw [HG.out, hdrop, greatF, HX.out, HY.out]
        clear hdrop
        go_wp2
        · have hov : 120000 < a + (x + y) := by omega
          have hF : great l = true := by rw [hE.out, HD.out, if_pos hov]
          go_ret
          rw [hF]
          exact ⟨rfl, hb.alloc hb.size _⟩
        · go_roundw
          case rel =>
            have hov : ¬ 120000 < a + (x + y) := by omega
            exact ⟨k + 1, a + (x + y), by omega, by go_num, by go_num, by omega, hb.alloc hb.size _, by show _ = _; rw [HD.out, if_neg hov]⟩
          case measure => simp [intOf]; omega
      · have hd : l.drop k = [] := List.drop_of_length_le (by omega)
        have hF : Hid (great l = false) := by show _ = _; rw [hE.out, HG.out, hd]; rfl
        clear hd
        go_wp2
        go_ret
        rw [hF.out]
        exact ⟨rfl, hb⟩
end Go.Proofs.YtoedhblihodgdaaDoor
