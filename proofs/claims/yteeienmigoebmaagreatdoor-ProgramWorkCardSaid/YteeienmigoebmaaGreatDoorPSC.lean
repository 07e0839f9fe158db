import Derived.Test.YteeienmigoebmaaGreatDoorPSB
namespace Go.Proofs.YteeienmigoebmaaGreatDoor
namespace L19
open Go.RowKit L18

/-! Layer 19: the document's Right of any kind, named, Find. -/
section
variable {w : World}
set_option maxRecDepth 100000 in
set_option maxHeartbeats 2000000 in
theorem rightr_any (w : World) (o1 a b : Int) (t : List UInt8) (i all : Int) {r : Bool} (hr : Hid (rightO (o1, a, b, t) i all = r)) : Calls Tryz.prog 49 #[.agg #[.int .i64 o1, .int .i64 a, .int .i64 b, .string (bs t)], .int .i64 i, .int .i64 all] w fun e w' => e = .returned (.bool r) ∧ Hid (Below w.heap.size w w') := by
  by_cases h : 1 ≤ o1 ∧ o1 ≤ 16
  · obtain ⟨k, rfl⟩ : ∃ k : Nat, o1 = (k : Int) := ⟨o1.toNat, by omega⟩
    exact right3 w a b t i all (by omega) (by omega) hr
  · have K0 : Hid (Below w.heap.size w (w.alloc (.cells #[.int .i64 o1, .int .i64 a, .int .i64 b, .string (bs t)] 53))) := hid ((Below.refl _ w).alloc (Nat.le_refl _) _)
    have h5 : r = false := by
      rw [← hr.out]
      unfold rightO
      by_cases h1 : 1 ≤ o1
      · have h2 : ¬ o1 ≤ 16 := fun e => h ⟨h1, e⟩
        simp [h2]
      · simp [h1]
    subst h5
    go_enter Tryz.func49, Tryz.ntmps49
    by_cases h1 : o1 < 1
    · go_wp2
      go_ret
      exact ⟨rfl, K0⟩
    · have h2 : o1 > 16 := by omega
      go_wp2
      go_ret
      exact ⟨rfl, K0⟩
theorem bs_at (s : List UInt8) (k : Nat) : (bs s)[k]? = s[k]? := by
  show (if h : k < (bs s).size then some (bs s)[k] else none) = s[k]?
  split
  · rename_i h
    rw [bs_size] at h
    rw [List.getElem?_eq_getElem h]
    rfl
  · rename_i h
    rw [bs_size] at h
    rw [List.getElem?_eq_none (by omega)]
theorem nameC_i (c : UInt8) : nameC c = ((decide (97 ≤ (c.toNat : Int)) && decide ((c.toNat : Int) ≤ 122)) || (decide (48 ≤ (c.toNat : Int)) && decide ((c.toNat : Int) ≤ 57))) := by
  revert c
  exact all256 (by decide +kernel)
set_option maxRecDepth 100000 in
set_option maxHeartbeats 2000000 in
theorem namedr_any (w : World) (s : List UInt8) {r : Bool} (hr : Hid (namedB s = r)) : Calls Tryz.prog 48 #[.string (bs s)] w fun e w' => e = .returned (.bool r) ∧ w' = w := by
  have hs := bs_size s
  go_enter Tryz.func48, Tryz.ntmps48
  by_cases h1 : s.length < 1
  · have h2 : ((bs s).size : Int) < 1 := by omega
    have h5 : r = false := by rw [← hr.out]; unfold namedB; simp [show ¬ 1 ≤ s.length by omega]
    subst h5
    go_wp2
    go_ret
    exact ⟨rfl, rfl⟩
  by_cases h3 : 64 < s.length
  · have h2 : ¬ ((bs s).size : Int) < 1 := by omega
    have h4 : ((bs s).size : Int) > 64 := by omega
    have h5 : r = false := by rw [← hr.out]; unfold namedB; simp [show ¬ s.length ≤ 64 by omega]
    subst h5
    go_wp2
    go_ret
    exact ⟨rfl, rfl⟩
  have h2 : ¬ ((bs s).size : Int) < 1 := by omega
  have h4 : ¬ ((bs s).size : Int) > 64 := by omega
  have HR : Hid (s.all nameC = r) := hid (by have := hr.out; unfold namedB at this; simpa [show 1 ≤ s.length by omega, show s.length ≤ 64 by omega] using this)
  obtain ⟨n, hn⟩ : ∃ n, s.length = n := ⟨_, rfl⟩
  rw [hn] at h1 h3 hs
  have hsz : ((bs s).size : Int) = n := by omega
  clear hr h2 h4
  have h2 : ¬ (n : Int) < 1 := by omega
  have h4 : ¬ (n : Int) > 64 := by omega
  go_wp2
  go_loopw [3] (fun i wr => ∃ k : Nat, k ≤ n ∧ i = .int .i64 k ∧ wr = w ∧ Hid ((s.drop k).all nameC = r)) (fun i _ => n - (intOf i).toNat)
  case atStart => exact ⟨0, Nat.zero_le _, rfl, rfl, HR⟩
  case round =>
    obtain ⟨k, hk, rfl, rfl, HK⟩ := hrel
    by_cases hlt : k < n
    · have hi : (k : Int) < n := by omega
      obtain ⟨c, hc⟩ : ∃ c, s[k]? = some c := ⟨_, List.getElem?_eq_getElem (by omega)⟩
      have hx : (bs s)[k]? = some c := by rw [bs_at, hc]
      have hx2 : ∀ h : k < (bs s).size, (bs s)[k]'h = c := fun h => by
        rw [getElem?_pos (bs s) k h] at hx
        exact Option.some.inj hx
      have hd : s.drop k = c :: s.drop (k + 1) := by
        obtain ⟨h1, h2⟩ := List.getElem?_eq_some_iff.1 hc
        rw [List.drop_eq_getElem_cons h1, h2]
      have HK2 : Hid ((nameC c && (s.drop (k + 1)).all nameC) = r) := hid (by
        have := HK.out
        rw [hd, List.all_cons] at this
        exact this)
      rw [nameC_i] at HK2
      clear hd hc HK
      have hw7 : IntKind.i64.wrap ((k : Int) + 1) = (k : Int) + 1 := IntWalk.i64_in _ (by omega)
      obtain ⟨z, hz⟩ : ∃ z : Int, (c.toNat : Int) = z := ⟨_, rfl⟩
      rw [hz] at HK2
      obtain h | h | h | h | h : z < 48 ∨ (48 ≤ z ∧ z ≤ 57) ∨ (57 < z ∧ z < 97) ∨ (97 ≤ z ∧ z ≤ 122) ∨ 122 < z := by omega
      · have f1 : ¬ 97 ≤ z := by omega
        have f2 : ¬ 48 ≤ z := by omega
        have h5 : r = false := by rw [← HK2.out]; simp [f1, f2]
        subst h5
        go_wp2
        go_ret
        exact ⟨rfl, rfl⟩
      · have f1 : ¬ 97 ≤ z := by omega
        obtain ⟨f2, f3⟩ := h
        have HK3 : Hid ((s.drop (k + 1)).all nameC = r) := hid (by have := HK2.out; simpa [f1, f2, f3] using this)
        go_wp2
        go_roundw
        case rel => exact ⟨k + 1, by omega, by go_num, by trivial, HK3⟩
        case measure => simp [intOf] <;> omega
      · have f1 : ¬ 97 ≤ z := by omega
        have f2 : 48 ≤ z := by omega
        have f3 : ¬ z ≤ 57 := by omega
        have h5 : r = false := by rw [← HK2.out]; simp [f1, f3]
        subst h5
        go_wp2
        go_ret
        exact ⟨rfl, rfl⟩
      · obtain ⟨f2, f3⟩ := h
        have HK3 : Hid ((s.drop (k + 1)).all nameC = r) := hid (by have := HK2.out; simpa [f2, f3] using this)
        go_wp2
        go_roundw
        case rel => exact ⟨k + 1, by omega, by go_num, by trivial, HK3⟩
        case measure => simp [intOf] <;> omega
      · have f1 : 97 ≤ z := by omega
        have f2 : ¬ z ≤ 122 := by omega
        have f3 : 48 ≤ z := by omega
        have f4 : ¬ z ≤ 57 := by omega
        have h5 : r = false := by rw [← HK2.out]; simp [f2, f4]
        subst h5
        go_wp2
        go_ret
        exact ⟨rfl, rfl⟩
    · have hi : ¬ (k : Int) < n := by omega
      have h5 : r = true := by
        rw [← HK.out, List.drop_of_length_le (by omega)]
        rfl
      subst h5
      go_wp2
      go_ret
      exact ⟨rfl, rfl⟩
def findP : List ProgV → List UInt8 → Nat → Int × Bool
  | [], _, _ => (0, false)
  | p :: r, s, k => if p.1 = s then ((k : Int), true) else findP r s (k + 1)
set_option maxRecDepth 100000 in
set_option maxHeartbeats 2000000 in
theorem findr_any (w : World) (A : Option Addr) (n c : Nat) (X : List PgX) (hl : Hid (PgM w w.heap.size A c X)) (hn : X.length = n) (s : List UInt8) {i : Int} {r : Bool} (hr : Hid (findP (prL X) s 0 = (i, r))) :
    Calls Tryz.prog 50 #[.slice A n c, .string (bs s)] w fun e w' => e = .returned (.tuple #[.int .i64 i, .bool r]) ∧ Hid (Below w.heap.size w w') := by
  have HN := hid hn
  have hcap : n ≤ maxLen := by rw [← hn]; exact Nat.le_trans hl.out.len hl.out.cap
  unfold maxLen at hcap
  go_enter Tryz.func50, Tryz.ntmps50
  go_wp2
  go_loopw [10] (fun j wr => ∃ k : Nat, k ≤ n ∧ j = .int .i64 k ∧ Hid (Below w.heap.size w wr) ∧ Hid (findP ((prL X).drop k) s k = (i, r))) (fun j _ => n - (intOf j).toNat)
  case atStart => exact ⟨0, Nat.zero_le _, rfl, hid (Below.refl _ _), hr⟩
  case round =>
    obtain ⟨k, hk, rfl, HB, HF⟩ := hrel
    by_cases hlt : k < n
    · have hi2 : (k : Int) < n := by omega
      obtain ⟨b, o, x, hA, hx, c0, c1, _⟩ := (pg_up hl HB.out).out.at (k := k) (by rw [hn]; exact hlt)
      subst hA
      have hd : (prL X).drop k = x.1 :: (prL X).drop (k + 1) := by
        have h0 : (prL X)[k]? = some x.1 := by simp [prL, hx]
        obtain ⟨h1, h2⟩ := List.getElem?_eq_some_iff.1 h0
        rw [List.drop_eq_getElem_cons h1, h2]
      have HF2 : Hid ((if x.1.1 = s then ((k : Int), true) else findP ((prL X).drop (k + 1)) s (k + 1)) = (i, r)) := hid (by
        have := HF.out
        rw [hd] at this
        exact this)
      obtain ⟨⟨nm, ops⟩, oA, oc⟩ := x
      simp only at c0 c1 HF2
      have BZ := fun ob => bel_al (o := ob) HB
      have hw7 : IntKind.i64.wrap ((k : Int) + 1) = (k : Int) + 1 := IntWalk.i64_in _ (by omega)
      clear hd hx HF
      by_cases hs : nm = s
      · have t1 : ((bs nm).toList == (bs s).toList) = true := by rw [str_eqb]; simp [hs]
        have h5 : (k : Int) = i ∧ true = r := by
          have := HF2.out
          rw [if_pos hs] at this
          injection this with h1 h2
          exact ⟨h1, h2⟩
        obtain ⟨rfl, rfl⟩ := h5
        clear hs HF2
        go_wp2
        go_ret2
        exact ⟨rfl, BZ _⟩
      · have t1 : ((bs nm).toList == (bs s).toList) = false := by rw [str_eqb]; simp [hs]
        have HF3 : Hid (findP ((prL X).drop (k + 1)) s (k + 1) = (i, r)) := hid (by rw [← HF2.out, if_neg hs])
        clear hs HF2
        go_wp2
        go_roundw
        case rel => exact ⟨k + 1, by omega, by go_num, BZ _, HF3⟩
        case measure => simp [intOf] <;> omega
    · have hi2 : ¬ (k : Int) < n := by omega
      have h5 : 0 = i ∧ false = r := by
        have := HF.out
        rw [List.drop_of_length_le (by rw [prL_len, HN.out]; omega)] at this
        injection this with h1 h2
        exact ⟨h1, h2⟩
      obtain ⟨rfl, rfl⟩ := h5
      go_wp2
      go_ret2
      exact ⟨rfl, HB⟩
end
end L19
end Go.Proofs.YteeienmigoebmaaGreatDoor
