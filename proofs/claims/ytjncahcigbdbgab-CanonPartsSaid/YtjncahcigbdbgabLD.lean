import Derived.Test.YtjncahcigbdbgabLC
namespace Go.Proofs.Ytjncahcigbdbgab
open Go.RowKit

/-! What lines use, their bytes, the same lines, too many lines. -/
def usedL (ls : List (List UInt8 × Bool)) : Nat := (ls.map fun x => x.1.length + (if x.2 = true then 1 else 0)).sum
def flatL (ls : List (List UInt8 × Bool)) : List UInt8 := (ls.map (·.1)).flatten
def minL (ls : List (List UInt8 × Bool)) : Nat := (ls.map fun x => min x.1.length 10000).sum
def greatL (ls : List (List UInt8 × Bool)) : Bool := decide (200 < ls.length) || decide (10000 < minL ls)
theorem usedL_snoc (ls : List (List UInt8 × Bool)) (x : List UInt8 × Bool) : usedL (ls ++ [x]) = usedL ls + (x.1.length + (if x.2 = true then 1 else 0)) := by simp [usedL]
theorem usedL_append (a b : List (List UInt8 × Bool)) : usedL (a ++ b) = usedL a + usedL b := by simp [usedL]
theorem flatL_snoc (ls : List (List UInt8 × Bool)) (x : List UInt8 × Bool) : flatL (ls ++ [x]) = flatL ls ++ x.1 := by simp [flatL]
theorem minL_snoc (ls : List (List UInt8 × Bool)) (x : List UInt8 × Bool) : minL (ls ++ [x]) = minL ls + min x.1.length 10000 := by simp [minL]
theorem minL_cons (ls : List (List UInt8 × Bool)) (x : List UInt8 × Bool) : minL (x :: ls) = min x.1.length 10000 + minL ls := by simp [minL]
theorem minL_le (ls : List (List UInt8 × Bool)) : minL ls ≤ 10000 * ls.length := by
  induction ls with
  | nil => exact Nat.le_refl _
  | cons x ls ih => rw [minL_cons, List.length_cons]; omega
theorem minL_each {ls : List (List UInt8 × Bool)} (h : minL ls ≤ 10000) : ∀ x ∈ ls, x.1.length ≤ 10000 ∨ minL ls = 10000 := by
  induction ls with
  | nil => intro x hx; cases hx
  | cons y ls ih =>
    rw [minL_cons] at h ⊢
    intro x hx
    rcases List.mem_cons.1 hx with rfl | hx
    · omega
    · rcases ih (by omega) x hx with h2 | h2
      · exact Or.inl h2
      · omega
theorem lnR_at {rs : List Rc} {k : Nat} {r : Rc} (h : rs[k]? = some r) : lnR (rs.take (k + 1)) = lnR (rs.take k) ++ [r.ln] := by rw [rcV_take h, lnR_snoc]
set_option maxRecDepth 100000 in
set_option maxHeartbeats 2000000 in
theorem great_any (w : World) (A : Option Addr) (n c : Nat) (rs : List Rc) (hl : Hid (LnV w w.heap.size A c rs)) (hn : rs.length = n) (hm : n ≤ 100000000000000) :
    Calls Try.prog 8 #[.slice A n c] w fun e w' => e = .returned (.bool (greatL (lnR rs))) ∧ Hid (Below w.heap.size w w') := by
  have HN := hid hn
  have hlen : Hid ((lnR rs).length = n) := hid (by rw [lnR_len, hn])
  obtain ⟨G, hG⟩ : ∃ G, Hid (greatL (lnR rs) = G) := ⟨_, hid rfl⟩
  rw [hG.out]
  go_enter Try.func8, Try.ntmps8
  go_wp2
  go_loopw [3, 8] (fun s i wr => ∃ k m : Nat, k ≤ n ∧ m ≤ 10000 * k ∧ i = .int .i64 k ∧ s = .int .i64 m ∧ Hid (minL (lnR (rs.take k)) = m) ∧ Hid (Below w.heap.size w wr)) (fun _ i _ => n - (intOf i).toNat)
  case atStart => exact ⟨0, 0, Nat.zero_le _, Nat.zero_le _, rfl, rfl, hid rfl, hid (Below.refl _ _)⟩
  case round =>
    obtain ⟨k, m, hk, hmk, rfl, rfl, HM, HB⟩ := hrel
    by_cases hlt : k < n
    · have HLw := ln_up hl HB.out
      obtain ⟨b, o, r, hA, hr, d0, d1, hS⟩ := HLw.out.at (k := k) (by rw [hn]; exact hlt)
      subst hA
      have HT := hid (lnR_at hr)
      obtain ⟨x, hx⟩ : ∃ x, Hid (r.bs.length = x) := ⟨_, hid rfl⟩
      have hx2 : x ≤ maxLen := by have h1 := hS.1; have h2 := hS.2.1; rw [hx.out] at h1; omega
      unfold maxLen at hx2
      rw [hx.out] at d0
      obtain ⟨y, hy⟩ : ∃ y, min x 10000 = y := ⟨_, rfl⟩
      have hyi : min (x : Int) 10000 = (y : Int) := by omega
      have hyl : y ≤ 10000 := by omega
      have HY : Hid (minL (lnR (rs.take (k + 1))) = m + y) := hid (by rw [HT.out, minL_snoc, HM.out]; show m + min r.bs.length 10000 = _; rw [hx.out, hy])
      have b1 := hid ((Below.refl wr.heap.size wr).alloc (Nat.le_refl _) (.cells #[.slice r.A x r.c, .bool r.e] 25))
      have B1 := bel_t HB b1.out
      clear hS hr hy
      by_cases hc : x ≤ 10000
      all_goals
        go_wp2
        go_roundw
        case rel => exact ⟨k + 1, m + y, by omega, by omega, by go_num, by go_num, HY, B1⟩
        case measure => simp [intOf] <;> omega
    · have hkn : k = n := by omega
      have e : rs.take k = rs := List.take_of_length_le (by have := HN.out; omega)
      rw [e] at HM
      have hg : G = (decide (200 < n) || decide (10000 < m)) := by rw [← hG.out]; unfold greatL; rw [hlen.out, HM.out]
      by_cases h2 : 200 < n
      · have e2 : (200 : Int) < (n : Int) := by omega
        obtain rfl : G = true := by rw [hg]; simp [h2]
        clear hg
        go_wp2
        go_ret
        exact ⟨rfl, HB⟩
      · have e2 : ¬ (200 : Int) < (n : Int) := by omega
        by_cases h3 : 10000 < m
        · have e3 : (10000 : Int) < (m : Int) := by omega
          obtain rfl : G = true := by rw [hg]; simp [h3]
          clear hg
          go_wp2
          go_ret
          exact ⟨rfl, HB⟩
        · have e3 : ¬ (10000 : Int) < (m : Int) := by omega
          obtain rfl : G = false := by rw [hg]; simp [h2, h3]
          clear hg
          go_wp2
          go_ret
          exact ⟨rfl, HB⟩
set_option maxRecDepth 100000 in
set_option maxHeartbeats 2000000 in
theorem usedr_any (w : World) (A : Option Addr) (n c : Nat) (rs : List Rc) (hl : Hid (LnV w w.heap.size A c rs)) (hn : rs.length = n) (hm : n ≤ 1000) (ht : Hid (∀ r ∈ rs, r.bs.length ≤ 140737488351232)) :
    Calls Try.prog 19 #[.slice A n c] w fun e w' => e = .returned (.int .i64 ((usedL (lnR rs) : Nat) : Int)) ∧ Hid (Below w.heap.size w w') := by
  have HN := hid hn
  go_enter Try.func19, Try.ntmps19
  go_wp2
  go_loopw [3, 8] (fun s i wr => ∃ k m : Nat, k ≤ n ∧ m ≤ 140737488351233 * k ∧ i = .int .i64 k ∧ s = .int .i64 m ∧ Hid (usedL (lnR (rs.take k)) = m) ∧ Hid (Below w.heap.size w wr)) (fun _ i _ => n - (intOf i).toNat)
  case atStart => exact ⟨0, 0, Nat.zero_le _, Nat.zero_le _, rfl, rfl, hid rfl, hid (Below.refl _ _)⟩
  case round =>
    obtain ⟨k, m, hk, hmk, rfl, rfl, HM, HB⟩ := hrel
    by_cases hlt : k < n
    · have HLw := ln_up hl HB.out
      obtain ⟨b, o, r, hA, hr, d0, d1, hS⟩ := HLw.out.at (k := k) (by rw [hn]; exact hlt)
      subst hA
      have HT := hid (lnR_at hr)
      obtain ⟨x, hx⟩ : ∃ x, Hid (r.bs.length = x) := ⟨_, hid rfl⟩
      have hx2 : x ≤ 140737488351232 := by rw [← hx.out]; exact ht.out r (List.mem_of_getElem? hr)
      rw [hx.out] at d0
      obtain ⟨v, hv⟩ : ∃ v, r.e = v := ⟨_, rfl⟩
      have HY : Hid (usedL (lnR (rs.take (k + 1))) = m + (x + (if v = true then 1 else 0))) := hid (by rw [HT.out, usedL_snoc, HM.out]; show m + (r.bs.length + (if r.e = true then 1 else 0)) = _; rw [hx.out, hv])
      have b1 := hid ((Below.refl wr.heap.size wr).alloc (Nat.le_refl _) (.cells #[.slice r.A x r.c, .bool v] 37))
      have B1 := bel_t HB b1.out
      rw [hv] at d1
      clear hS hr hv
      cases v
      · have HY0 : Hid (usedL (lnR (rs.take (k + 1))) = m + x) := HY
        go_wp2
        go_roundw
        case rel => exact ⟨k + 1, m + x, by omega, by omega, by go_num, by go_num, HY0, B1⟩
        case measure => simp [intOf] <;> omega
      · have HY1 : Hid (usedL (lnR (rs.take (k + 1))) = m + x + 1) := HY
        go_wp2
        go_roundw
        case rel => exact ⟨k + 1, m + x + 1, by omega, by omega, by go_num, by go_num, HY1, B1⟩
        case measure => simp [intOf] <;> omega
    · have hkn : k = n := by omega
      have e : rs.take k = rs := List.take_of_length_le (by have := HN.out; omega)
      rw [e] at HM
      have hM := HM.out
      clear HM
      subst hM
      go_wp2
      go_ret
      exact ⟨rfl, HB⟩
set_option maxRecDepth 100000 in
set_option maxHeartbeats 2000000 in
theorem flatr_any (w : World) (A : Option Addr) (n c : Nat) (rs : List Rc) (hl : Hid (LnV w w.heap.size A c rs)) (hn : rs.length = n) (hm : n ≤ 1000) (ht : Hid (∀ k, (flatL (lnR (rs.take k))).length ≤ 140737488351232)) :
    Calls Try.prog 21 #[.slice A n c] w (Own w (flatL (lnR rs))) := by
  have HN := hid hn
  go_enter Try.func21, Try.ntmps21
  go_wp2
  go_loopw [3, 8] (fun s i wr => ∃ (k m : Nat) (A2 : Option Addr) (c2 : Nat), k ≤ n ∧ m ≤ 140737488351232 ∧ i = .int .i64 k ∧ s = .slice A2 m c2 ∧ Hid ((flatL (lnR (rs.take k))).length = m) ∧ Hid (wr.ownsRow w.heap.size 5 1 (.slice A2 m c2) m (bv (flatL (lnR (rs.take k))))) ∧ Hid (Below w.heap.size w wr)) (fun _ i _ => n - (intOf i).toNat)
  case atStart => exact ⟨0, 0, none, 0, Nat.zero_le _, Nat.zero_le _, rfl, rfl, hid rfl, hid (World.ownsRow_nil _ _ _ _), hid (Below.refl _ _)⟩
  case round =>
    obtain ⟨k, m, A2, c2, hk, hmk, rfl, rfl, HM, HO, HB⟩ := hrel
    by_cases hlt : k < n
    · have HLw := ln_up hl HB.out
      obtain ⟨b, o, r, hA, hr, d0, d1, hS⟩ := HLw.out.at (k := k) (by rw [hn]; exact hlt)
      subst hA
      have HT := hid (lnR_at hr)
      obtain ⟨x, hx⟩ : ∃ x, Hid (r.bs.length = x) := ⟨_, hid rfl⟩
      have HY : Hid (flatL (lnR (rs.take (k + 1))) = flatL (lnR (rs.take k)) ++ r.bs) := hid (by rw [HT.out, flatL_snoc]; rfl)
      have hmx : m + x ≤ 140737488351232 := by have h := ht.out (k + 1); rw [HY.out, List.length_append, HM.out, hx.out] at h; exact h
      rw [hx.out] at d0
      have b1 := hid ((Below.refl wr.heap.size wr).alloc (Nat.le_refl _) (.cells #[.slice r.A x r.c, .bool r.e] 37))
      have B1 := bel_t HB b1.out
      have O1 := hid (own_keep HO.out b1.out)
      have S1 := slb_at (hid hS) b1
      have hz1 := B1.out.size
      obtain ⟨fs, hfs⟩ : ∃ fs, flatL (lnR (rs.take k)) = fs := ⟨_, rfl⟩
      rw [hfs] at HM HO HY O1
      clear hS hr hfs b1
      go_wp2_with (first
        | (at_builtin
           (refine app_own _ (by rfl) (.tmp 12) (.tmp 14) rfl w.heap.size m c2 A2 fs rfl O1 hz1 r.A x r.c r.bs rfl S1 hx.out (by omega) ?_)
           intro A3 c3 u3 O3 k3
           have B3 := bel_k B1 k3))
      go_roundw
      case rel => exact ⟨k + 1, m + x, A3, c3, by omega, by omega, by go_num, rfl, hid (by rw [HY.out, List.length_append, HM.out, hx.out]), by rw [HY.out]; exact O3, B3⟩
      case measure => simp [intOf] <;> omega
    · have hkn : k = n := by omega
      have e : rs.take k = rs := List.take_of_length_le (by have := HN.out; omega)
      rw [e] at HM HO
      go_wp2
      go_ret
      exact ⟨_, _, _, rfl, HM, HO, HB⟩
end Go.Proofs.Ytjncahcigbdbgab
