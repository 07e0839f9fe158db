import Derived.Test.YtjncahcigbdbgabLH
namespace Go.Proofs.Ytjncahcigbdbgab
open Go.RowKit

/-! The program's Used and Flat. -/
set_option maxRecDepth 100000 in
set_option maxHeartbeats 2000000 in
theorem usedp_any (w : World) (A : Option Addr) (n c : Nat) (rs : List Rc) (hl : Hid (LnV w w.heap.size A c rs)) (hn : rs.length = n) (hm : n ≤ 1000) (ht : Hid (∀ r ∈ rs, r.bs.length ≤ 140737488351232)) :
    Calls Try.prog 18 #[.slice A n c] w fun e w' => e = .returned (.int .i64 ((usedL (lnR rs) : Nat) : Int)) ∧ Hid (Below w.heap.size w w') := by
  have HN := hid hn
  go_enter Try.func18, Try.ntmps18
  go_wp2
  go_loopw [3, 8] (fun s i wr => ∃ k m : Nat, k ≤ n ∧ m ≤ 140737488351233 * k ∧ i = .int .i64 k ∧ s = .int .i64 m ∧ Hid (usedL (lnR (rs.take k)) = m) ∧ Hid (Below w.heap.size w wr)) (fun _ i _ => n - (intOf i).toNat)
  case atStart => exact ⟨0, 0, Nat.zero_le _, Nat.zero_le _, rfl, rfl, hid rfl, hid (Below.refl _ _)⟩
  case round =>
    obtain ⟨k, m, hk, hmk, rfl, rfl, HM, HB⟩ := hrel
    by_cases hlt : k < n
    · have HLw := ln_up hl HB.out
      obtain ⟨b, o, r, hA, hr, d0, d1, hS⟩ := HLw.out.at (k := k) (by rw [hn]; exact hlt)
      subst hA
      have HT := hid (lnR_at hr)
      obtain ⟨x, hx⟩ : ∃ x, Hid (r.bs.length = x) := ⟨_, hid rfl⟩
      have hx2 : x ≤ 140737488351232 := by rw [← hx.out]; exact ht.out r (List.mem_of_getElem? hr)
      rw [hx.out] at d0
      obtain ⟨v, hv⟩ : ∃ v, r.e = v := ⟨_, rfl⟩
      have HY : Hid (usedL (lnR (rs.take (k + 1))) = m + (x + (if v = true then 1 else 0))) := hid (by rw [HT.out, usedL_snoc, HM.out]; show m + (r.bs.length + (if r.e = true then 1 else 0)) = _; rw [hx.out, hv])
      have b1 := hid ((Below.refl wr.heap.size wr).alloc (Nat.le_refl _) (.cells #[.slice r.A x r.c, .bool v] 30))
      have B1 := bel_t HB b1.out
      rw [hv] at d1
      clear hS hr hv
      cases v
      · have HY0 : Hid (usedL (lnR (rs.take (k + 1))) = m + x) := HY
        go_wp2
        go_roundw
        case rel => exact ⟨k + 1, m + x, by omega, by omega, by go_num, by go_num, HY0, B1⟩
        case measure => simp [intOf] <;> omega
      · have HY1 : Hid (usedL (lnR (rs.take (k + 1))) = m + x + 1) := HY
        go_wp2
        go_roundw
        case rel => exact ⟨k + 1, m + x + 1, by omega, by omega, by go_num, by go_num, HY1, B1⟩
        case measure => simp [intOf] <;> omega
    · have hkn : k = n := by omega
      have e : rs.take k = rs := List.take_of_length_le (by have := HN.out; omega)
      rw [e] at HM
      have hM := HM.out
      clear HM
      subst hM
      go_wp2
      go_ret
      exact ⟨rfl, HB⟩
set_option maxRecDepth 100000 in
set_option maxHeartbeats 2000000 in
theorem flatp_any (w : World) (A : Option Addr) (n c : Nat) (rs : List Rc) (hl : Hid (LnV w w.heap.size A c rs)) (hn : rs.length = n) (hm : n ≤ 1000) (ht : Hid (∀ k, (flatL (lnR (rs.take k))).length ≤ 140737488351232)) :
    Calls Try.prog 20 #[.slice A n c] w (Own w (flatL (lnR rs))) := by
  have HN := hid hn
  go_enter Try.func20, Try.ntmps20
  go_wp2
  go_loopw [3, 8] (fun s i wr => ∃ (k m : Nat) (A2 : Option Addr) (c2 : Nat), k ≤ n ∧ m ≤ 140737488351232 ∧ i = .int .i64 k ∧ s = .slice A2 m c2 ∧ Hid ((flatL (lnR (rs.take k))).length = m) ∧ Hid (wr.ownsRow w.heap.size 5 1 (.slice A2 m c2) m (bv (flatL (lnR (rs.take k))))) ∧ Hid (Below w.heap.size w wr)) (fun _ i _ => n - (intOf i).toNat)
  case atStart => exact ⟨0, 0, none, 0, Nat.zero_le _, Nat.zero_le _, rfl, rfl, hid rfl, hid (World.ownsRow_nil _ _ _ _), hid (Below.refl _ _)⟩
  case round =>
    obtain ⟨k, m, A2, c2, hk, hmk, rfl, rfl, HM, HO, HB⟩ := hrel
    by_cases hlt : k < n
    · have HLw := ln_up hl HB.out
      obtain ⟨b, o, r, hA, hr, d0, d1, hS⟩ := HLw.out.at (k := k) (by rw [hn]; exact hlt)
      subst hA
      have HT := hid (lnR_at hr)
      obtain ⟨x, hx⟩ : ∃ x, Hid (r.bs.length = x) := ⟨_, hid rfl⟩
      have HY : Hid (flatL (lnR (rs.take (k + 1))) = flatL (lnR (rs.take k)) ++ r.bs) := hid (by rw [HT.out, flatL_snoc]; rfl)
      have hmx : m + x ≤ 140737488351232 := by have h := ht.out (k + 1); rw [HY.out, List.length_append, HM.out, hx.out] at h; exact h
      rw [hx.out] at d0
      have b1 := hid ((Below.refl wr.heap.size wr).alloc (Nat.le_refl _) (.cells #[.slice r.A x r.c, .bool r.e] 30))
      have B1 := bel_t HB b1.out
      have O1 := hid (own_keep HO.out b1.out)
      have S1 := slb_at (hid hS) b1
      have hz1 := B1.out.size
      obtain ⟨fs, hfs⟩ : ∃ fs, flatL (lnR (rs.take k)) = fs := ⟨_, rfl⟩
      rw [hfs] at HM HO HY O1
      clear hS hr hfs b1
      go_wp2_with (first
        | (at_builtin
           (refine app_own _ (by rfl) (.tmp 12) (.tmp 14) rfl w.heap.size m c2 A2 fs rfl O1 hz1 r.A x r.c r.bs rfl S1 hx.out (by omega) ?_)
           intro A3 c3 u3 O3 k3
           have B3 := bel_k B1 k3))
      go_roundw
      case rel => exact ⟨k + 1, m + x, A3, c3, by omega, by omega, by go_num, rfl, hid (by rw [HY.out, List.length_append, HM.out, hx.out]), by rw [HY.out]; exact O3, B3⟩
      case measure => simp [intOf] <;> omega
    · have hkn : k = n := by omega
      have e : rs.take k = rs := List.take_of_length_le (by have := HN.out; omega)
      rw [e] at HM HO
      go_wp2
      go_ret
      exact ⟨_, _, _, rfl, HM, HO, HB⟩
end Go.Proofs.Ytjncahcigbdbgab
