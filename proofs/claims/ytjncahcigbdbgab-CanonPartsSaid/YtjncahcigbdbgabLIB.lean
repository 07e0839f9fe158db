import Derived.Test.YtjncahcigbdbgabLIA
import Derived.Deep.RegionHeld3
namespace Go.Proofs.Ytjncahcigbdbgab
open Go.RowKit

/-! The program's copies: of bytes, of lines. -/
set_option maxRecDepth 100000 in
theorem cbytes_any (w : World) (A : Option Addr) (n c : Nat) (bs : List UInt8) (hS : Hid (SlB w w.heap.size A c bs)) (hn : bs.length = n) (hm : n ≤ 140737488355328) :
    Calls Try.prog 27 #[.slice A n c] w (Own w bs) := by
  have HN := hid hn
  have hm0 : 0 + n ≤ 140737488355328 := by omega
  have O0 : Hid (w.ownsRow w.heap.size 5 1 (.slice none 0 0) 0 (bv [])) := hid (World.ownsRow_nil _ _ _ _)
  go_enter Try.func27, Try.ntmps27
  go_wp2_with (first
    | (at_builtin
       (refine app_own w (by rfl) (.const (.slice none 0 0)) (.tmp 3) rfl w.heap.size 0 0 none [] rfl O0 (Nat.le_refl _) A n c bs rfl hS hn hm0 ?_)
       intro A3 c3 u3 O3 k3
       rw [Nat.zero_add] at O3 ⊢))
  go_ret
  exact ⟨A3, n, c3, rfl, HN, O3, hid (k3.out.below (Nat.le_refl _))⟩
theorem cbytes_grow (u W : World) (hW : Below u.heap.size u W) (A : Option Addr) (n c : Nat) (bs : List UInt8) (hS : Hid (SlB W W.heap.size A c bs)) (hn : bs.length = n) (hm : n ≤ 140737488355328) :
    Calls Try.prog 27 #[.slice A n c] W fun e w' => ∃ A5 c5, e = .returned (.slice A5 n c5) ∧ Hid (w'.ownsRow W.heap.size 5 1 (.slice A5 n c5) n (bv bs)) ∧ Below u.heap.size u w' ∧ Below W.heap.size W w' := by
  refine (cbytes_any W A n c bs hS hn hm).mono ?_
  rintro e w' ⟨A5, n5, c5, rfl, h1, h2, h3⟩
  obtain rfl : n5 = n := h1.out.symm.trans hn
  exact ⟨A5, c5, rfl, h2, hW.trans (h3.out.mono hW.size), h3.out⟩
set_option maxRecDepth 100000 in
set_option maxHeartbeats 4000000 in
theorem copied_any (w : World) (A : Option Addr) (n c : Nat) (rs : List Rc) (hl : Hid (LnV w w.heap.size A c rs)) (hn : rs.length = n) (hm : n ≤ 1000) (ht : Hid (∀ r ∈ rs, r.bs.length ≤ 140737488351232)) :
    Calls Try.prog 23 #[.slice A n c] w fun e w' => ∃ A2 c2 qs, e = .returned (.slice A2 n c2) ∧ Hid (lnR qs = lnR rs) ∧ Hid (LnN w' w.heap.size 30 A2 n c2 qs) ∧ Hid (Below w.heap.size w w') := by
  have HN := hid hn
  go_enter Try.func23, Try.ntmps23
  go_wp2
  go_loopw [3, 8] (fun o i wr => ∃ (k : Nat) (A2 : Option Addr) (c2 : Nat) (qs : List Rc), k ≤ n ∧ i = .int .i64 k ∧ o = .slice A2 k c2 ∧ Hid (lnR qs = lnR (rs.take k)) ∧ Hid (LnN wr w.heap.size 30 A2 k c2 qs) ∧ Hid (Below w.heap.size w wr)) (fun _ i _ => n - (intOf i).toNat)
  case atStart => exact ⟨0, none, 0, [], Nat.zero_le _, rfl, rfl, hid rfl, hid (LnN.nil _ _ _), hid (Below.refl _ _)⟩
  case round =>
    obtain ⟨k, A2, c2, qs, hk, rfl, rfl, HQ, HO, HB⟩ := hrel
    by_cases hlt : k < n
    · have HLw := ln_up hl HB.out
      obtain ⟨b, o, r, hA, hr, d0, d1, hS⟩ := HLw.out.at (k := k) (by rw [hn]; exact hlt)
      subst hA
      have HT := hid (rcV_take hr)
      have hne : some wr.heap.size ≠ (Value.slice A2 k c2).ownBlock := fun e => by have := (HO.out.row.lt _ e.symm).2; omega
      have htl : r.bs.length ≤ 140737488355328 := Nat.le_trans (ht.out r (List.mem_of_getElem? hr)) (by decide)
      have S0 := hid hS
      clear hS hr
      go_wp2
      have G1 : Hid (Box (wr.alloc (.cells #[.slice r.A r.bs.length r.c, .bool r.e] 30)) wr.heap.size 30 #[.slice r.A r.bs.length r.c, .bool r.e]) := hid (Box.new wr 30 _)
      have k1 : Hid (Below wr.heap.size wr (wr.alloc (.cells #[.slice r.A r.bs.length r.c, .bool r.e] 30))) := hid ((Below.refl _ wr).alloc (Nat.le_refl _) _)
      generalize wr.alloc (.cells #[.slice r.A r.bs.length r.c, .bool r.e] 30) = u1 at G1 k1 ⊢
      have O1 := hid (HO.out.up k1.out)
      have S1 := slb_at S0 k1
      have B1 := bel_t HB k1.out
      have hz1 := B1.out.size
      have bz : ∀ W, Below u1.heap.size u1 W → W.cell? ⟨wr.heap.size, 0, none⟩ = some (.slice r.A r.bs.length r.c) ∧ W.cell? ⟨wr.heap.size, 1, none⟩ = some (.bool r.e) := fun W h => ⟨(box_below G1.out h).cell 0, (box_below G1.out h).cell 1⟩
      go_region_held3 (fun u => u.cell? ⟨wr.heap.size, 0, none⟩ = some (.slice r.A r.bs.length r.c) ∧ u.cell? ⟨wr.heap.size, 1, none⟩ = some (.bool r.e)) (first | exact S6 | exact bz _ (by repeat (first | exact Below.refl _ _ | exact b5 | with_reducible apply bel_dr | with_reducible apply bel_al))) ((first
        | (go_at_call 27
           (with_reducible refine (cbytes_grow u1 _ ?c1 r.A r.bs.length r.c r.bs (slb_up S1 ?c2) rfl htl).mono ?_)
           case c1 => repeat (first | exact Below.refl _ _ | with_reducible apply bel_dr | with_reducible apply bel_al)
           case c2 => repeat (first | exact Below.refl _ _ | with_reducible apply bel_dr | with_reducible apply bel_al)
           rintro e u5 ⟨A5, c5, rfl, o5, b5, d5⟩)
        | (refine step_rec 28 30 Try.underlying28 Try.info37 (by rfl) (.tmp 12) (.tmp 19) rfl w.heap.size k 1 c2 A2 qs [⟨A5, c5, r.bs, r.e⟩] rfl (hid (own_keep O1.out.row ?d1)) ?d2 _ 1 rfl (hid (lies_rec u5 30 ⟨A5, c5, r.bs, r.e⟩ #[.slice A5 r.bs.length c5, .bool r.e] _ (by first | rfl | simp) rfl)) rfl (by omega) ?_
           case d1 => repeat (first | exact Below.refl _ _ | exact b5 | with_reducible apply bel_dr | with_reducible apply bel_al)
           case d2 => exact Nat.le_trans hz1 (Below.size (by repeat (first | exact Below.refl _ _ | exact b5 | with_reducible apply bel_dr | with_reducible apply bel_al)))
           intro A6 c6 u6 o6 k6 g6
           have b6 : Below u1.heap.size u1 (u5.alloc (.cells #[.slice A5 r.bs.length c5, .bool r.e] 30)) := by repeat (first | exact Below.refl _ _ | exact b5 | with_reducible apply bel_dr | with_reducible apply bel_al)
           have S6 : u6.cell? ⟨wr.heap.size, 0, none⟩ = some (.slice r.A r.bs.length r.c) ∧ u6.cell? ⟨wr.heap.size, 1, none⟩ = some (.bool r.e) := ⟨g6.out.cell (bz _ b6).1 hne, g6.out.cell (bz _ b6).2 hne⟩)))
      all_goals
        have t5 := own_keep (own_mono o5.out hz1) ((Below.refl u5.heap.size u5).alloc (Nat.le_refl _) (.cells #[.slice A5 r.bs.length c5, .bool r.e] 30))
        have N6 := hid (ln_snoc (q := ⟨A5, c5, r.bs, r.e⟩) (O1.out.up b6) t5 k6.out (by decide) o6.out)
        have B6 : Hid (Below w.heap.size w u6) := hid ((bel_t B1 b6).out.trans (k6.out.below (Nat.le_trans hz1 b6.size)))
        have Q6 : Hid (lnR (qs ++ [⟨A5, c5, r.bs, r.e⟩]) = lnR (rs.take (k + 1))) := hid (by rw [HT.out, lnR_snoc, lnR_snoc, HQ.out]; rfl)
        clear bz o6 k6 b6 t5 o5 g6 S6
        go_wp2
        go_roundw
        case rel => exact ⟨k + 1, A6, c6, _, by omega, by go_num, rfl, Q6, N6, B6⟩
        case measure => simp [intOf] <;> omega
    · have hkn : k = n := by omega
      have e : rs.take k = rs := List.take_of_length_le (by have := HN.out; omega)
      rw [e] at HQ
      subst hkn
      go_wp2
      go_ret
      exact ⟨A2, c2, qs, rfl, HQ, HO, HB⟩
end Go.Proofs.Ytjncahcigbdbgab
