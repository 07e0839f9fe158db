import Derived.Test.YtggcampdkgfmgaaGreatJH
import Derived.Deep.RegionHeld3
import Derived.Lib.AppendZeros
namespace Go.Proofs.YtggcampdkgfmgaaGreat.L13
open Go.RowKit

/-! The program's Used and Flat. -/
set_option maxRecDepth 100000 in
set_option maxHeartbeats 2000000 in
theorem usedp_any (w : World) (A : Option Addr) (n c : Nat) (rs : List Rc) (hl : Hid (LnV w w.heap.size A c rs)) (hn : rs.length = n) (hm : n ≤ 4000) (ht : Hid (∀ r ∈ rs, r.bs.length ≤ 140737488351232)) :
    Calls Tryz.prog 32 #[.slice A n c] w fun e w' => e = .returned (.int .i64 ((usedL (lnR rs) : Nat) : Int)) ∧ Hid (Below w.heap.size w w') := by
  have HN := hid hn
  go_enter Tryz.func32, Tryz.ntmps32
  go_wp2
  go_loopw [3, 8] (fun s i wr => ∃ k m : Nat, k ≤ n ∧ m ≤ 140737488351233 * k ∧ i = .int .i64 k ∧ s = .int .i64 m ∧ Hid (usedL (lnR (rs.take k)) = m) ∧ Hid (Below w.heap.size w wr)) (fun _ i _ => n - (intOf i).toNat)
  case atStart => exact ⟨0, 0, Nat.zero_le _, Nat.zero_le _, rfl, rfl, hid rfl, hid (Below.refl _ _)⟩
  case round =>
    obtain ⟨k, m, hk, hmk, rfl, rfl, HM, HB⟩ := hrel
    by_cases hlt : k < n
    · have HLw := ln_up hl HB.out
      obtain ⟨b, o, r, hA, hr, d0, d1, hS⟩ := HLw.out.at (k := k) (by rw [hn]; exact hlt)
      subst hA
      have HT := hid (lnR_at hr)
      obtain ⟨x, hx⟩ : ∃ x, Hid (r.bs.length = x) := ⟨_, hid rfl⟩
      have hx2 : x ≤ 140737488351232 := by rw [← hx.out]; exact ht.out r (List.mem_of_getElem? hr)
      rw [hx.out] at d0
      obtain ⟨v, hv⟩ : ∃ v, r.e = v := ⟨_, rfl⟩
      have HY : Hid (usedL (lnR (rs.take (k + 1))) = m + (x + (if v = true then 1 else 0))) := hid (by rw [HT.out, usedL_snoc, HM.out]; show m + (r.bs.length + (if r.e = true then 1 else 0)) = _; rw [hx.out, hv])
      have b1 := hid ((Below.refl wr.heap.size wr).alloc (Nat.le_refl _) (.cells #[.slice r.A x r.c, .bool v] 132))
      have B1 := bel_t HB b1.out
      rw [hv] at d1
      clear hS hr hv
      cases v
      · have HY0 : Hid (usedL (lnR (rs.take (k + 1))) = m + x) := HY
        go_wp2
        go_roundw
        case rel => exact ⟨k + 1, m + x, by omega, by omega, by go_num, by go_num, HY0, B1⟩
        case measure => simp [intOf] <;> omega
      · have HY1 : Hid (usedL (lnR (rs.take (k + 1))) = m + x + 1) := HY
        go_wp2
        go_roundw
        case rel => exact ⟨k + 1, m + x + 1, by omega, by omega, by go_num, by go_num, HY1, B1⟩
        case measure => simp [intOf] <;> omega
    · have hkn : k = n := by omega
      have e : rs.take k = rs := List.take_of_length_le (by have := HN.out; omega)
      rw [e] at HM
      have hM := HM.out
      clear HM
      subst hM
      go_wp2
      go_ret
      exact ⟨rfl, HB⟩
set_option maxRecDepth 100000 in
set_option maxHeartbeats 2000000 in
theorem flatp_any (w : World) (A : Option Addr) (n c : Nat) (rs : List Rc) (hl : Hid (LnV w w.heap.size A c rs)) (hn : rs.length = n) (hm : n ≤ 4000) (ht : Hid (∀ k, (flatL (lnR (rs.take k))).length ≤ 140737488351232)) :
    Calls Tryz.prog 143 #[.slice A n c] w (Own w (flatL (lnR rs))) := by
  have HN := hid hn
  go_enter Tryz.func143, Tryz.ntmps143
  go_wp2
  go_loopw [3, 8] (fun s i wr => ∃ (k m : Nat) (A2 : Option Addr) (c2 : Nat), k ≤ n ∧ m ≤ 140737488351232 ∧ i = .int .i64 k ∧ s = .slice A2 m c2 ∧ Hid ((flatL (lnR (rs.take k))).length = m) ∧ Hid (wr.ownsRow w.heap.size 5 1 (.slice A2 m c2) m (bv (flatL (lnR (rs.take k))))) ∧ Hid (Below w.heap.size w wr)) (fun _ i _ => n - (intOf i).toNat)
  case atStart => exact ⟨0, 0, none, 0, Nat.zero_le _, Nat.zero_le _, rfl, rfl, hid rfl, hid (World.ownsRow_nil _ _ _ _), hid (Below.refl _ _)⟩
  case round =>
    obtain ⟨k, m, A2, c2, hk, hmk, rfl, rfl, HM, HO, HB⟩ := hrel
    by_cases hlt : k < n
    · have HLw := ln_up hl HB.out
      obtain ⟨b, o, r, hA, hr, d0, d1, hS⟩ := HLw.out.at (k := k) (by rw [hn]; exact hlt)
      subst hA
      have HT := hid (lnR_at hr)
      obtain ⟨x, hx⟩ : ∃ x, Hid (r.bs.length = x) := ⟨_, hid rfl⟩
      have HY : Hid (flatL (lnR (rs.take (k + 1))) = flatL (lnR (rs.take k)) ++ r.bs) := hid (by rw [HT.out, flatL_snoc]; rfl)
      have hmx : m + x ≤ 140737488351232 := by have h := ht.out (k + 1); rw [HY.out, List.length_append, HM.out, hx.out] at h; exact h
      rw [hx.out] at d0
      have b1 := hid ((Below.refl wr.heap.size wr).alloc (Nat.le_refl _) (.cells #[.slice r.A x r.c, .bool r.e] 132))
      have B1 := bel_t HB b1.out
      have O1 := hid (own_keep HO.out b1.out)
      have S1 := slb_at (hid hS) b1
      have hz1 := B1.out.size
      obtain ⟨fs, hfs⟩ : ∃ fs, flatL (lnR (rs.take k)) = fs := ⟨_, rfl⟩
      rw [hfs] at HM HO HY O1
      clear hS hr hfs b1
      go_wp2_with (first
        | (at_builtin
           (refine app_own _ (by rfl) (.tmp 12) (.tmp 14) rfl w.heap.size m c2 A2 fs rfl O1 hz1 r.A x r.c r.bs rfl S1 hx.out (by omega) ?_)
           intro A3 c3 u3 O3 k3
           have B3 := bel_k B1 k3))
      go_roundw
      case rel => exact ⟨k + 1, m + x, A3, c3, by omega, by omega, by go_num, rfl, hid (by rw [HY.out, List.length_append, HM.out, hx.out]), by rw [HY.out]; exact O3, B3⟩
      case measure => simp [intOf] <;> omega
    · have hkn : k = n := by omega
      have e : rs.take k = rs := List.take_of_length_le (by have := HN.out; omega)
      rw [e] at HM HO
      go_wp2
      go_ret
      exact ⟨_, _, _, rfl, HM, HO, HB⟩
end Go.Proofs.YtggcampdkgfmgaaGreat.L13
namespace Go.Proofs.YtggcampdkgfmgaaGreat.L13
open Go.RowKit

/-! The program's copies: of bytes, of lines. -/
set_option maxRecDepth 100000 in
theorem cbytes_any (w : World) (A : Option Addr) (n c : Nat) (bs : List UInt8) (hS : Hid (SlB w w.heap.size A c bs)) (hn : bs.length = n) (hm : n ≤ 140737488355328) :
    Calls Tryz.prog 172 #[.slice A n c] w (Own w bs) := by
  have HN := hid hn
  have hm0 : 0 + n ≤ 140737488355328 := by omega
  have O0 : Hid (w.ownsRow w.heap.size 5 1 (.slice none 0 0) 0 (bv [])) := hid (World.ownsRow_nil _ _ _ _)
  go_enter Tryz.func172, Tryz.ntmps172
  go_wp2_with (first
    | (at_builtin
       (refine app_own w (by rfl) (.const (.slice none 0 0)) (.tmp 3) rfl w.heap.size 0 0 none [] rfl O0 (Nat.le_refl _) A n c bs rfl hS hn hm0 ?_)
       intro A3 c3 u3 O3 k3
       rw [Nat.zero_add] at O3 ⊢))
  go_ret
  exact ⟨A3, n, c3, rfl, HN, O3, hid (k3.out.below (Nat.le_refl _))⟩
theorem cbytes_grow (u W : World) (hW : Below u.heap.size u W) (A : Option Addr) (n c : Nat) (bs : List UInt8) (hS : Hid (SlB W W.heap.size A c bs)) (hn : bs.length = n) (hm : n ≤ 140737488355328) :
    Calls Tryz.prog 172 #[.slice A n c] W fun e w' => ∃ A5 c5, e = .returned (.slice A5 n c5) ∧ Hid (w'.ownsRow W.heap.size 5 1 (.slice A5 n c5) n (bv bs)) ∧ Below u.heap.size u w' ∧ Below W.heap.size W w' := by
  refine (cbytes_any W A n c bs hS hn hm).mono ?_
  rintro e w' ⟨A5, n5, c5, rfl, h1, h2, h3⟩
  obtain rfl : n5 = n := h1.out.symm.trans hn
  exact ⟨A5, c5, rfl, h2, hW.trans (h3.out.mono hW.size), h3.out⟩
set_option maxRecDepth 100000 in
set_option maxHeartbeats 4000000 in
theorem copied_any (w : World) (A : Option Addr) (n c : Nat) (rs : List Rc) (hl : Hid (LnV w w.heap.size A c rs)) (hn : rs.length = n) (hm : n ≤ 4000) (ht : Hid (∀ r ∈ rs, r.bs.length ≤ 140737488351232)) :
    Calls Tryz.prog 138 #[.slice A n c] w fun e w' => ∃ A2 c2 qs, e = .returned (.slice A2 n c2) ∧ Hid (lnR qs = lnR rs) ∧ Hid (LnN w' w.heap.size 132 A2 n c2 qs) ∧ Hid (Below w.heap.size w w') := by
  have HN := hid hn
  go_enter Tryz.func138, Tryz.ntmps138
  go_wp2
  go_loopw [3, 8] (fun o i wr => ∃ (k : Nat) (A2 : Option Addr) (c2 : Nat) (qs : List Rc), k ≤ n ∧ i = .int .i64 k ∧ o = .slice A2 k c2 ∧ Hid (lnR qs = lnR (rs.take k)) ∧ Hid (LnN wr w.heap.size 132 A2 k c2 qs) ∧ Hid (Below w.heap.size w wr)) (fun _ i _ => n - (intOf i).toNat)
  case atStart => exact ⟨0, none, 0, [], Nat.zero_le _, rfl, rfl, hid rfl, hid (LnN.nil _ _ _), hid (Below.refl _ _)⟩
  case round =>
    obtain ⟨k, A2, c2, qs, hk, rfl, rfl, HQ, HO, HB⟩ := hrel
    by_cases hlt : k < n
    · have HLw := ln_up hl HB.out
      obtain ⟨b, o, r, hA, hr, d0, d1, hS⟩ := HLw.out.at (k := k) (by rw [hn]; exact hlt)
      subst hA
      have HT := hid (rcV_take hr)
      have hne : some wr.heap.size ≠ (Value.slice A2 k c2).ownBlock := fun e => by have := (HO.out.row.lt _ e.symm).2; omega
      have htl : r.bs.length ≤ 140737488355328 := Nat.le_trans (ht.out r (List.mem_of_getElem? hr)) (by decide)
      have S0 := hid hS
      clear hS hr
      go_wp2
      have G1 : Hid (Box (wr.alloc (.cells #[.slice r.A r.bs.length r.c, .bool r.e] 132)) wr.heap.size 132 #[.slice r.A r.bs.length r.c, .bool r.e]) := hid (Box.new wr 132 _)
      have k1 : Hid (Below wr.heap.size wr (wr.alloc (.cells #[.slice r.A r.bs.length r.c, .bool r.e] 132))) := hid ((Below.refl _ wr).alloc (Nat.le_refl _) _)
      generalize wr.alloc (.cells #[.slice r.A r.bs.length r.c, .bool r.e] 132) = u1 at G1 k1 ⊢
      have O1 := hid (HO.out.up k1.out)
      have S1 := slb_at S0 k1
      have B1 := bel_t HB k1.out
      have hz1 := B1.out.size
      have bz : ∀ W, Below u1.heap.size u1 W → W.cell? ⟨wr.heap.size, 0, none⟩ = some (.slice r.A r.bs.length r.c) ∧ W.cell? ⟨wr.heap.size, 1, none⟩ = some (.bool r.e) := fun W h => ⟨(box_below G1.out h).cell 0, (box_below G1.out h).cell 1⟩
      go_region_held3 (fun u => u.cell? ⟨wr.heap.size, 0, none⟩ = some (.slice r.A r.bs.length r.c) ∧ u.cell? ⟨wr.heap.size, 1, none⟩ = some (.bool r.e)) (first | exact S6 | exact bz _ (by repeat (first | exact Below.refl _ _ | exact b5 | with_reducible apply bel_dr | with_reducible apply bel_al))) ((first
        | (go_at_call 172
           (with_reducible refine (cbytes_grow u1 _ ?c1 r.A r.bs.length r.c r.bs (slb_up S1 ?c2) rfl htl).mono ?_)
           case c1 => repeat (first | exact Below.refl _ _ | with_reducible apply bel_dr | with_reducible apply bel_al)
           case c2 => repeat (first | exact Below.refl _ _ | with_reducible apply bel_dr | with_reducible apply bel_al)
           rintro e u5 ⟨A5, c5, rfl, o5, b5, d5⟩)
        | (refine step_rec 41 132 Tryz.underlying41 Tryz.info37 (by rfl) (.tmp 12) (.tmp 19) rfl w.heap.size k 1 c2 A2 qs [⟨A5, c5, r.bs, r.e⟩] rfl (hid (own_keep O1.out.row ?d1)) ?d2 _ 1 rfl (hid (lies_rec u5 132 ⟨A5, c5, r.bs, r.e⟩ #[.slice A5 r.bs.length c5, .bool r.e] _ (by first | rfl | simp) rfl)) rfl (by omega) ?_
           case d1 => repeat (first | exact Below.refl _ _ | exact b5 | with_reducible apply bel_dr | with_reducible apply bel_al)
           case d2 => exact Nat.le_trans hz1 (Below.size (by repeat (first | exact Below.refl _ _ | exact b5 | with_reducible apply bel_dr | with_reducible apply bel_al)))
           intro A6 c6 u6 o6 k6 g6
           have b6 : Below u1.heap.size u1 (u5.alloc (.cells #[.slice A5 r.bs.length c5, .bool r.e] 132)) := by repeat (first | exact Below.refl _ _ | exact b5 | with_reducible apply bel_dr | with_reducible apply bel_al)
           have S6 : u6.cell? ⟨wr.heap.size, 0, none⟩ = some (.slice r.A r.bs.length r.c) ∧ u6.cell? ⟨wr.heap.size, 1, none⟩ = some (.bool r.e) := ⟨g6.out.cell (bz _ b6).1 hne, g6.out.cell (bz _ b6).2 hne⟩)))
      all_goals
        have t5 := own_keep (own_mono o5.out hz1) ((Below.refl u5.heap.size u5).alloc (Nat.le_refl _) (.cells #[.slice A5 r.bs.length c5, .bool r.e] 132))
        have N6 := hid (ln_snoc (q := ⟨A5, c5, r.bs, r.e⟩) (O1.out.up b6) t5 k6.out (by decide) o6.out)
        have B6 : Hid (Below w.heap.size w u6) := hid ((bel_t B1 b6).out.trans (k6.out.below (Nat.le_trans hz1 b6.size)))
        have Q6 : Hid (lnR (qs ++ [⟨A5, c5, r.bs, r.e⟩]) = lnR (rs.take (k + 1))) := hid (by rw [HT.out, lnR_snoc, lnR_snoc, HQ.out]; rfl)
        clear bz o6 k6 b6 t5 o5 g6 S6
        go_wp2
        go_roundw
        case rel => exact ⟨k + 1, A6, c6, _, by omega, by go_num, rfl, Q6, N6, B6⟩
        case measure => simp [intOf] <;> omega
    · have hkn : k = n := by omega
      have e : rs.take k = rs := List.take_of_length_le (by have := HN.out; omega)
      rw [e] at HQ
      subst hkn
      go_wp2
      go_ret
      exact ⟨A2, c2, qs, rfl, HQ, HO, HB⟩
end Go.Proofs.YtggcampdkgfmgaaGreat.L13
namespace Go.Proofs.YtggcampdkgfmgaaGreat.L13
open Go.RowKit

/-! slices.Grow of nothing, slices.Concat: of lines. -/
theorem zerosL_size (n : Nat) : (Builtin.zeroCells (Value.agg #[.slice none 0 0, .bool false]).cells n).size = n * 2 := by
  simp [Builtin.zeroCells, Value.cells]
set_option maxHeartbeats 1000000 in
set_option maxRecDepth 100000 in
theorem growL_nil (w : World) (n : Nat) (hn : n ≤ 1000000) :
    Calls Tryz.prog 173 #[.slice none 0 0, .int .i64 n] w fun e w' => ∃ A c, e = .returned (.slice A 0 c) ∧ w'.ownsRow w.heap.size 132 2 (.slice A 0 c) 0 [] ∧ Below w.heap.size w w' := by
  obtain ⟨i0, hi0, hz0, hz1, hz2⟩ := info_parts Tryz.info30
  by_cases h0 : n = 0
  · subst h0
    go_enter Tryz.func173, Tryz.ntmps173
    go_wp2
    go_ret
    exact ⟨none, 0, rfl, World.ownsRow_nil _ _ _ _, Below.refl _ _⟩
  · have hpos : (0 : Int) < n := by omega
    have hneg : ¬ ((n : Int) < 0) := by omega
    have happ := Lib.run_append_nil_zeros (P := Tryz.prog) w 41 3 41 132 i0 (.agg #[.slice none 0 0, .bool false]) .i64 .i64 Tryz.underlying41 Tryz.underlying3 hi0 hz0 n (by omega) (by omega) (by omega) (by rw [hz2]; omega)
    have hgc : (0 : Int) ≤ grownCap w n 0 132 := by omega
    have hge := grownCap_ge w n 0 132
    have hle := grownCap_le_maxLen w n 0 132 (by unfold maxLen; omega)
    obtain ⟨cap, hcap⟩ : ∃ cap, grownCap w n 0 132 = cap := ⟨_, rfl⟩
    rw [hcap] at happ hge hle
    have HC := hid hcap
    clear hcap hgc
    have hgc : (0 : Int) ≤ cap := by omega
    obtain ⟨w1, hw1⟩ : ∃ w1, w.drew.alloc (.cells (Builtin.zeroCells (Value.agg #[.slice none 0 0, .bool false]).cells n ++ Builtin.zeroCells (Value.agg #[.slice none 0 0, .bool false]).cells (cap - n)) 132) = w1 := ⟨_, rfl⟩
    rw [hw1] at happ
    have HW := hid hw1
    have HA := hid happ
    have HLE := hid hle
    clear hw1 happ hle
    go_enter Tryz.func173, Tryz.ntmps173
    go_wp2_with (at_builtin; refine Lib.wpList_append_run _ rfl (.tmp 20) (.tmp 21) 41 3 rfl _ _ rfl rfl _ _ HA.out ?_)
    go_ret
    refine ⟨_, _, rfl, ?_, ?_⟩
    · rw [← HW.out]
      refine ⟨rfl, .inr ⟨w.heap.size, cap, _, rfl, Nat.le_refl _, heap_alloc_new w.drew _, Nat.zero_le _, HLE.out, ?_, rfl⟩⟩
      rw [Array.size_append, zerosL_size, zerosL_size]
      omega
    · rw [← HW.out]
      exact (bel_drewN (Below.refl _ _) 1).alloc (Nat.le_refl _) _
/-- A slice of lines, as one of several. -/
structure Sr where
  A : Option Addr
  c : Nat
  rs : List Rc
def Sr.v (s : Sr) : Value := .slice s.A s.rs.length s.c
def catR (ls : List Sr) : List Rc := (ls.map (·.rs)).flatten
theorem catR_snoc (ls : List Sr) (k : Nat) (h : k < ls.length) : catR (ls.take (k + 1)) = catR (ls.take k) ++ ls[k].rs := by
  unfold catR
  rw [take_snoc _ _ h, List.map_append, List.flatten_append]
  simp
theorem catR_le (ls : List Sr) (k : Nat) : (catR (ls.take k)).length ≤ (catR ls).length := by
  have e : catR ls = catR (ls.take k) ++ catR (ls.drop k) := by
    unfold catR
    conv => lhs; rw [← List.take_append_drop k ls, List.map_append, List.flatten_append]
  rw [e, List.length_append]
  omega
theorem catR_text {ls : List Sr} {w : World} {B : Nat} (ht : ∀ s ∈ ls, LnV w B s.A s.c s.rs) {k : Nat} : ∀ r ∈ catR (ls.take k), SlB w B r.A r.c r.bs := by
  intro r hr
  unfold catR at hr
  simp only [List.mem_flatten, List.mem_map] at hr
  obtain ⟨_, ⟨s, hs, rfl⟩, hr⟩ := hr
  exact (ht s (List.mem_of_mem_take hs)).text r hr
set_option maxHeartbeats 2000000 in
set_option maxRecDepth 100000 in
theorem concatL_any (w : World) (A : Option Addr) (q c : Nat) (ls : List Sr) (hl : Hid (Lies w w.heap.size A (ls.map Sr.v))) (ht : Hid (∀ s ∈ ls, LnV w w.heap.size s.A s.c s.rs)) (hq : ls.length = q) (hn : q ≤ 4000) (hT : (catR ls).length ≤ 1000000) :
    Calls Tryz.prog 140 #[.slice A q c] w fun e w' => ∃ A' n' c', e = .returned (.slice A' n' c') ∧ Hid (LnO w' w.heap.size 132 A' n' c' (catR ls)) ∧ Hid (Below w.heap.size w w') := by
  subst hq
  have HF : Hid (∀ k, (catR (ls.take k)).length ≤ (catR ls).length) := catR_le ls
  obtain ⟨T, HT⟩ : ∃ T, Hid ((catR ls).length = T) := ⟨_, hid rfl⟩
  rw [HT.out] at hT HF
  have HC : Hid (∀ k (h : k < ls.length), ∃ b o, A = some ⟨b, o, none⟩ ∧ w.cell? ⟨b, o + k, none⟩ = some (.slice ls[k].A ls[k].rs.length ls[k].c)) := hid (by
    intro k h
    obtain ⟨b, o, rfl, _, hc⟩ := hl.out (by intro e; have := congrArg List.length e; rw [List.length_map] at this; have h0 : ([] : List Value).length = 0 := rfl; omega)
    exact ⟨b, o, rfl, hc k _ (by rw [List.getElem?_map, List.getElem?_eq_getElem h]; rfl)⟩)
  go_enter Tryz.func140, Tryz.ntmps140
  go_wp2
  go_loop [11, 3] (fun i s => ∃ k : Nat, k ≤ ls.length ∧ i = .int .i64 k ∧ s = .int .i64 (catR (ls.take k)).length) (fun i _ => ls.length - (intOf i).toNat)
  case atStart => exact ⟨0, Nat.zero_le _, rfl, rfl⟩
  case round =>
    obtain ⟨k, hk, rfl, rfl⟩ := hrel
    by_cases hlt : k < ls.length
    · obtain ⟨b, o, rfl, hc⟩ := HC.out k hlt
      have HS := hid (catR_snoc ls k hlt)
      have hF1 := HF.out (k + 1)
      have hle : (catR (ls.take (k + 1))).length = (catR (ls.take k)).length + ls[k].rs.length := by rw [HS.out, List.length_append]
      rw [hle] at hF1
      obtain ⟨x, Hx⟩ : ∃ x, Hid ((catR (ls.take k)).length = x) := ⟨_, hid rfl⟩
      obtain ⟨y, Hy⟩ : ∃ y, Hid (ls[k].rs.length = y) := ⟨_, hid rfl⟩
      obtain ⟨z, Hz⟩ : ∃ z, Hid ((catR (ls.take (k + 1))).length = z) := ⟨_, hid rfl⟩
      rw [Hz.out, Hx.out, Hy.out] at hle
      rw [Hx.out, Hy.out] at hF1
      rw [Hy.out] at hc
      rw [Hx.out]
      have hneg : ¬ ((x : Int) + y < 0) := by omega
      go_wp2
      go_roundw
      case rel => exact ⟨k + 1, by omega, by go_num, by rw [Hz.out, hle]; go_num⟩
      case measure => simp [intOf]; omega
    · have hd : ls.take k = ls := List.take_of_length_le (by omega)
      rw [hd, HT.out]
      go_wp2_with (first
        | (go_at_call 173
           ((with_reducible refine (growL_nil _ T hT).mono ?_); rintro e w1 ⟨A1, c1, rfl, ho1, hb1⟩)
           have HO1 := hid ho1
           have HB1 := hid hb1
           have hz1w : w.heap.size ≤ w1.heap.size := hb1.size
           clear ho1 hb1))
      go_loopw [27, 6] (fun i s W2 => ∃ (k m : Nat) (A' : Option Addr) (c' : Nat), k ≤ ls.length ∧ i = .int .i64 k ∧ s = .slice A' m c' ∧ Hid ((catR (ls.take k)).length = m) ∧ Hid (W2.ownsRow w.heap.size 132 2 (.slice A' m c') m (rcV (catR (ls.take k)))) ∧ Hid (Below w.heap.size w W2)) (fun i _ _ => ls.length - (intOf i).toNat)
      case atStart => exact ⟨0, 0, A1, c1, Nat.zero_le _, rfl, rfl, hid rfl, HO1, HB1⟩
      case round =>
        obtain ⟨k2, m, A', c', hk2, rfl, rfl, Hm, HRO, HBW⟩ := hrel
        have hszr : w.heap.size ≤ wr.heap.size := HBW.out.size
        by_cases hlt2 : k2 < ls.length
        · obtain ⟨b, o, rfl, hc⟩ := HC.out k2 hlt2
          have hcc := (HBW.out.cell (p := ⟨b, o + k2, none⟩) (World.block_lt_of_cell? _ _ hc)).trans hc
          have HLs := ln_up (hid (ht.out ls[k2] (List.getElem_mem hlt2))) HBW.out
          have HS := hid (catR_snoc ls k2 hlt2)
          have hF1 := HF.out (k2 + 1)
          have hle : (catR (ls.take (k2 + 1))).length = (catR (ls.take k2)).length + ls[k2].rs.length := by rw [HS.out, List.length_append]
          rw [hle, Hm.out] at hF1
          rw [Hm.out] at hle
          have HLE := hid hle
          obtain ⟨p, Hp⟩ : ∃ p, Hid (ls[k2] = p) := ⟨_, hid rfl⟩
          rw [Hp.out] at hcc hF1 HLE HS HLs
          have HLi := hid HLs.out.lies
          obtain ⟨y, Hy⟩ : ∃ y, Hid (p.rs.length = y) := ⟨_, hid rfl⟩
          rw [Hy.out] at hcc hF1 HLE
          obtain ⟨xs, Hxs⟩ : ∃ xs, Hid (catR (ls.take k2) = xs) := ⟨_, hid rfl⟩
          rw [Hxs.out] at HRO HS
          clear hc hle HLs
          go_wp2_with (first
            | (at_builtin
               (refine app_rec 41 132 Tryz.underlying41 Tryz.info30 wr (by rfl) (.tmp 31) (.tmp 32) rfl w.heap.size m y c' A' xs p.rs rfl HRO hszr p.A p.c rfl HLi Hy.out (by omega) ?_)
               intro A3 c3 w3 o3 k3
               have B3 : Hid (Below w.heap.size w w3) := hid (HBW.out.trans (k3.out.below hszr))))
          go_roundw
          case rel => exact ⟨k2 + 1, m + y, A3, c3, by omega, by go_num, rfl, HLE, by rw [HS.out]; exact o3, B3⟩
          case measure => simp [intOf]; omega
        · have hd2 : ls.take k2 = ls := List.take_of_length_le (by omega)
          have HX : Hid (∀ r ∈ catR ls, SlB w w.heap.size r.A r.c r.bs) := hid (fun r hr => catR_text (k := k2) ht.out r (by rwa [hd2]))
          rw [hd2] at HRO Hm
          go_wp2
          go_ret
          exact ⟨A', m, c', rfl, hid ⟨Hm.out, HRO.out, fun r hr => ((HX.out r hr).below HBW.out).more hszr⟩, HBW⟩
end Go.Proofs.YtggcampdkgfmgaaGreat.L13
namespace Go.Proofs.YtggcampdkgfmgaaGreat.L13
open Go.RowKit

theorem bx30 {ops : Array Oper} {rest : List Oper} {o : Oper} {a : Act} {w : World} {Q : Exit → Act → World → Prop} (hw : Region.wanted o (yielded ops a.tmps) = true) (x : Operand) (ho : o.op = .box 132 x) (c0 c1 : Value) (hx : a.eval x = .agg #[c0, c1])
    (h : Hid (Box (w.alloc (.cells #[c0, c1] 132)) w.heap.size 132 #[c0, c1]) → wpList Tryz.prog ops Q rest (a.put o.dst (.pointer (some ⟨w.heap.size, 0, none⟩))) (w.alloc (.cells #[c0, c1] 132))) : wpList Tryz.prog ops Q (o :: rest) a w :=
  BigFrame.wpList_want hw fun _ hK => by
    have hr : (Instr.box 132 (.agg #[c0, c1])).run Tryz.prog w = .ok (.pointer (some ⟨w.heap.size, 0, none⟩)) (w.alloc (.cells #[c0, c1] 132)) := by
      simp [Instr.box, newVar, newRow, Value.cells]
    unfold Oper.wp execOp
    simp only [ho, hx, Sem.run_bind, hr, Result.andThen_ok]
    exact hK _ _ (h (hid (Box.new w 132 _)))
/-- A variable of a line takes another one. -/
theorem two_st {u : World} {g B : Nat} {a b : Value} (h : Box u g 132 #[a, b]) (hB : B ≤ g) (v v2 : Value) : Box ((u.setCell ⟨g, 0, none⟩ v).setCell ⟨g, 1, none⟩ v2) g 132 #[v, v2] ∧ Kept B [132] u ((u.setCell ⟨g, 0, none⟩ v).setCell ⟨g, 1, none⟩ v2) := by
  have h1 := h.store 0 v
  have h2 := h1.store 1 v2
  exact ⟨by simpa using h2, ((Kept.refl B [132] u).store h hB (by simp) v).store h1 hB (by simp) v2⟩
theorem cut_fin {w u u5 : World} {g1 m q c5 c2 : Nat} {A5 A2 : Option Addr} {a b : Value} {bs bt : List UInt8} {v : Bool} (K0 : Hid (Below w.heap.size w u)) (b5 : Below u.heap.size u u5) (Z5 : Box u5 g1 132 #[a, b]) (hB : w.heap.size ≤ g1) (o5 : Hid (u5.ownsRow u.drew.heap.size 5 1 (.slice A5 m c5) m (bv bs))) (HS2 : Hid (SlB w w.heap.size A2 c2 bt)) :
    ∃ y, (u5.setCell ⟨g1, 0, none⟩ (.slice A2 q c2)).setCell ⟨g1, 1, none⟩ (.bool v) = y ∧ y.cell? ⟨g1, 0, none⟩ = some (.slice A2 q c2) ∧ y.cell? ⟨g1, 1, none⟩ = some (.bool v) ∧ Hid (y.ownsRow w.heap.size 5 1 (.slice A5 m c5) m (bv bs)) ∧ Hid (SlB y y.heap.size A2 c2 bt) ∧ Hid (Below w.heap.size w y) := by
  obtain ⟨h1, h2⟩ := two_st Z5 hB (.slice A2 q c2) (.bool v)
  have hw5 : Below w.heap.size w u5 := (bel_t K0 b5).out
  have hy : Below w.heap.size w ((u5.setCell ⟨g1, 0, none⟩ (.slice A2 q c2)).setCell ⟨g1, 1, none⟩ (.bool v)) := hw5.trans (h2.below hw5.size)
  exact ⟨_, rfl, h1.cell 0, h1.cell 1, hid (own_mono (h2.own o5.out (by decide)) K0.out.size), slb_up HS2 hy, hid hy⟩
/-- What a line's cut answers. -/
def RetC (w : World) (x m : Nat) (bs : List UInt8) (b : Bool) (e' : Ending) (w' : World) : Prop := ∃ A1 c1 A2 c2, e' = .returned (.tuple #[.slice A1 m c1, .agg #[.slice A2 (x - m) c2, .bool b]]) ∧ Hid (w'.ownsRow w.heap.size 5 1 (.slice A1 m c1) m (bv (bs.take m))) ∧ Hid (SlB w' w'.heap.size A2 c2 (bs.drop m)) ∧ Hid (Below w.heap.size w w')
set_option maxRecDepth 100000 in
set_option maxHeartbeats 4000000 in
theorem cut_at (w : World) (A : Option Addr) (x c m : Nat) (bs : List UInt8) (e : Bool) (k : Int) (hS : Hid (SlB w w.heap.size A c bs)) (hx : bs.length = x) (hxm : x ≤ 140737488351232) (hmx : m ≤ x) (hmin : (k ≤ (x : Int) ∧ k = (m : Int)) ∨ (¬ k ≤ (x : Int) ∧ x = m)) :
    Calls Tryz.prog 139 #[.agg #[.slice A x c, .bool e], .int .i64 k] w (RetC w x m bs e) := by
  have HX := hid hx
  obtain ⟨A2, c2, hb2, HS2⟩ := run_back hS.out hx hmx
  have hf := run_front hS.out hx hmx
  have HT := hid (show (bs.take m).length = m by rw [List.length_take, hx]; omega)
  have hmm : m ≤ 140737488355328 := by omega
  have K0 : Hid (Below w.heap.size w ((w.alloc (.cells #[.slice A x c, .bool e] 132)).alloc (.cells #[.slice none 0 0, .bool false] 132))) := hid (((Below.refl _ w).alloc (Nat.le_refl _) _).alloc (by simp) _)
  have Z0 : Hid (Box ((w.alloc (.cells #[.slice A x c, .bool e] 132)).alloc (.cells #[.slice none 0 0, .bool false] 132)) w.heap.size 132 #[.slice A x c, .bool e]) := hid (box_al (Box.new w 132 _))
  have Z1 : Hid (Box ((w.alloc (.cells #[.slice A x c, .bool e] 132)).alloc (.cells #[.slice none 0 0, .bool false] 132)) (w.heap.size + 1) 132 #[.slice none 0 0, .bool false]) := hid (box_nw (by simp))
  rcases hmin with ⟨hk, rfl⟩ | ⟨hk, rfl⟩
  · go_enter Tryz.func139, Tryz.ntmps139
    go_wp2_with (first
      | (refine bx30 (by rfl) _ (by rfl) _ _ (by rfl) ?_
         intro G0))
    obtain ⟨g0, hg0⟩ : ∃ g, w.heap.size = g := ⟨_, rfl⟩
    obtain ⟨g1, hg1⟩ : ∃ g, g0 + 1 = g := ⟨_, rfl⟩
    have hne : ¬ g0 = g1 := by omega
    have hne2 : ¬ g1 = g0 := by omega
    have HG := hid hg0
    rw [hg0] at Z0 Z1 ⊢
    rw [hg1] at Z1 ⊢
    clear G0
    generalize (w.alloc (.cells #[.slice A x c, .bool e] 132)).alloc (.cells #[.slice none 0 0, .bool false] 132) = u at K0 Z0 Z1 ⊢
    have SU := slb_up hS K0.out
    have ST : Hid (SlB u u.heap.size A c (bs.take m)) := hid (SU.out.take m)
    have bz : ∀ W, Below u.heap.size u W → W.cell? ⟨g0, 0, none⟩ = some (.slice A x c) ∧ W.cell? ⟨g0, 1, none⟩ = some (.bool e) := fun W h => ⟨(box_below Z0.out h).cell 0, (box_below Z0.out h).cell 1⟩
    go_region_held3 (fun W => W.cell? ⟨g0, 0, none⟩ = some (.slice A x c) ∧ W.cell? ⟨g0, 1, none⟩ = some (.bool e)) (first | exact ⟨(far5 _ _).1, (far5 _ _).2⟩ | exact far5 _ _ | exact bz _ (by repeat (first | exact Below.refl _ _ | exact b5 | with_reducible apply bel_dr | with_reducible apply bel_al))) ((first
      | (go_at_call 172
         (with_reducible refine (cbytes_grow u _ ?c1 A m c (bs.take m) (slb_up ST ?c2) HT.out hmm).mono ?_)
         case c1 => repeat (first | exact Below.refl _ _ | exact b5 | with_reducible apply bel_dr | with_reducible apply bel_al)
         case c2 => repeat (first | exact Below.refl _ _ | exact b5 | with_reducible apply bel_dr | with_reducible apply bel_al)
         rintro e u5 ⟨A5, c5, rfl, o5, b5, d5⟩
         have Z5 := box_below Z1.out b5
         have q0 : u5.cell? ⟨g1, 0, none⟩ = some (.slice none 0 0) := Z5.cell 0
         have q1 : u5.cell? ⟨g1, 1, none⟩ = some (.bool false) := Z5.cell 1
         have r0 := Z5.frozen 0
         have r1 := Z5.frozen 1
         have far5 : ∀ v v2, ((u5.setCell ⟨g1, 0, none⟩ v).setCell ⟨g1, 1, none⟩ v2).cell? ⟨g0, 0, none⟩ = some (.slice A x c) ∧ ((u5.setCell ⟨g1, 0, none⟩ v).setCell ⟨g1, 1, none⟩ v2).cell? ⟨g0, 1, none⟩ = some (.bool e) := fun v v2 => by
           rw [World.cell?_setCell_far _ _ _ _ hne2, World.cell?_setCell_far _ _ _ _ hne2, World.cell?_setCell_far _ _ _ _ hne2, World.cell?_setCell_far _ _ _ _ hne2]
           exact bz u5 b5)))
    all_goals
      obtain ⟨y, hy, y0, y1, yO, yS, yB⟩ := cut_fin (q := x - m) (v := e) K0 b5 Z5 (by have := HG.out; omega) o5 HS2
      rw [hy]
      clear hy far5 q0 q1 r0 r1 Z5 o5 b5 d5 bz
      go_wp2
      refine bodyPost_ret (v := .tuple #[.slice A5 m c5, .agg #[.slice A2 (x - m) c2, .bool e]]) (by simp [results, go_sem, y0, y1]) rfl ?_
      exact ⟨A5, c5, A2, c2, by first | rfl | rw [Nat.sub_self], yO, yS, yB⟩
  · go_enter Tryz.func139, Tryz.ntmps139
    go_wp2_with (first
      | (refine bx30 (by rfl) _ (by rfl) _ _ (by rfl) ?_
         intro G0))
    obtain ⟨g0, hg0⟩ : ∃ g, w.heap.size = g := ⟨_, rfl⟩
    obtain ⟨g1, hg1⟩ : ∃ g, g0 + 1 = g := ⟨_, rfl⟩
    have hne : ¬ g0 = g1 := by omega
    have hne2 : ¬ g1 = g0 := by omega
    have HG := hid hg0
    rw [hg0] at Z0 Z1 ⊢
    rw [hg1] at Z1 ⊢
    clear G0
    generalize (w.alloc (.cells #[.slice A x c, .bool e] 132)).alloc (.cells #[.slice none 0 0, .bool false] 132) = u at K0 Z0 Z1 ⊢
    have SU := slb_up hS K0.out
    have ST : Hid (SlB u u.heap.size A c (bs.take x)) := hid (SU.out.take x)
    have bz : ∀ W, Below u.heap.size u W → W.cell? ⟨g0, 0, none⟩ = some (.slice A x c) ∧ W.cell? ⟨g0, 1, none⟩ = some (.bool e) := fun W h => ⟨(box_below Z0.out h).cell 0, (box_below Z0.out h).cell 1⟩
    go_region_held3 (fun W => W.cell? ⟨g0, 0, none⟩ = some (.slice A x c) ∧ W.cell? ⟨g0, 1, none⟩ = some (.bool e)) (first | exact ⟨(far5 _ _).1, (far5 _ _).2⟩ | exact far5 _ _ | exact bz _ (by repeat (first | exact Below.refl _ _ | exact b5 | with_reducible apply bel_dr | with_reducible apply bel_al))) ((first
      | (go_at_call 172
         (with_reducible refine (cbytes_grow u _ ?c1 A x c (bs.take x) (slb_up ST ?c2) HT.out hmm).mono ?_)
         case c1 => repeat (first | exact Below.refl _ _ | exact b5 | with_reducible apply bel_dr | with_reducible apply bel_al)
         case c2 => repeat (first | exact Below.refl _ _ | exact b5 | with_reducible apply bel_dr | with_reducible apply bel_al)
         rintro e u5 ⟨A5, c5, rfl, o5, b5, d5⟩
         have Z5 := box_below Z1.out b5
         have q0 : u5.cell? ⟨g1, 0, none⟩ = some (.slice none 0 0) := Z5.cell 0
         have q1 : u5.cell? ⟨g1, 1, none⟩ = some (.bool false) := Z5.cell 1
         have r0 := Z5.frozen 0
         have r1 := Z5.frozen 1
         have far5 : ∀ v v2, ((u5.setCell ⟨g1, 0, none⟩ v).setCell ⟨g1, 1, none⟩ v2).cell? ⟨g0, 0, none⟩ = some (.slice A x c) ∧ ((u5.setCell ⟨g1, 0, none⟩ v).setCell ⟨g1, 1, none⟩ v2).cell? ⟨g0, 1, none⟩ = some (.bool e) := fun v v2 => by
           rw [World.cell?_setCell_far _ _ _ _ hne2, World.cell?_setCell_far _ _ _ _ hne2, World.cell?_setCell_far _ _ _ _ hne2, World.cell?_setCell_far _ _ _ _ hne2]
           exact bz u5 b5)))
    all_goals
      obtain ⟨y, hy, y0, y1, yO, yS, yB⟩ := cut_fin (q := 0) (v := e) K0 b5 Z5 (by have := HG.out; omega) o5 HS2
      rw [hy]
      clear hy far5 q0 q1 r0 r1 Z5 o5 b5 d5 bz
      go_wp2
      refine bodyPost_ret (v := .tuple #[.slice A5 x c5, .agg #[.slice A2 0 c2, .bool e]]) (by simp [results, go_sem, y0, y1]) rfl ?_
      exact ⟨A5, c5, A2, c2, by first | rfl | rw [Nat.sub_self], yO, yS, yB⟩
end Go.Proofs.YtggcampdkgfmgaaGreat.L13
namespace Go.Proofs.YtggcampdkgfmgaaGreat.L13
open Go.RowKit

/-! The program's Put and Read. -/
theorem LnN.lnF {w : World} {base n c : Nat} {A : Option Addr} {rs : List Rc} (h : LnN w base 132 A n c rs) : LnF w base A c rs := by
  refine ⟨h.ln, fun hne => ?_, fun r hr hne => ?_⟩
  · obtain ⟨g, cs, h1, h2, h3⟩ := own_addr h.row (by rw [← h.len]; exact List.length_pos_iff.2 hne)
    exact ⟨g, 0, cs, h1, h2, h3⟩
  · obtain ⟨g, cs, h1, h2, h3⟩ := own_addr (h.text r hr) (List.length_pos_iff.2 hne)
    exact ⟨g, 0, cs, h1, h2, h3⟩
theorem lnF_nil (w : World) (base : Nat) : LnF w base none 0 [] := ⟨(LnO.nil w 0 0).ln, fun h => absurd rfl h, fun r hr => by cases hr⟩
theorem lies_rows (W : World) (g2 : Nat) (hg : g2 = W.heap.size) (s1 s2 : Sr) (v1 v2 : Value) (h1 : s1.v = v1) (h2 : s2.v = v2) : Lies (W.alloc (.cells #[v1, v2] 41)) (W.alloc (.cells #[v1, v2] 41)).heap.size (some ⟨g2, 0, none⟩) ([s1, s2].map Sr.v) := by
  subst hg h1 h2
  have h := lies_lit W #[s1.v, s2.v] 41
  have e : (W.alloc (.cells #[s1.v, s2.v] 41)).heap.size = W.heap.size + 1 := by simp
  rw [e]
  exact h
theorem catR_two (s1 s2 : Sr) : catR [s1, s2] = s1.rs ++ s2.rs := by simp [catR]
theorem rows_ln {W : World} {s1 s2 : Sr} (h1 : LnV W W.heap.size s1.A s1.c s1.rs) (h2 : LnV W W.heap.size s2.A s2.c s2.rs) : ∀ s ∈ [s1, s2], LnV W W.heap.size s.A s.c s.rs := by
  intro s hs
  rcases List.mem_cons.1 hs with rfl | hs
  · exact h1
  · obtain rfl := List.mem_singleton.1 hs
    exact h2
theorem ln_litq {W : World} {g q : Nat} {x : Rc} (hq : x.bs.length = q) (hb : Box W g 132 #[.slice x.A q x.c, .bool x.e]) (hx : SlB W W.heap.size x.A x.c x.bs) : LnV W W.heap.size (some ⟨g, 0, none⟩) 1 [x] := by
  subst hq
  exact ln_lit hb hx
theorem concatL_two (u W : World) (hW : Below u.heap.size u W) (A : Option Addr) (c q : Nat) (s1 s2 : Sr) (hl : Hid (Lies W W.heap.size A ([s1, s2].map Sr.v))) (ht : Hid (∀ s ∈ [s1, s2], LnV W W.heap.size s.A s.c s.rs)) (hq : (s1.rs ++ s2.rs).length = q) (hT : q ≤ 1000000) :
    Calls Tryz.prog 140 #[.slice A 2 c] W fun e w' => ∃ A' c', e = .returned (.slice A' q c') ∧ Hid (LnO w' W.heap.size 132 A' q c' (s1.rs ++ s2.rs)) ∧ Below u.heap.size u w' ∧ Below W.heap.size W w' := by
  refine (concatL_any W A 2 c [s1, s2] hl ht rfl (by decide) (by rw [catR_two, hq]; exact hT)).mono ?_
  rw [catR_two]
  rintro e w' ⟨A', n', c', rfl, h1, h2⟩
  obtain rfl : n' = q := h1.out.len.symm.trans hq
  exact ⟨A', c', rfl, h1, hW.trans (h2.out.mono hW.size), h2.out⟩
theorem copied_grow (u W : World) (hW : Below u.heap.size u W) (A : Option Addr) (n c : Nat) (rs : List Rc) (hl : Hid (LnV W W.heap.size A c rs)) (hn : rs.length = n) (hm : n ≤ 4000) (ht : Hid (∀ r ∈ rs, r.bs.length ≤ 140737488351232)) :
    Calls Tryz.prog 138 #[.slice A n c] W fun e w' => ∃ A2 c2 qs, e = .returned (.slice A2 n c2) ∧ Hid (lnR qs = lnR rs) ∧ Hid (LnN w' W.heap.size 132 A2 n c2 qs) ∧ Below u.heap.size u w' ∧ Below W.heap.size W w' := by
  refine (copied_any W A n c rs hl hn hm ht).mono ?_
  rintro e w' ⟨A2, c2, qs, rfl, h1, h2, h3⟩
  exact ⟨A2, c2, qs, rfl, h1, h2, hW.trans (h3.out.mono hW.size), h3.out⟩
set_option maxRecDepth 100000 in
set_option maxHeartbeats 4000000 in
theorem putp_any (w : World) (A : Option Addr) (n c : Nat) (rs : List Rc) (x : Rc) (hl : Hid (LnV w w.heap.size A c rs)) (hx : Hid (SlB w w.heap.size x.A x.c x.bs)) (hn : rs.length = n) (hm : n ≤ 3900) (ht : Hid (∀ r ∈ rs, r.bs.length ≤ 140737488351232)) (hxt : Hid (x.bs.length ≤ 140737488351232)) :
    Calls Tryz.prog 186 #[.slice A n c, .agg #[.slice x.A x.bs.length x.c, .bool x.e]] w (RetLF w (putL (lnR rs) x.ln)) := by
  have htj : Hid (∀ r ∈ rs ++ [x], r.bs.length ≤ 140737488351232) := hid (fun r hr => by
    rcases List.mem_append.1 hr with h | h
    · exact ht.out r h
    · rw [List.mem_singleton.1 h]; exact hxt.out)
  have hlen : (rs ++ [x]).length = n + 1 := by rw [List.length_append, hn]; rfl
  have hm1 : n + 1 ≤ 4000 := by omega
  have hm2 : n ≤ 4000 := by omega
  have hm3 : n + 1 ≤ 1000000 := by omega
  obtain ⟨y, hy⟩ : ∃ y, Hid (x.bs.length = y) := ⟨_, hid rfl⟩
  obtain ⟨U, hU⟩ : ∃ U, Hid (usedL (lnR (rs ++ [x])) = U) := ⟨_, hid rfl⟩
  have hU2 : usedL (lnR rs) + usedL [x.ln] = U := by rw [← hU.out, lnR_append, usedL_append]; rfl
  have K1 : Hid (Below w.heap.size w (w.alloc (.cells #[.slice x.A y x.c, .bool x.e] 132))) := hid ((Below.refl _ w).alloc (Nat.le_refl _) _)
  have K3 : Hid (Below w.heap.size w (((w.alloc (.cells #[.slice x.A y x.c, .bool x.e] 132)).alloc (.cells #[.slice x.A y x.c, .bool x.e] 132)).alloc (.cells #[.slice A n c, .slice (some ⟨w.heap.size + 1, 0, none⟩) 1 1] 41))) := hid ((K1.out.alloc K1.out.size _).alloc (by simp; omega) _)
  have HLi : Hid (Lies (((w.alloc (.cells #[.slice x.A y x.c, .bool x.e] 132)).alloc (.cells #[.slice x.A y x.c, .bool x.e] 132)).alloc (.cells #[.slice A n c, .slice (some ⟨w.heap.size + 1, 0, none⟩) 1 1] 41)) (((w.alloc (.cells #[.slice x.A y x.c, .bool x.e] 132)).alloc (.cells #[.slice x.A y x.c, .bool x.e] 132)).alloc (.cells #[.slice A n c, .slice (some ⟨w.heap.size + 1, 0, none⟩) 1 1] 41)).heap.size (some ⟨w.heap.size + 2, 0, none⟩) ([(⟨A, c, rs⟩ : Sr), ⟨some ⟨w.heap.size + 1, 0, none⟩, 1, [x]⟩].map Sr.v)) :=
    hid (lies_rows _ _ (by simp) ⟨A, c, rs⟩ ⟨some ⟨w.heap.size + 1, 0, none⟩, 1, [x]⟩ _ _ (by unfold Sr.v; rw [hn]) rfl)
  have HB1 : Box (((w.alloc (.cells #[.slice x.A y x.c, .bool x.e] 132)).alloc (.cells #[.slice x.A y x.c, .bool x.e] 132)).alloc (.cells #[.slice A n c, .slice (some ⟨w.heap.size + 1, 0, none⟩) 1 1] 41)) (w.heap.size + 1) 132 #[.slice x.A y x.c, .bool x.e] := box_al (box_nw (by simp))
  have HLn := hid (rows_ln (s1 := ⟨A, c, rs⟩) (s2 := ⟨some ⟨w.heap.size + 1, 0, none⟩, 1, [x]⟩) (ln_up hl K3.out).out (ln_litq hy.out HB1 (slb_up hx K3.out).out))
  have HB := hid HB1
  rw [hy.out]
  clear HB1
  by_cases hu : U ≤ 1024
  · have hp : Hid (putL (lnR rs) x.ln = (lnR (rs ++ [x]), true)) := hid (by unfold putL; rw [hU2, if_pos hu, lnR_append]; rfl)
    have hui : ¬ (1024 : Int) < (U : Int) := by omega
    clear hU2 hu
    go_enter Tryz.func186, Tryz.ntmps186
    go_wp2_with (first
      | (refine bx30 (by rfl) _ (by rfl) _ _ (by rfl) ?_
         intro G0
         have d0 := G0.out.cell 0
         have d1 := G0.out.cell 1)
      | (go_at_call 140
         (with_reducible refine (concatL_two w _ K3.out _ _ (n + 1) ⟨A, c, rs⟩ ⟨some ⟨w.heap.size + 1, 0, none⟩, 1, [x]⟩ HLi HLn hlen hm3).mono ?_)
         rintro e u1 ⟨A1, c1, rfl, N1, k1, _⟩
         have l1 := hid N1.out.ln)
      | (go_at_call 32
         (with_reducible refine (usedp_any _ A1 (n + 1) c1 (rs ++ [x]) l1 hlen hm1 htj).mono ?_)
         rw [hU.out]
         rintro e u2 ⟨rfl, k2⟩
         have l2 := ln_up l1 k2.out)
      | (go_at_call 138
         (with_reducible refine (copied_any _ A1 (n + 1) c1 (rs ++ [x]) l2 hlen hm1 htj).mono ?_)
         rintro e u3 ⟨A3, c3, q3, rfl, hq3, N3, k3⟩))
    go_ret2
    have b2 : Below w.heap.size w u2 := k1.trans (k2.out.mono k1.size)
    rw [hp.out]
    exact ⟨A3, n + 1, c3, q3, rfl, hq3, hid N3.out.len, hid (N3.out.mono b2.size).lnF, hid (b2.trans (k3.out.mono b2.size))⟩
  · have hp : Hid (putL (lnR rs) x.ln = (lnR rs, false)) := hid (by unfold putL; rw [hU2, if_neg hu])
    have hui : (1024 : Int) < (U : Int) := by omega
    clear hU2 hu
    go_enter Tryz.func186, Tryz.ntmps186
    go_wp2_with (first
      | (refine bx30 (by rfl) _ (by rfl) _ _ (by rfl) ?_
         intro G0
         have d0 := G0.out.cell 0
         have d1 := G0.out.cell 1)
      | (go_at_call 140
         (with_reducible refine (concatL_two w _ K3.out _ _ (n + 1) ⟨A, c, rs⟩ ⟨some ⟨w.heap.size + 1, 0, none⟩, 1, [x]⟩ HLi HLn hlen hm3).mono ?_)
         rintro e u1 ⟨A1, c1, rfl, N1, k1, _⟩
         have l1 := hid N1.out.ln)
      | (go_at_call 32
         (with_reducible refine (usedp_any _ A1 (n + 1) c1 (rs ++ [x]) l1 hlen hm1 htj).mono ?_)
         rw [hU.out]
         rintro e u2 ⟨rfl, k2⟩
         have b2 : Below w.heap.size w u2 := k1.trans (k2.out.mono k1.size)
         have l2 := ln_up hl b2)
      | (go_at_call 138
         (with_reducible refine (copied_any _ A n c rs l2 hn hm2 ht).mono ?_)
         rintro e u3 ⟨A3, c3, q3, rfl, hq3, N3, k3⟩))
    go_ret2
    rw [hp.out]
    exact ⟨A3, n, c3, q3, rfl, hq3, hid N3.out.len, hid (N3.out.mono b2.size).lnF, hid (b2.trans (k3.out.mono b2.size))⟩
end Go.Proofs.YtggcampdkgfmgaaGreat.L13
namespace Go.Proofs.YtggcampdkgfmgaaGreat.L13
open Go.RowKit

theorem run_tailp (a : Addr) (n c : Nat) (hn : 1 ≤ n) (_hc : n ≤ c) (W : World) : (Instr.sliceAt 41 (.slice (some a) n c) (some (.int .i64 1)) none none).run Tryz.prog W = .ok (.slice (some (if c = 1 then a else a.add 2)) (n - 1) (c - 1)) W := by
  have hni : (1 : Int) ≤ (n : Int) := by omega
  by_cases hc1 : c = 1
  · simp [Instr.sliceAt, Instr.slice, go_sem, hni, hc1]
  · simp [Instr.sliceAt, Instr.slice, go_sem, hni, hc1]
theorem own_new {w w' : World} {base b0 n c : Nat} {A : Option Addr} {bs : List UInt8} (h : w.ownsRow b0 5 1 (.slice A n c) n (bv bs)) (hb : base ≤ b0) (hn : bs.length = n) (k : Below w.heap.size w w') : NewB w' base A bs := fun hne => by
  obtain ⟨g, cs, h1, h2, h3⟩ := own_addr h (by rw [← hn]; exact List.length_pos_iff.2 hne)
  exact ⟨g, 0, cs, h1, Nat.le_trans hb h2, box_below h3 k⟩
set_option maxRecDepth 100000 in
set_option maxHeartbeats 4000000 in
theorem readp_any (w : World) (A : Option Addr) (n c : Nat) (rs : List Rc) (k : Int) (hl : Hid (LnV w w.heap.size A c rs)) (hn : rs.length = n) (hm : n ≤ 4000) (ht : Hid (∀ r ∈ rs, r.bs.length ≤ 140737488351232)) :
    Calls Tryz.prog 106 #[.slice A n c, .int .i64 k] w (RetRF w (readL (lnR rs) k)) := by
  cases rs with
  | nil =>
    obtain rfl : n = 0 := hn.symm
    go_enter Tryz.func106, Tryz.ntmps106
    go_wp2
    go_ret3
    exact ⟨none, 0, 0, none, 0, 0, [], rfl, hid rfl, hid (slb_nil _), hid (fun h => absurd rfl h), hid rfl, hid rfl, hid (lnF_nil _ _), hid (Below.refl _ _)⟩
  | cons r0 rt =>
    have hpos : 0 < n := by rw [← hn]; simp
    have hposi : ((n : Int) == 0) = false := beq_eq_false_iff_ne.2 (by omega)
    by_cases hk : k ≤ 0
    · have hp : Hid (readL (lnR (r0 :: rt)) k = ([], lnR (r0 :: rt), true)) := hid (by show (if k ≤ 0 then _ else _) = _; rw [if_pos hk]; rfl)
      go_enter Tryz.func106, Tryz.ntmps106
      go_wp2_with (first
        | (go_at_call 138
           (with_reducible refine (copied_any _ A n c (r0 :: rt) hl hn hm ht).mono ?_)
           rintro e u1 ⟨A1, c1, q1, rfl, hq1, N1, k1⟩))
      go_ret3
      rw [hp.out]
      exact ⟨none, 0, 0, A1, n, c1, q1, rfl, hid rfl, hid (slb_nil _), hid (fun h => absurd rfl h), hq1, hid N1.out.len, hid N1.out.lnF, k1⟩
    · have hk1 : ¬ k ≤ 0 := hk
      obtain ⟨m, rfl⟩ : ∃ m : Nat, k = m := ⟨k.toNat, by omega⟩
      obtain ⟨x, hx⟩ : ∃ x, Hid (r0.bs.length = x) := ⟨_, hid rfl⟩
      have hx5 : x ≤ 140737488351232 := by rw [← hx.out]; exact ht.out r0 List.mem_cons_self
      have htt : Hid (∀ r ∈ rt, r.bs.length ≤ 140737488351232) := hid (fun r hr => ht.out r (List.mem_cons_of_mem _ hr))
      have hrt : rt.length = n - 1 := by simp at hn; omega
      have hm1 : n - 1 ≤ 4000 := by omega
      obtain ⟨b, o, r, hA, hr, d0, d1, hS⟩ := hl.out.at (k := 0) (by simp)
      obtain rfl : r0 = r := by simpa using hr
      rw [hx.out] at d0
      subst hA
      have S0 := hid hS
      have hcc := hl.out.len
      simp only [List.length_cons] at hcc
      obtain ⟨A7, c7, rt1, HT⟩ : ∃ A7 c7, (∀ W : World, (Instr.sliceAt 41 (.slice (some ⟨b, o, none⟩) n c) (some (.int .i64 1)) none none).run Tryz.prog W = .ok (.slice A7 (n - 1) c7) W) ∧ Hid (LnV w w.heap.size A7 c7 rt) := ⟨_, _, run_tailp ⟨b, o, none⟩ n c hpos (by omega), hid hl.out.tail⟩
      simp only [Nat.zero_mul, Nat.add_zero] at d0 d1
      clear hr hS hcc
      by_cases hxm : x ≤ m
      · have hp : Hid (readL (lnR (r0 :: rt)) (m : Int) = (r0.bs, lnR rt, true)) := hid (by show (if (m : Int) ≤ 0 then _ else if (r0.bs.length : Int) ≤ (m : Int) then _ else _) = _; rw [if_neg hk, hx.out, if_pos (by omega)]; rfl)
        have hmin : ((m : Int) ≤ (x : Int) ∧ (m : Int) = (x : Int)) ∨ (¬ (m : Int) ≤ (x : Int) ∧ x = x) := by omega
        have hxx : x - x = 0 := Nat.sub_self x
        have htk : r0.bs.take x = r0.bs := List.take_of_length_le (by rw [hx.out]; exact Nat.le_refl _)
        have HTK := hid htk
        clear htk
        clear hxm
        go_enter Tryz.func106, Tryz.ntmps106
        go_wp2_with (first
          | (go_at_call 139
             (with_reducible refine (cut_at _ r0.A x r0.c x r0.bs r0.e (m : Int) S0 hx.out hx5 (Nat.le_refl _) hmin).mono ?_)
             rintro e u1 ⟨A1, c1, A2, c2, rfl, O1, S1, k1⟩
             rw [hxx]
             have k2 : Hid (Below w.heap.size w (u1.alloc (.cells #[.slice A2 0 c2, .bool r0.e] 132))) := hid (k1.out.alloc k1.out.size _)
             have HT2 := ln_up HT k2.out)
          | (go_at_call 138
             (with_reducible refine (copied_any _ A7 (n - 1) c7 rt HT2 hrt hm1 htt).mono ?_)
             rintro e u3 ⟨A3, c3, q3, rfl, hq3, N3, k3⟩))
        go_ret3
        rw [hp.out]
        have b3 : Below u1.heap.size u1 u3 := ((Below.refl _ u1).alloc (Nat.le_refl _) _).trans (k3.out.mono (by simp))
        have O1' := O1.out
        rw [HTK.out] at O1'
        exact ⟨A1, x, c1, A3, n - 1, c3, q3, rfl, hx, slb_own hx (hid (own_keep O1' b3)), hid (own_new O1' (Nat.le_refl _) hx.out b3), hq3, hid N3.out.len, hid (N3.out.mono k2.out.size).lnF, hid (k1.out.trans (b3.mono k1.out.size))⟩
      · have hp : Hid (readL (lnR (r0 :: rt)) (m : Int) = (r0.bs.take m, (r0.bs.drop m, r0.e) :: lnR rt, true)) := hid (by show (if (m : Int) ≤ 0 then _ else if (r0.bs.length : Int) ≤ (m : Int) then _ else _) = _; rw [if_neg hk, hx.out, if_neg (by omega)]; rfl)
        have hmx : m ≤ x := by omega
        have hmin : ((m : Int) ≤ (x : Int) ∧ (m : Int) = (m : Int)) ∨ (¬ (m : Int) ≤ (x : Int) ∧ x = m) := Or.inl ⟨by omega, rfl⟩
        obtain ⟨q, hq⟩ : ∃ q, x - m = q := ⟨_, rfl⟩
        have hqd : (r0.bs.drop m).length = q := by rw [List.length_drop, hx.out, hq]
        have hq0 : ((q : Int) == 0) = false := beq_eq_false_iff_ne.2 (by omega)
        have htl : (r0.bs.take m).length = m := by rw [List.length_take, hx.out]; omega
        have HTL := hid htl
        have HQD := hid hqd
        have hlen2 : ∀ A2 c2, (([(⟨A2, c2, r0.bs.drop m, r0.e⟩ : Rc)]) ++ rt).length = n := fun A2 c2 => by rw [List.length_append, hrt]; simp; omega
        have htj : ∀ A2 c2, Hid (∀ r ∈ [(⟨A2, c2, r0.bs.drop m, r0.e⟩ : Rc)] ++ rt, r.bs.length ≤ 140737488351232) := fun A2 c2 => hid (fun r hr => by
          rcases List.mem_append.1 hr with h | h
          · rw [List.mem_singleton.1 h]; show (r0.bs.drop m).length ≤ _; rw [HQD.out]; omega
          · exact htt.out r h)
        have hm3 : n ≤ 1000000 := by omega
        clear htl hqd hxm
        go_enter Tryz.func106, Tryz.ntmps106
        go_wp2_with (first
          | (go_at_call 139
             (with_reducible refine (cut_at _ r0.A x r0.c m r0.bs r0.e (m : Int) S0 hx.out hx5 hmx hmin).mono ?_)
             rintro e u1 ⟨A1, c1, A2, c2, rfl, O1, S1, k1⟩
             rw [hq]))
        have k2 : Hid (Below w.heap.size w (u1.alloc (.cells #[.slice A2 q c2, .bool r0.e] 132))) := hid (k1.out.alloc k1.out.size _)
        have j1 : Hid (Below u1.heap.size u1 (u1.alloc (.cells #[.slice A2 q c2, .bool r0.e] 132))) := hid ((Below.refl _ u1).alloc (Nat.le_refl _) _)
        have G1 : Hid (Box (u1.alloc (.cells #[.slice A2 q c2, .bool r0.e] 132)) u1.heap.size 132 #[.slice A2 q c2, .bool r0.e]) := hid (Box.new u1 132 _)
        obtain ⟨gl, hgl⟩ : ∃ g, u1.heap.size = g := ⟨_, rfl⟩
        rw [hgl] at G1 ⊢
        generalize u1.alloc (.cells #[.slice A2 q c2, .bool r0.e] 132) = u at k2 j1 G1 ⊢
        have S2 := slb_at S1 j1
        have T2 := ln_up HT k2.out
        have bz : ∀ W, Below u.heap.size u W → W.cell? ⟨gl, 0, none⟩ = some (.slice A2 q c2) ∧ W.cell? ⟨gl, 1, none⟩ = some (.bool r0.e) := fun W h => ⟨(box_below G1.out h).cell 0, (box_below G1.out h).cell 1⟩
        go_region_held3 (fun W => W.cell? ⟨gl, 0, none⟩ = some (.slice A2 q c2) ∧ W.cell? ⟨gl, 1, none⟩ = some (.bool r0.e)) (first | exact bz _ (by repeat (first | exact Below.refl _ _ | exact b5 | exact b6 | with_reducible apply bel_dr | with_reducible apply bel_al))) ((first
          | (go_at_call 140
             (with_reducible refine (concatL_two u _ ?c1 _ _ n ⟨some ⟨u.heap.size, 0, none⟩, 1, [⟨A2, c2, r0.bs.drop m, r0.e⟩]⟩ ⟨A7, c7, rt⟩ ?c2 ?c3 (hlen2 _ _) hm3).mono ?_)
             case c1 => repeat (first | exact Below.refl _ _ | exact b5 | exact b6 | with_reducible apply bel_dr | with_reducible apply bel_al)
             case c2 => exact hid (lies_rows _ _ (by simp) ⟨some ⟨u.heap.size, 0, none⟩, 1, [⟨A2, c2, r0.bs.drop m, r0.e⟩]⟩ ⟨A7, c7, rt⟩ _ _ rfl (by unfold Sr.v; rw [hrt]))
             case c3 => exact hid (rows_ln (ln_litq HQD.out (by first | exact box_al (box_nw rfl) | exact box_al (box_dr (box_nw rfl)) | exact box_dr (box_al (box_nw rfl))) (slb_up S2 (by repeat (first | exact Below.refl _ _ | exact b5 | exact b6 | with_reducible apply bel_dr | with_reducible apply bel_al))).out) (ln_up T2 (by repeat (first | exact Below.refl _ _ | exact b5 | exact b6 | with_reducible apply bel_dr | with_reducible apply bel_al))).out)
             rintro e u5 ⟨A5, c5, rfl, N5, b5, d5⟩
             have l5 := hid N5.out.ln)
          | (go_at_call 138
             (with_reducible refine (copied_grow u _ ?c4 A5 n c5 _ l5 (hlen2 _ _) hm (htj _ _)).mono ?_)
             case c4 => repeat (first | exact Below.refl _ _ | exact b5 | exact b6 | with_reducible apply bel_dr | with_reducible apply bel_al)
             rintro e u6 ⟨A6, c6, q6, rfl, hq6, N6, b6, d6⟩)))
        all_goals
          have b16 : Hid (Below u1.heap.size u1 u6) := hid (j1.out.trans (b6.mono j1.out.size))
          have N7 := hid (N6.out.mono (Nat.le_trans (Nat.le_trans k1.out.size j1.out.size) b5.size))
          have K7 : Hid (Below w.heap.size w u6) := hid (k1.out.trans (b16.out.mono k1.out.size))
          have Q7 : Hid (lnR q6 = (r0.bs.drop m, r0.e) :: lnR rt) := hid hq6.out
          clear bz b5 b6 d5 d6 N5 N6 l5 hq6
          go_wp2
          go_ret3
          rw [hp.out]
          exact ⟨A1, m, c1, A6, n, c6, q6, rfl, HTL, slb_own HTL (hid (own_keep O1.out b16.out)), hid (own_new O1.out (Nat.le_refl _) HTL.out b16.out), Q7, hid N7.out.len, hid N7.out.lnF, K7⟩
end Go.Proofs.YtggcampdkgfmgaaGreat.L13
