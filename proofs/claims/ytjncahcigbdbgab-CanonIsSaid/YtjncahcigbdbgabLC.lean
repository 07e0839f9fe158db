import Derived.Test.YtjncahcigbdbgabLB
namespace Go.Proofs.Ytjncahcigbdbgab
open Go.RowKit

/-! Lines are copied, bytes and all. -/
/-- Lines that a call has made: the row and all bytes are its own. -/
structure LnN (w : World) (base E : Nat) (A : Option Addr) (n c : Nat) (rs : List Rc) : Prop where
  len : rs.length = n
  row : w.ownsRow base E 2 (.slice A n c) n (rcV rs)
  text : ∀ r ∈ rs, w.ownsRow base 5 1 (.slice r.A r.bs.length r.c) r.bs.length (bv r.bs)
theorem LnN.nil (w : World) (base E : Nat) : LnN w base E none 0 0 [] := ⟨rfl, World.ownsRow_nil _ _ _ _, fun r h => by cases h⟩
theorem LnN.up {w w' : World} {base E n c : Nat} {A : Option Addr} {rs : List Rc} (h : LnN w base E A n c rs) (hb : Below w.heap.size w w') : LnN w' base E A n c rs :=
  ⟨h.len, own_keep h.row hb, fun r hr => own_keep (h.text r hr) hb⟩
theorem LnN.lnO {w : World} {base E n c : Nat} {A : Option Addr} {rs : List Rc} (h : LnN w base E A n c rs) : LnO w base E A n c rs := ⟨h.len, h.row, fun r hr => own_slb (_n := 0) (h.text r hr)⟩
theorem LnN.ln {w : World} {base E n c : Nat} {A : Option Addr} {rs : List Rc} (h : LnN w base E A n c rs) : LnV w w.heap.size A c rs := h.lnO.ln
theorem lnR_snoc (qs : List Rc) (q : Rc) : lnR (qs ++ [q]) = lnR qs ++ [q.ln] := by simp [lnR]
theorem lnR_len (qs : List Rc) : (lnR qs).length = qs.length := by simp [lnR]
/-- A record is put behind a row of the call's own, in a region that draws. -/
theorem step_rec {ops : Array Oper} {o : Oper} {a : Act} {K : Act → World → Prop} {Q : Exit → Act → World → Prop} {E0 : Prop} (T E : TypeId) (hT : Try.prog.underlying T = some (.slice E)) (hE : (Try.prog.info? E).map (fun i => (i.zero, i.size, i.bytes)) = some (some (.agg #[.slice none 0 0, .bool false]), 2, 32)) {W : World} (hgd : o.guard = none) (s x : Operand) (ho : o.op = .call { callee := .builtin .append, args := #[s, x], argTypes := #[T, T] })
    (base n m c : Nat) (A : Option Addr) (xs ys : List Rc) (hs : a.eval s = .slice A n c) (hown : Hid (W.ownsRow base E 2 (.slice A n c) n (rcV xs))) (hb : base ≤ W.heap.size) (A2 : Option Addr) (c2 : Nat) (hx : a.eval x = .slice A2 m c2) (hL : Hid (Lies W W.heap.size A2 (rcV ys))) (hy : ys.length = m) (hm : n + m ≤ 1000000)
    (h : ∀ A' c' w', Hid (w'.ownsRow base E 2 (.slice A' (n + m) c') (n + m) (rcV (xs ++ ys))) → Hid (Kept base [E] W w') → Hid (W.grownBy w' (Value.slice A n c).ownBlock) → K (a.put o.dst (.slice A' (n + m) c')) w') : if Region.wanted o (yielded ops a.tmps) = true then Oper.wp Try.prog o a W K Q else E0 := by
  obtain ⟨i0, hi0, hz0, hz1, hz2⟩ := info_parts hE
  refine step_app _ hgd s x T ho base E i0 _ 2 32 hT hi0 hz0 hz1 hz2 rfl (by decide) A n c (rcV xs) hs hown.out W.heap.size A2 m c2 (rcV ys) hx (by rw [rcV_len, hy]) hL.out (rcV_cell ys) (by unfold maxLen; omega) (by omega) hb ?_
  intro A3 c3 u2 ho2 hg2
  rw [← rcV_append] at ho2
  have hk : Kept base [E] W u2 := (Kept.refl base [E] W).grown hg2 (fun k hk => by obtain ⟨a, cs, b⟩ := own_box hown.out k hk; exact ⟨a, E, cs, by simp, b⟩)
  exact h A3 c3 u2 (hid ho2) (hid hk) (hid hg2)
theorem ln_snoc {W w' : World} {base E n c c' : Nat} {A A' : Option Addr} {qs : List Rc} {q : Rc} (h : LnN W base E A n c qs) (ht : W.ownsRow base 5 1 (.slice q.A q.bs.length q.c) q.bs.length (bv q.bs)) (hk : Kept base [E] W w') (hE : (5 : Nat) ∉ [E]) (ho : w'.ownsRow base E 2 (.slice A' (n + 1) c') (n + 1) (rcV (qs ++ [q]))) : LnN w' base E A' (n + 1) c' (qs ++ [q]) := by
  refine ⟨by rw [List.length_append, h.len]; rfl, ho, fun r hr => ?_⟩
  rcases List.mem_append.1 hr with h1 | h1
  · exact hk.own (h.text r h1) hE
  · obtain rfl := List.mem_singleton.1 h1
    exact hk.own ht hE
set_option maxRecDepth 100000 in
set_option maxHeartbeats 4000000 in
theorem copyr_any (w : World) (A : Option Addr) (n c : Nat) (rs : List Rc) (hl : Hid (LnV w w.heap.size A c rs)) (hn : rs.length = n) (hm : n ≤ 1000) (ht : Hid (∀ r ∈ rs, r.bs.length ≤ 140737488351232)) :
    Calls Try.prog 24 #[.slice A n c] w fun e w' => ∃ A2 c2 qs, e = .returned (.slice A2 n c2) ∧ Hid (lnR qs = lnR rs) ∧ Hid (LnN w' w.heap.size 37 A2 n c2 qs) ∧ Hid (Below w.heap.size w w') := by
  have HN := hid hn
  go_enter Try.func24, Try.ntmps24
  go_wp2
  go_loopw [3, 8] (fun o i wr => ∃ (k : Nat) (A2 : Option Addr) (c2 : Nat) (qs : List Rc), k ≤ n ∧ i = .int .i64 k ∧ o = .slice A2 k c2 ∧ Hid (lnR qs = lnR (rs.take k)) ∧ Hid (LnN wr w.heap.size 37 A2 k c2 qs) ∧ Hid (Below w.heap.size w wr)) (fun _ i _ => n - (intOf i).toNat)
  case atStart => exact ⟨0, none, 0, [], Nat.zero_le _, rfl, rfl, hid rfl, hid (LnN.nil _ _ _), hid (Below.refl _ _)⟩
  case round =>
    obtain ⟨k, A2, c2, qs, hk, rfl, rfl, HQ, HO, HB⟩ := hrel
    by_cases hlt : k < n
    · have HLw := ln_up hl HB.out
      obtain ⟨b, o, r, hA, hr, d0, d1, hS⟩ := HLw.out.at (k := k) (by rw [hn]; exact hlt)
      subst hA
      have HT := hid (rcV_take hr)
      have hne : some wr.heap.size ≠ (Value.slice A2 k c2).ownBlock := fun e => by have := (HO.out.row.lt _ e.symm).2; omega
      have htl : r.bs.length ≤ 140737488355328 := Nat.le_trans (ht.out r (List.mem_of_getElem? hr)) (by decide)
      have S0 := hid hS
      clear hS hr
      go_wp2
      have G1 : Hid (Box (wr.alloc (.cells #[.slice r.A r.bs.length r.c, .bool r.e] 37)) wr.heap.size 37 #[.slice r.A r.bs.length r.c, .bool r.e]) := hid (Box.new wr 37 _)
      have k1 : Hid (Below wr.heap.size wr (wr.alloc (.cells #[.slice r.A r.bs.length r.c, .bool r.e] 37))) := hid ((Below.refl _ wr).alloc (Nat.le_refl _) _)
      generalize wr.alloc (.cells #[.slice r.A r.bs.length r.c, .bool r.e] 37) = u1 at G1 k1 ⊢
      have O1 := hid (HO.out.up k1.out)
      have S1 := slb_at S0 k1
      have B1 := bel_t HB k1.out
      have hz1 := B1.out.size
      have bz : ∀ W, Below u1.heap.size u1 W → W.cell? ⟨wr.heap.size, 0, none⟩ = some (.slice r.A r.bs.length r.c) ∧ W.cell? ⟨wr.heap.size, 1, none⟩ = some (.bool r.e) := fun W h => ⟨(box_below G1.out h).cell 0, (box_below G1.out h).cell 1⟩
      go_region_held3 (fun u => u.cell? ⟨wr.heap.size, 0, none⟩ = some (.slice r.A r.bs.length r.c) ∧ u.cell? ⟨wr.heap.size, 1, none⟩ = some (.bool r.e)) (first | exact S6 | exact bz _ (by repeat (first | exact Below.refl _ _ | exact b5 | with_reducible apply bel_dr | with_reducible apply bel_al))) ((first
        | (refine step_copy u1 u1 (by rfl) (.tmp 13) (.tmp 15) rfl _ rfl ?c1 ?c2 ?c3 ?c4 r.A r.bs.length r.c r.bs rfl S1 (hid rfl) htl ?_
           case c1 => first | exact box_nw rfl | exact box_dr (box_nw rfl)
           case c2 => exact Nat.le_refl _
           case c3 => repeat (first | exact Below.refl _ _ | with_reducible apply bel_dr | with_reducible apply bel_al)
           case c4 => repeat (first | exact Below.refl _ _ | with_reducible apply bel_dr | with_reducible apply bel_al)
           intro A5 c5 u5 b5 o5)
        | (refine step_rec 33 37 Try.underlying33 Try.info37 (by rfl) (.tmp 12) (.tmp 20) rfl w.heap.size k 1 c2 A2 qs [⟨A5, c5, r.bs, r.e⟩] rfl (hid (own_keep O1.out.row ?d1)) ?d2 _ 1 rfl (hid (lies_rec u5 37 ⟨A5, c5, r.bs, r.e⟩ #[.slice A5 r.bs.length c5, .bool r.e] _ (by first | rfl | simp) rfl)) rfl (by omega) ?_
           case d1 => repeat (first | exact Below.refl _ _ | exact b5 | with_reducible apply bel_dr | with_reducible apply bel_al)
           case d2 => exact Nat.le_trans hz1 (Below.size (by repeat (first | exact Below.refl _ _ | exact b5 | with_reducible apply bel_dr | with_reducible apply bel_al)))
           intro A6 c6 u6 o6 k6 g6
           have b6 : Below u1.heap.size u1 (u5.alloc (.cells #[.slice A5 r.bs.length c5, .bool r.e] 37)) := by repeat (first | exact Below.refl _ _ | exact b5 | with_reducible apply bel_dr | with_reducible apply bel_al)
           have S6 : u6.cell? ⟨wr.heap.size, 0, none⟩ = some (.slice r.A r.bs.length r.c) ∧ u6.cell? ⟨wr.heap.size, 1, none⟩ = some (.bool r.e) := ⟨g6.out.cell (bz _ b6).1 hne, g6.out.cell (bz _ b6).2 hne⟩)))
      all_goals
        have t5 := own_keep (own_mono o5.out hz1) ((Below.refl u5.heap.size u5).alloc (Nat.le_refl _) (.cells #[.slice A5 r.bs.length c5, .bool r.e] 37))
        have N6 := hid (ln_snoc (q := ⟨A5, c5, r.bs, r.e⟩) (O1.out.up b6) t5 k6.out (by decide) o6.out)
        have B6 : Hid (Below w.heap.size w u6) := hid ((bel_t B1 b6).out.trans (k6.out.below (Nat.le_trans hz1 b6.size)))
        have Q6 : Hid (lnR (qs ++ [⟨A5, c5, r.bs, r.e⟩]) = lnR (rs.take (k + 1))) := hid (by rw [HT.out, lnR_snoc, lnR_snoc, HQ.out]; rfl)
        clear bz o6 k6 b6 t5 o5 g6 S6
        go_wp2
        go_roundw
        case rel => exact ⟨k + 1, A6, c6, _, by omega, by go_num, rfl, Q6, N6, B6⟩
        case measure => simp [intOf] <;> omega
    · have hkn : k = n := by omega
      have e : rs.take k = rs := List.take_of_length_le (by have := HN.out; omega)
      rw [e] at HQ
      subst hkn
      go_wp2
      go_ret
      exact ⟨A2, c2, qs, rfl, HQ, HO, HB⟩
set_option maxRecDepth 100000 in
set_option maxHeartbeats 4000000 in
theorem to_any (w : World) (A : Option Addr) (n c : Nat) (rs : List Rc) (hl : Hid (LnV w w.heap.size A c rs)) (hn : rs.length = n) (hm : n ≤ 1000) (ht : Hid (∀ r ∈ rs, r.bs.length ≤ 140737488351232)) :
    Calls Try.prog 9 #[.slice A n c] w fun e w' => ∃ A2 c2 qs, e = .returned (.slice A2 n c2) ∧ Hid (lnR qs = lnR rs) ∧ Hid (LnN w' w.heap.size 30 A2 n c2 qs) ∧ Hid (Below w.heap.size w w') := by
  have HN := hid hn
  go_enter Try.func9, Try.ntmps9
  go_wp2
  go_loopw [3, 8] (fun o i wr => ∃ (k : Nat) (A2 : Option Addr) (c2 : Nat) (qs : List Rc), k ≤ n ∧ i = .int .i64 k ∧ o = .slice A2 k c2 ∧ Hid (lnR qs = lnR (rs.take k)) ∧ Hid (LnN wr w.heap.size 30 A2 k c2 qs) ∧ Hid (Below w.heap.size w wr)) (fun _ i _ => n - (intOf i).toNat)
  case atStart => exact ⟨0, none, 0, [], Nat.zero_le _, rfl, rfl, hid rfl, hid (LnN.nil _ _ _), hid (Below.refl _ _)⟩
  case round =>
    obtain ⟨k, A2, c2, qs, hk, rfl, rfl, HQ, HO, HB⟩ := hrel
    by_cases hlt : k < n
    · have HLw := ln_up hl HB.out
      obtain ⟨b, o, r, hA, hr, d0, d1, hS⟩ := HLw.out.at (k := k) (by rw [hn]; exact hlt)
      subst hA
      have HT := hid (rcV_take hr)
      have hne : some wr.heap.size ≠ (Value.slice A2 k c2).ownBlock := fun e => by have := (HO.out.row.lt _ e.symm).2; omega
      have htl : r.bs.length ≤ 140737488355328 := Nat.le_trans (ht.out r (List.mem_of_getElem? hr)) (by decide)
      have S0 := hid hS
      clear hS hr
      go_wp2
      have G1 : Hid (Box (wr.alloc (.cells #[.slice r.A r.bs.length r.c, .bool r.e] 25)) wr.heap.size 25 #[.slice r.A r.bs.length r.c, .bool r.e]) := hid (Box.new wr 25 _)
      have k1 : Hid (Below wr.heap.size wr (wr.alloc (.cells #[.slice r.A r.bs.length r.c, .bool r.e] 25))) := hid ((Below.refl _ wr).alloc (Nat.le_refl _) _)
      generalize wr.alloc (.cells #[.slice r.A r.bs.length r.c, .bool r.e] 25) = u1 at G1 k1 ⊢
      have O1 := hid (HO.out.up k1.out)
      have S1 := slb_at S0 k1
      have B1 := bel_t HB k1.out
      have hz1 := B1.out.size
      have bz : ∀ W, Below u1.heap.size u1 W → W.cell? ⟨wr.heap.size, 0, none⟩ = some (.slice r.A r.bs.length r.c) ∧ W.cell? ⟨wr.heap.size, 1, none⟩ = some (.bool r.e) := fun W h => ⟨(box_below G1.out h).cell 0, (box_below G1.out h).cell 1⟩
      go_region_held3 (fun u => u.cell? ⟨wr.heap.size, 0, none⟩ = some (.slice r.A r.bs.length r.c) ∧ u.cell? ⟨wr.heap.size, 1, none⟩ = some (.bool r.e)) (first | exact S6 | exact bz _ (by repeat (first | exact Below.refl _ _ | exact b5 | with_reducible apply bel_dr | with_reducible apply bel_al))) ((first
        | (refine step_copy u1 u1 (by rfl) (.tmp 13) (.tmp 15) rfl _ rfl ?c1 ?c2 ?c3 ?c4 r.A r.bs.length r.c r.bs rfl S1 (hid rfl) htl ?_
           case c1 => first | exact box_nw rfl | exact box_dr (box_nw rfl)
           case c2 => exact Nat.le_refl _
           case c3 => repeat (first | exact Below.refl _ _ | with_reducible apply bel_dr | with_reducible apply bel_al)
           case c4 => repeat (first | exact Below.refl _ _ | with_reducible apply bel_dr | with_reducible apply bel_al)
           intro A5 c5 u5 b5 o5)
        | (refine step_rec 28 30 Try.underlying28 Try.info30 (by rfl) (.tmp 12) (.tmp 20) rfl w.heap.size k 1 c2 A2 qs [⟨A5, c5, r.bs, r.e⟩] rfl (hid (own_keep O1.out.row ?d1)) ?d2 _ 1 rfl (hid (lies_rec u5 30 ⟨A5, c5, r.bs, r.e⟩ #[.slice A5 r.bs.length c5, .bool r.e] _ (by first | rfl | simp) rfl)) rfl (by omega) ?_
           case d1 => repeat (first | exact Below.refl _ _ | exact b5 | with_reducible apply bel_dr | with_reducible apply bel_al)
           case d2 => exact Nat.le_trans hz1 (Below.size (by repeat (first | exact Below.refl _ _ | exact b5 | with_reducible apply bel_dr | with_reducible apply bel_al)))
           intro A6 c6 u6 o6 k6 g6
           have b6 : Below u1.heap.size u1 (u5.alloc (.cells #[.slice A5 r.bs.length c5, .bool r.e] 30)) := by repeat (first | exact Below.refl _ _ | exact b5 | with_reducible apply bel_dr | with_reducible apply bel_al)
           have S6 : u6.cell? ⟨wr.heap.size, 0, none⟩ = some (.slice r.A r.bs.length r.c) ∧ u6.cell? ⟨wr.heap.size, 1, none⟩ = some (.bool r.e) := ⟨g6.out.cell (bz _ b6).1 hne, g6.out.cell (bz _ b6).2 hne⟩)))
      all_goals
        have t5 := own_keep (own_mono o5.out hz1) ((Below.refl u5.heap.size u5).alloc (Nat.le_refl _) (.cells #[.slice A5 r.bs.length c5, .bool r.e] 30))
        have N6 := hid (ln_snoc (q := ⟨A5, c5, r.bs, r.e⟩) (O1.out.up b6) t5 k6.out (by decide) o6.out)
        have B6 : Hid (Below w.heap.size w u6) := hid ((bel_t B1 b6).out.trans (k6.out.below (Nat.le_trans hz1 b6.size)))
        have Q6 : Hid (lnR (qs ++ [⟨A5, c5, r.bs, r.e⟩]) = lnR (rs.take (k + 1))) := hid (by rw [HT.out, lnR_snoc, lnR_snoc, HQ.out]; rfl)
        clear bz o6 k6 b6 t5 o5 g6 S6
        go_wp2
        go_roundw
        case rel => exact ⟨k + 1, A6, c6, _, by omega, by go_num, rfl, Q6, N6, B6⟩
        case measure => simp [intOf] <;> omega
    · have hkn : k = n := by omega
      have e : rs.take k = rs := List.take_of_length_le (by have := HN.out; omega)
      rw [e] at HQ
      subst hkn
      go_wp2
      go_ret
      exact ⟨A2, c2, qs, rfl, HQ, HO, HB⟩
end Go.Proofs.Ytjncahcigbdbgab
