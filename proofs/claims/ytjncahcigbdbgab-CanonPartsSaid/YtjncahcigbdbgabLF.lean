import Derived.Test.YtjncahcigbdbgabLE
namespace Go.Proofs.Ytjncahcigbdbgab
open Go.RowKit

/-! Lines with one more: the document's. -/
def putL (ls : List (List UInt8 × Bool)) (x : List UInt8 × Bool) : List (List UInt8 × Bool) × Bool := if usedL ls + usedL [x] ≤ 1024 then (ls ++ [x], true) else (ls, false)
theorem bsz {u W : World} (h : Below u.heap.size u W) : u.heap.size ≤ W.heap.size := h.size
theorem lnR_append (a b : List Rc) : lnR (a ++ b) = lnR a ++ lnR b := by simp [lnR]
theorem ln_lit {W : World} {g E : Nat} {x : Rc} (hb : Box W g E #[.slice x.A x.bs.length x.c, .bool x.e]) (hx : SlB W W.heap.size x.A x.c x.bs) : LnV W W.heap.size (some ⟨g, 0, none⟩) 1 [x] := by
  refine ⟨Nat.le_refl _, by unfold maxLen; decide, (fun e => by cases e), fun _ => ⟨g, 0, rfl, hb.lt, fun j u hu => ?_⟩, fun r hr => by obtain rfl := List.mem_singleton.1 hr; exact hx⟩
  rw [Nat.zero_add, hb.cell j]
  rw [rcV_one] at hu
  simpa [Rc.v] using hu
theorem ln_join {W w' : World} {base E n m c c' c2 : Nat} {A A' A2 : Option Addr} {qs ys : List Rc} {B2 : Nat} (h : LnN W base E A n c qs) (h2 : LnN W B2 E A2 m c2 ys) (hB : base ≤ B2) (hk : Kept base [E] W w') (hE : (5 : Nat) ∉ [E]) (ho : w'.ownsRow base E 2 (.slice A' (n + m) c') (n + m) (rcV (qs ++ ys))) : LnN w' base E A' (n + m) c' (qs ++ ys) := by
  refine ⟨by rw [List.length_append, h.len, h2.len], ho, fun r hr => ?_⟩
  rcases List.mem_append.1 hr with h1 | h1
  · exact hk.own (h.text r h1) hE
  · exact hk.own (own_mono (h2.text r h1) hB) hE
theorem ln_each {qs : List Rc} {L : List (List UInt8 × Bool)} {K : Nat} (h : lnR qs = L) (hL : ∀ y ∈ L, y.1.length ≤ K) : ∀ r ∈ qs, r.bs.length ≤ K := fun r hr => hL r.ln (by rw [← h]; exact List.mem_map_of_mem hr)
theorem LnN.mono {w : World} {base b' E n c : Nat} {A : Option Addr} {rs : List Rc} (h : LnN w base E A n c rs) (hb : b' ≤ base) : LnN w b' E A n c rs := ⟨h.len, own_mono h.row hb, fun r hr => own_mono (h.text r hr) hb⟩
theorem copyr_grow (u W : World) (hW : Below u.heap.size u W) (A : Option Addr) (n c : Nat) (rs : List Rc) (hl : Hid (LnV W W.heap.size A c rs)) (hn : rs.length = n) (hm : n ≤ 1000) (ht : Hid (∀ r ∈ rs, r.bs.length ≤ 140737488351232)) :
    Calls Try.prog 24 #[.slice A n c] W fun e w' => ∃ A2 c2 qs, e = .returned (.slice A2 n c2) ∧ Hid (lnR qs = lnR rs) ∧ Hid (LnN w' W.heap.size 37 A2 n c2 qs) ∧ Below u.heap.size u w' ∧ Below W.heap.size W w' := by
  refine (copyr_any W A n c rs hl hn hm ht).mono ?_
  rintro e w' ⟨A2, c2, qs, rfl, h1, h2, h3⟩
  exact ⟨A2, c2, qs, rfl, h1, h2, hW.trans (h3.out.mono hW.size), h3.out⟩
/-- Lines that a call has answered, and whether. -/
def RetL (w : World) (E : Nat) (p : List (List UInt8 × Bool) × Bool) (e : Ending) (w' : World) : Prop := ∃ A n c qs, e = .returned (.tuple #[.slice A n c, .bool p.2]) ∧ Hid (lnR qs = p.1) ∧ Hid (LnN w' w.heap.size E A n c qs) ∧ Hid (Below w.heap.size w w')
theorem bx37 {ops : Array Oper} {rest : List Oper} {o : Oper} {a : Act} {w : World} {Q : Exit → Act → World → Prop} (hw : Region.wanted o (yielded ops a.tmps) = true) (x : Operand) (ho : o.op = .box 37 x) (c0 c1 : Value) (hx : a.eval x = .agg #[c0, c1])
    (h : Hid (Box (w.alloc (.cells #[c0, c1] 37)) w.heap.size 37 #[c0, c1]) → wpList Try.prog ops Q rest (a.put o.dst (.pointer (some ⟨w.heap.size, 0, none⟩))) (w.alloc (.cells #[c0, c1] 37))) : wpList Try.prog ops Q (o :: rest) a w :=
  BigFrame.wpList_want hw fun _ hK => by
    have hr : (Instr.box 37 (.agg #[c0, c1])).run Try.prog w = .ok (.pointer (some ⟨w.heap.size, 0, none⟩)) (w.alloc (.cells #[c0, c1] 37)) := by
      simp [Instr.box, newVar, newRow, Value.cells]
    unfold Oper.wp execOp
    simp only [ho, hx, Sem.run_bind, hr, Result.andThen_ok]
    exact hK _ _ (h (hid (Box.new w 37 _)))
set_option maxRecDepth 100000 in
set_option maxHeartbeats 4000000 in
theorem putr_any (w : World) (A : Option Addr) (n c : Nat) (rs : List Rc) (x : Rc) (hl : Hid (LnV w w.heap.size A c rs)) (hx : Hid (SlB w w.heap.size x.A x.c x.bs)) (hn : rs.length = n) (hm : n ≤ 900) (ht : Hid (∀ r ∈ rs, r.bs.length ≤ 140737488351232)) (hxt : Hid (x.bs.length ≤ 140737488351232)) :
    Calls Try.prog 11 #[.slice A n c, .agg #[.slice x.A x.bs.length x.c, .bool x.e]] w (RetL w 37 (putL (lnR rs) x.ln)) := by
  have K0 : Hid (Below w.heap.size w (w.alloc (.cells #[.slice x.A x.bs.length x.c, .bool x.e] 37))) := hid ((Below.refl _ w).alloc (Nat.le_refl _) _)
  have hmm : n ≤ 1000 := by omega
  have h11 : 1 ≤ 1000 := by omega
  have hone : Hid (∀ r ∈ [x], r.bs.length ≤ 140737488351232) := hid (fun r hr => by rw [List.mem_singleton.1 hr]; exact hxt.out)
  go_enter Try.func11, Try.ntmps11
  go_wp2_with (first
    | (refine bx37 (by rfl) _ (by rfl) _ _ (by rfl) ?_
       intro G0)
    | (go_at_call 24
       (with_reducible refine (copyr_any _ A n c rs (ln_up hl K0.out) hn hmm ht).mono ?_)
       rintro e u1 ⟨A1, c1, q1, rfl, hq1, N1, k1⟩
       have K1 := bel_t K0 k1.out
       have G1 := hid (box_below G0.out k1.out)
       have hl1 := ln_up hl K1.out
       have hx1 := slb_at hx K1
       have hz1 := K1.out.size
       have hgl := G1.out.lt
       have N1w := hid (N1.out.mono K0.out.size)
       clear k1 G0 K0 N1))
  have hne0 : ∀ (W : World) (B0 n2 c2 : Nat) (A2 : Option Addr) (xs : List Value), u1.heap.size ≤ B0 → W.ownsRow B0 37 2 (.slice A2 n2 c2) n2 xs → some w.heap.size ≠ (Value.slice A2 n2 c2).ownBlock := fun W B0 n2 c2 A2 xs hB ho e => by have := (ho.lt _ e.symm).1; omega
  have bz : ∀ W, Below u1.heap.size u1 W → W.cell? ⟨w.heap.size, 0, none⟩ = some (.slice x.A x.bs.length x.c) ∧ W.cell? ⟨w.heap.size, 1, none⟩ = some (.bool x.e) := fun W h => ⟨(box_below G1.out h).cell 0, (box_below G1.out h).cell 1⟩
  go_region_held3 (fun u => u.cell? ⟨w.heap.size, 0, none⟩ = some (.slice x.A x.bs.length x.c) ∧ u.cell? ⟨w.heap.size, 1, none⟩ = some (.bool x.e)) (first | exact S6 | exact bz _ (by repeat (first | exact Below.refl _ _ | exact b3 | exact b2 | with_reducible apply bel_dr | with_reducible apply bel_al))) ((first
    | (go_at_call 24
       (first
         | ((with_reducible refine (copyr_grow u1 _ ?c1 _ 1 1 [x] (hid (ln_lit (E := 37) ?c2 (slb_up hx1 ?c3).out)) rfl h11 hone).mono ?_)
            case c1 => repeat (first | exact Below.refl _ _ | exact b2 | with_reducible apply bel_dr | with_reducible apply bel_al)
            case c2 => first | exact box_nw rfl | exact box_dr (box_nw rfl) | exact z2 | exact box_dr z2
            case c3 => repeat (first | exact Below.refl _ _ | exact b2 | with_reducible apply bel_dr | with_reducible apply bel_al)
            rintro e u3 ⟨A3, c3, q3, rfl, hq3, N3, b3, d3⟩
            first | have e23 : Below u2.heap.size u2 u3 := Below.trans (by repeat (first | exact Below.refl _ _ | with_reducible apply bel_dr | with_reducible apply bel_al)) (Below.mono d3 (bsz (by repeat (first | exact Below.refl _ _ | with_reducible apply bel_dr | with_reducible apply bel_al)))) | skip)
         | ((with_reducible refine (copyr_grow u1 _ ?c4 A n c rs (ln_up hl1 ?c5) hn hmm ht).mono ?_)
            case c4 => repeat (first | exact Below.refl _ _ | exact b3 | with_reducible apply bel_dr | with_reducible apply bel_al)
            case c5 => repeat (first | exact Below.refl _ _ | exact b3 | with_reducible apply bel_dr | with_reducible apply bel_al)
            rintro e u2 ⟨A2, c2, q2, rfl, hq2, N2, b2, d2⟩
            first | have e32 : Below u3.heap.size u3 u2 := Below.trans (by repeat (first | exact Below.refl _ _ | with_reducible apply bel_dr | with_reducible apply bel_al)) (Below.mono d2 (bsz (by repeat (first | exact Below.refl _ _ | with_reducible apply bel_dr | with_reducible apply bel_al)))) | skip
            first | have z2 := box_below (box_nw (cs := #[.slice x.A x.bs.length x.c, .bool x.e]) (t := 37) rfl) d2 | have z2 := box_below (box_dr (box_nw (cs := #[.slice x.A x.bs.length x.c, .bool x.e]) (t := 37) rfl)) d2 | skip)))
    | (refine step_rec 33 37 Try.underlying33 Try.info37 (by rfl) (.tmp 11) (.tmp 14) rfl u1.heap.size n 1 c2 A2 q2 q3 rfl (hid (own_mono (own_keep N2.out.row ?d1) ?d2)) ?d3 A3 c3 rfl (hid (LnV.lies ((N3.out.up ?d4).ln))) N3.out.len (by omega) ?_
       case d1 => repeat (first | exact Below.refl _ _ | exact e23 | with_reducible apply bel_dr | with_reducible apply bel_al)
       case d2 => first | exact Nat.le_refl _ | exact b3.size | exact bsz (by repeat (first | exact Below.refl _ _ | exact b3 | with_reducible apply bel_dr | with_reducible apply bel_al))
       case d3 => exact bsz (by repeat (first | exact Below.refl _ _ | exact b3 | exact b2 | with_reducible apply bel_dr | with_reducible apply bel_al))
       case d4 => repeat (first | exact Below.refl _ _ | exact e32 | with_reducible apply bel_dr | with_reducible apply bel_al)
       intro A6 c6 u6 o6 k6 g6
       have N6 : Hid (LnN u6 u1.heap.size 37 A6 (n + 1) c6 (q2 ++ q3)) := hid (by
         refine ln_join (B2 := u1.heap.size) (A := A2) (A2 := A3) (c := c2) (c2 := c3) ?m1 ?m2 (Nat.le_refl _) k6.out (by decide) o6.out
         case m1 => exact (N2.out.up (by repeat (first | exact Below.refl _ _ | exact e23 | with_reducible apply bel_dr | with_reducible apply bel_al))).mono (bsz (by repeat (first | exact Below.refl _ _ | exact b3 | with_reducible apply bel_dr | with_reducible apply bel_al)))
         case m2 => exact (N3.out.up (by repeat (first | exact Below.refl _ _ | exact e32 | with_reducible apply bel_dr | with_reducible apply bel_al))).mono (bsz (by repeat (first | exact Below.refl _ _ | exact b2 | with_reducible apply bel_dr | with_reducible apply bel_al))))
       have b6 : Below u1.heap.size u1 u6 := Below.trans (by repeat (first | exact Below.refl _ _ | exact b3 | exact b2 | with_reducible apply bel_dr | with_reducible apply bel_al)) (k6.out.below (bsz (by repeat (first | exact Below.refl _ _ | exact b3 | exact b2 | with_reducible apply bel_dr | with_reducible apply bel_al))))
       have hz6 := hne0 u2 _ n c2 A2 _ (bsz (by repeat (first | exact Below.refl _ _ | exact b3 | with_reducible apply bel_dr | with_reducible apply bel_al))) N2.out.row
       have S6 : u6.cell? ⟨w.heap.size, 0, none⟩ = some (.slice x.A x.bs.length x.c) ∧ u6.cell? ⟨w.heap.size, 1, none⟩ = some (.bool x.e) := ⟨g6.out.cell (bz _ (by repeat (first | exact Below.refl _ _ | exact b3 | exact b2 | with_reducible apply bel_dr | with_reducible apply bel_al))).1 hz6, g6.out.cell (bz _ (by repeat (first | exact Below.refl _ _ | exact b3 | exact b2 | with_reducible apply bel_dr | with_reducible apply bel_al))).2 hz6⟩)))
  all_goals
    have hq : Hid (lnR (q2 ++ q3) = lnR rs ++ [x.ln]) := hid (by rw [lnR_append, hq2.out, hq3.out]; rfl)
    have ht6 : Hid (∀ r ∈ q2 ++ q3, r.bs.length ≤ 140737488351232) := hid (ln_each (K := 140737488351232) hq.out (by
      intro y hy
      rcases List.mem_append.1 hy with h | h
      · obtain ⟨r, hr, rfl⟩ := List.mem_map.1 h
        exact ht.out r hr
      · obtain rfl := List.mem_singleton.1 h
        exact hxt.out))
    have K6 := bel_t K1 b6
    have hl6 : (q2 ++ q3).length = n + 1 := N6.out.len
    have hl6b : n + 1 ≤ 1000 := by omega
    obtain ⟨U, hU⟩ : ∃ U, Hid (usedL (lnR rs ++ [x.ln]) = U) := ⟨_, hid rfl⟩
    have hU2 : Hid (usedL (lnR rs) + usedL [x.ln] = U) := hid (by rw [← usedL_append, hU.out])
    have N1z := hid (N1w.out.up b6)
    clear bz hne0
    by_cases hc : U ≤ 1024
    · have hp : Hid (putL (lnR rs) x.ln = (lnR rs ++ [x.ln], true)) := hid (by unfold putL; rw [hU2.out, if_pos hc])
      have e1 : ¬ (1024 : Int) < (U : Int) := by omega
      go_wp2_with (first
        | (go_at_call 19
           (with_reducible refine (usedr_any _ A6 (n + 1) c6 (q2 ++ q3) (hid N6.out.ln) hl6 hl6b ht6).mono ?_)
           rw [hq.out, hU.out]
           rintro e u7 ⟨rfl, k7⟩
           have K7 := bel_t K6 k7.out
           have N7 := hid ((N6.out.up k7.out).mono hz1)))
      go_ret2
      rw [hp.out]
      exact ⟨A6, n + 1, c6, q2 ++ q3, rfl, hq, N7, K7⟩
    · have hp : Hid (putL (lnR rs) x.ln = (lnR rs, false)) := hid (by unfold putL; rw [hU2.out, if_neg hc])
      have e1 : (1024 : Int) < (U : Int) := by omega
      go_wp2_with (first
        | (go_at_call 19
           (with_reducible refine (usedr_any _ A6 (n + 1) c6 (q2 ++ q3) (hid N6.out.ln) hl6 hl6b ht6).mono ?_)
           rw [hq.out, hU.out]
           rintro e u7 ⟨rfl, k7⟩
           have K7 := bel_t K6 k7.out
           have N7 := hid (N1z.out.up k7.out)))
      go_ret2
      rw [hp.out]
      exact ⟨A1, n, c1, q1, rfl, hq1, N7, K7⟩
end Go.Proofs.Ytjncahcigbdbgab
