import Derived.Test.YtjncahcigbdbgabLM
namespace Go.Proofs.Ytjncahcigbdbgab
open Go.RowKit

/-! Layer 13: CanonRoom, what a record's box reads, and a record ahead of lines. -/
theorem bx25 {ops : Array Oper} {rest : List Oper} {o : Oper} {a : Act} {w : World} {Q : Exit → Act → World → Prop} (hw : Region.wanted o (yielded ops a.tmps) = true) (x : Operand) (ho : o.op = .box 25 x) (c0 c1 : Value) (hx : a.eval x = .agg #[c0, c1])
    (h : Hid (Box (w.alloc (.cells #[c0, c1] 25)) w.heap.size 25 #[c0, c1]) → wpList Try.prog ops Q rest (a.put o.dst (.pointer (some ⟨w.heap.size, 0, none⟩))) (w.alloc (.cells #[c0, c1] 25))) : wpList Try.prog ops Q (o :: rest) a w :=
  BigFrame.wpList_want hw fun _ hK => by
    have hr : (Instr.box 25 (.agg #[c0, c1])).run Try.prog w = .ok (.pointer (some ⟨w.heap.size, 0, none⟩)) (w.alloc (.cells #[c0, c1] 25)) := by
      simp [Instr.box, newVar, newRow, Value.cells]
    unfold Oper.wp execOp
    simp only [ho, hx, Sem.run_bind, hr, Result.andThen_ok]
    exact hK _ _ (h (hid (Box.new w 25 _)))
theorem ld25 {ops : Array Oper} {rest : List Oper} {o : Oper} {a : Act} {w : World} {Q : Exit → Act → World → Prop} (hw : Region.wanted o (yielded ops a.tmps) = true) (x : Operand) (ho : o.op = .load 25 x) (g : Nat) (hx : a.eval x = .pointer (some ⟨g, 0, none⟩)) (c0 c1 : Value) (hb : Hid (Box w g 25 #[c0, c1]))
    (h : wpList Try.prog ops Q rest (a.put o.dst (.agg #[c0, c1])) w) : wpList Try.prog ops Q (o :: rest) a w :=
  BigFrame.wpList_want hw fun _ hK => by
    obtain ⟨i0, hi0, hz0, hz1, hz2⟩ := info_parts Try.info25
    exact wp_load_row 25 x ho g hx 25 #[c0, c1] (0, 0) _ hb.out Try.underlying25 rfl (by rw [hi0]; simp [hz1]) (hK _ _ h)
theorem own_rec (w : World) (E : TypeId) (x : Rc) (cs : Array Value) (g : Nat) (hg : g = w.heap.size) (hc : x.v.toArray = cs) : (w.alloc (.cells cs E)).ownsRow w.heap.size E 2 (.slice (some ⟨g, 0, none⟩) 1 1) 1 (rcV [x]) := by
  subst hc hg
  have hb := Box.new w E x.v.toArray
  unfold Box at hb
  refine ⟨by rw [rcV_len]; rfl, Or.inr ⟨w.heap.size, 1, x.v.toArray, rfl, Nat.le_refl _, hb, Nat.le_refl _, by unfold maxLen; omega, rfl, ?_⟩⟩
  rw [rcV_one]
  rfl
theorem usedL_le {K : Nat} (ls : List (List UInt8 × Bool)) (h : ∀ y ∈ ls, y.1.length ≤ K) : usedL ls ≤ ls.length * (K + 1) := by
  induction ls with
  | nil => simp [usedL]
  | cons y r ih =>
    have h1 := ih fun z hz => h z (List.mem_cons_of_mem _ hz)
    have h2 := h y (List.mem_cons_self ..)
    have e : usedL (y :: r) = (y.1.length + (if y.2 = true then 1 else 0)) + usedL r := by simp [usedL]
    rw [e, List.length_cons, Nat.add_mul]
    split <;> omega
/-- The only record of a row of one. -/
theorem one_ln {w : World} {base c : Nat} {A : Option Addr} {qs : List Rc} {xb : List UInt8} {xe : Bool} (h : Hid (LnN w base 30 A 1 c qs)) (he : Hid (lnR qs = [(xb, xe)])) :
    ∃ g Ay cy, A = some ⟨g, 0, none⟩ ∧ Hid (qs = [⟨Ay, cy, xb, xe⟩]) ∧ w.cell? ⟨g, 0, none⟩ = some (.slice Ay xb.length cy) ∧ w.cell? ⟨g, 1, none⟩ = some (.bool xe) ∧ Hid (SlB w w.heap.size Ay cy xb) := by
  obtain ⟨y, rfl⟩ : ∃ y, qs = [y] := List.length_eq_one_iff.1 h.out.len
  obtain ⟨Ay, cy, yb, ye⟩ := y
  have h1 : yb = xb ∧ ye = xe := by
    have := he.out
    simp [lnR, Rc.ln] at this
    exact this
  obtain ⟨rfl, rfl⟩ := h1
  have hl := h.out.ln
  obtain ⟨g, cs, rfl, _, _⟩ := own_addr h.out.row (by decide)
  obtain ⟨b, o, r, h1, h2, h3, h4, h5⟩ := hl.at (k := 0) (by simp)
  cases h1
  cases h2
  exact ⟨g, Ay, cy, rfl, hid rfl, by simpa using h3, by simpa using h4, hid h5⟩
theorem to_grow (u W : World) (hW : Below u.heap.size u W) (A : Option Addr) (n c : Nat) (rs : List Rc) (hl : Hid (LnV W W.heap.size A c rs)) (hn : rs.length = n) (hm : n ≤ 1000) (ht : Hid (∀ r ∈ rs, r.bs.length ≤ 140737488351232)) :
    Calls Try.prog 9 #[.slice A n c] W fun e w' => ∃ A2 c2 qs, e = .returned (.slice A2 n c2) ∧ Hid (lnR qs = lnR rs) ∧ Hid (LnN w' W.heap.size 30 A2 n c2 qs) ∧ Below u.heap.size u w' ∧ Below W.heap.size W w' := by
  refine (to_any W A n c rs hl hn hm ht).mono ?_
  rintro e w' ⟨A2, c2, qs, rfl, h1, h2, h3⟩
  exact ⟨A2, c2, qs, rfl, h1, h2, hW.trans (h3.out.mono hW.size), h3.out⟩
theorem put_grow (u W : World) (hW : Below u.heap.size u W) (A : Option Addr) (n c : Nat) (rs : List Rc) (xA : Option Addr) (xc : Nat) (xb : List UInt8) (xe : Bool) (hl : Hid (LnV W W.heap.size A c rs)) (hx : Hid (SlB W W.heap.size xA xc xb)) (hn : rs.length = n) (hm : n ≤ 900) (ht : Hid (∀ r ∈ rs, r.bs.length ≤ 140737488351232)) (hxt : Hid (xb.length ≤ 140737488351232))
    {L : List (List UInt8 × Bool)} {b : Bool} (hp : Hid (putL (lnR rs) (xb, xe) = (L, b))) :
    Calls Try.prog 10 #[.slice A n c, .agg #[.slice xA xb.length xc, .bool xe]] W fun e w' => ∃ A2 n2 c2 qs, e = .returned (.tuple #[.slice A2 n2 c2, .bool b]) ∧ Hid (lnR qs = L) ∧ Hid (qs.length = n2) ∧ Hid (LnV w' w'.heap.size A2 c2 qs) ∧ Below u.heap.size u w' := by
  have h := putp_any W A n c rs ⟨xA, xc, xb, xe⟩ hl hx hn hm ht hxt
  rw [show (Rc.ln ⟨xA, xc, xb, xe⟩) = (xb, xe) from rfl, hp.out] at h
  refine h.mono ?_
  rintro e w' ⟨A2, n2, c2, qs, rfl, h1, h2, h3, h4⟩
  exact ⟨A2, n2, c2, qs, rfl, h1, h2, hid h3.out.ln, hW.trans (h4.out.mono hW.size)⟩
theorem used_grow (u W : World) (hW : Below u.heap.size u W) (A : Option Addr) (n c : Nat) (rs : List Rc) (hl : Hid (LnV u u.heap.size A c rs)) (hn : rs.length = n) (hm : n ≤ 1000) (ht : Hid (∀ r ∈ rs, r.bs.length ≤ 140737488351232)) {U : Nat} (hU : Hid (usedL (lnR rs) = U)) :
    Calls Try.prog 18 #[.slice A n c] W fun e w' => e = .returned (.int .i64 (U : Int)) ∧ Below u.heap.size u w' := by
  refine (usedp_any W A n c rs (ln_up hl hW) hn hm ht).mono ?_
  rintro e w' ⟨rfl, h⟩
  exact ⟨by rw [hU.out], hW.trans (h.out.mono hW.size)⟩
theorem from_grow (u W : World) (hW : Below u.heap.size u W) (A : Option Addr) (n c : Nat) (rs : List Rc) (hl : Hid (LnV u u.heap.size A c rs)) (hn : Hid (rs.length = n)) (hm : n ≤ 1000) :
    Calls Try.prog 16 #[.slice A n c] W fun e w' => ∃ A2 c2, e = .returned (.slice A2 n c2) ∧ Hid (LnV w' w'.heap.size A2 c2 rs) ∧ Below u.heap.size u w' ∧ Below W.heap.size W w' := by
  have hl2 := ln_up hl hW
  refine (from_any W A n c rs hl2 hn.out hm).mono ?_
  rintro e w' ⟨A2, c2, rfl, h1, h2⟩
  exact ⟨A2, c2, rfl, from_ln hl2 hn h1 h2, hW.trans (h2.out.mono hW.size), h2.out⟩
theorem ref_grow (u W : World) (hW : Below u.heap.size u W) (A : Option Addr) (n c : Nat) (rs : List Rc) (hl : Hid (LnV W W.heap.size A c rs)) (hn : Hid (rs.length = n)) (hm : n ≤ 1000) :
    Calls Try.prog 12 #[.slice A n c] W fun e w' => ∃ A2 c2, e = .returned (.slice A2 n c2) ∧ Hid (LnV w' w'.heap.size A2 c2 rs) ∧ Below u.heap.size u w' ∧ Below W.heap.size W w' := by
  refine (ref_any W A n c rs hl hn.out hm).mono ?_
  rintro e w' ⟨A2, c2, rfl, h1, h2⟩
  exact ⟨A2, c2, rfl, from_ln hl hn h1 h2, hW.trans (h2.out.mono hW.size), h2.out⟩
theorem same_grow (u W : World) (hW : Below u.heap.size u W) (A A2 : Option Addr) (n n2 c c2 : Nat) (rs qs : List Rc) (hl : Hid (LnV W W.heap.size A c rs)) (hl2 : Hid (LnV W W.heap.size A2 c2 qs)) (he : Hid (lnR rs = lnR qs)) (hn : Hid (rs.length = n)) (hn2 : Hid (qs.length = n2)) :
    Calls Try.prog 15 #[.slice A n c, .slice A2 n2 c2] W fun e w' => e = .returned (.bool true) ∧ Below u.heap.size u w' := by
  refine (same_eq W A A2 n n2 c c2 rs qs hl hl2 he hn.out hn2.out).mono ?_
  rintro e w' ⟨rfl, h⟩
  exact ⟨rfl, hW.trans (h.out.mono hW.size)⟩
theorem putl_eq {q : List Rc} {L : List (List UInt8 × Bool)} {x : List UInt8 × Bool} {r : List (List UInt8 × Bool) × Bool} (h : Hid (lnR q = L)) (hp : Hid (putL L x = r)) : Hid (putL (lnR q) x = r) := by rw [h.out]; exact hp
theorem rcV_drop (rs : List Rc) : ∀ k, rcV (rs.drop k) = (rcV rs).drop (k * 2) := by
  induction rs with
  | nil => intro k; simp [rcV]
  | cons r rs ih =>
    intro k
    cases k with
    | zero => simp
    | succ k =>
      have e : rcV (r :: rs) = .slice r.A r.bs.length r.c :: .bool r.e :: rcV rs := rfl
      rw [List.drop_succ_cons, ih, e, show (k + 1) * 2 = k * 2 + 1 + 1 by omega, List.drop_succ_cons, List.drop_succ_cons]
/-- The first lines, and those behind them. -/
theorem ln_front {u : World} {A : Option Addr} {c n m : Nat} {qs : List Rc} (h : Hid (LnV u u.heap.size A c qs)) (hn : qs.length = m) (hm : n ≤ m) :
    (∀ W : World, (Instr.sliceAt 28 (.slice A m c) none (some (.int .i64 (n : Int))) none).run Try.prog W = .ok (.slice A n c) W) ∧ Hid (LnV u u.heap.size A c (qs.take n)) := by
  have hc := h.out.len
  have hnil := h.out.nil
  obtain ⟨i0, hi0, hz0, hz1, hz2⟩ := info_parts Try.info30
  have h1 : (n : Int) ≤ (c : Int) := by omega
  refine ⟨fun W => ?_, hid ⟨by rw [List.length_take]; omega, h.out.cap, h.out.nil, fun hne => ?_, fun r hr => h.out.text r (List.mem_of_mem_take hr)⟩⟩
  · rcases A with _ | ad
    · obtain rfl := hnil rfl
      obtain rfl : n = 0 := by omega
      simp [Instr.sliceAt, Instr.slice, go_sem]
    · simp [Instr.sliceAt, Instr.slice, go_sem, h1]
  · have e : rcV qs = rcV (qs.take n) ++ rcV (qs.drop n) := by rw [← rcV_append, List.take_append_drop]
    obtain ⟨b, o, hA, hb, hcl⟩ := h.out.lies (by
      intro h0
      rw [e] at h0
      exact hne (List.append_eq_nil_iff.1 h0).1)
    refine ⟨b, o, hA, hb, fun j v hj => hcl j v ?_⟩
    rw [e, List.getElem?_append_left ((List.getElem?_eq_some_iff.1 hj).1)]
    exact hj
theorem ln_back {u : World} {A : Option Addr} {c n m : Nat} {qs : List Rc} (h : Hid (LnV u u.heap.size A c qs)) (hn : qs.length = m) (hm : n ≤ m) :
    ∃ A2 c2, (∀ W : World, (Instr.sliceAt 28 (.slice A m c) (some (.int .i64 (n : Int))) none none).run Try.prog W = .ok (.slice A2 (m - n) c2) W) ∧ Hid (LnV u u.heap.size A2 c2 (qs.drop n)) := by
  have hc := h.out.len
  have hnil := h.out.nil
  obtain ⟨i0, hi0, hz0, hz1, hz2⟩ := info_parts Try.info30
  rcases A with _ | ad
  · obtain rfl := hnil rfl
    obtain rfl : m = 0 := by omega
    obtain rfl : n = 0 := by omega
    obtain rfl : qs = [] := List.eq_nil_of_length_eq_zero hn
    exact ⟨none, 0, fun W => by simp [Instr.sliceAt, Instr.slice, go_sem], h⟩
  · refine ⟨some (if c = n then ad else ad.add (n * 2)), c - n, fun W => ?_, hid ⟨by rw [List.length_drop]; omega, by have := h.out.cap; omega, (fun e => by cases e), fun hne => ?_, fun r hr => h.out.text r (List.mem_of_mem_drop hr)⟩⟩
    · by_cases hcn : c = n
      · simp [Instr.sliceAt, Instr.slice, go_sem, hm, hcn]
      · simp [Instr.sliceAt, Instr.slice, go_sem, hm, hcn]
    · have hd := rcV_drop qs n
      have hlt : n < m := by
        rcases Nat.lt_or_ge n m with h0 | h0
        · exact h0
        · exact absurd (by rw [List.drop_eq_nil_of_le (by omega)]; rfl) hne
      obtain ⟨b, o, hA, hb, hcl⟩ := h.out.lies (by
        intro h0
        rw [hd, h0] at hne
        exact hne (List.drop_nil))
      cases hA
      refine ⟨b, o + n * 2, by rw [if_neg (by omega), Addr.add_lit], hb, fun j v hj => ?_⟩
      rw [Nat.add_assoc]
      refine hcl _ v ?_
      rw [hd, List.getElem?_drop] at hj
      exact hj
end Go.Proofs.Ytjncahcigbdbgab
