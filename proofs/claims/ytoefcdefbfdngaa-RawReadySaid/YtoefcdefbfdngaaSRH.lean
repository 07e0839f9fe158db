import Derived.Test.YtoefcdefbfdngaaSRC
namespace Go.Proofs.Ytoefcdefbfdngaa
open Go.ChangeShapes Go.WideShapes Go.ChangeAt Go.RowKit Go.Deep

/-! Layer 14: a read that came in. -/
theorem cells23r : Try.prog.cellsOf 23 = 6 := by kernel_rfl
section
variable {H : Type} {enc : TypeId × Value → H} {w : World} {base : Nat} {spare : Nat → Bool} {held : Bool}
theorem rd_open {v : Value} {d : DataW H} {p : List MemPlace} (h : DataW.Trod enc Try.prog w base spare held 23 v d p) (hv : ∃ cs : Array Value, v = .agg cs ∧ cs.size = Try.prog.cellsOf 23) :
    ∃ mn tm hv wn idl wt : Int, v = .agg #[.int .i64 mn, .int .i64 tm, .int .i64 hv, .int .i64 wn, .int .i64 idl, .int .i64 wt] ∧ i64ok mn ∧ i64ok tm ∧ i64ok hv ∧ i64ok wn ∧ i64ok idl ∧ i64ok wt := by
  obtain ⟨fuel, hf0⟩ := h
  obtain ⟨cs, rfl, hsz⟩ := hv
  rw [cells23r] at hsz
  have hcs : (Value.agg cs).cells.toList = cs.toList := rfl
  rw [hcs] at hf0
  obtain ⟨xs, n, _, hx, _, hxl, hf⟩ := DataW.trod_struct Try.underlying23 hf0
  obtain ⟨cl⟩ := cs
  match cl, hsz with
  | [v0, v1, v2, v3, v4, v5], _ =>
    have g0 : DataW.trod enc Try.prog w base spare held n 3 (([v0, v1, v2, v3, v4, v5].drop 0).take (Try.prog.cellsOf 3)) = xs[0]? := hf 0 _ rfl
    rw [cells3] at g0
    have g1 : DataW.trod enc Try.prog w base spare held n 3 (([v0, v1, v2, v3, v4, v5].drop 1).take (Try.prog.cellsOf 3)) = xs[1]? := hf 1 _ rfl
    rw [cells3] at g1
    have g2 : DataW.trod enc Try.prog w base spare held n 3 (([v0, v1, v2, v3, v4, v5].drop 2).take (Try.prog.cellsOf 3)) = xs[2]? := hf 2 _ rfl
    rw [cells3] at g2
    have g3 : DataW.trod enc Try.prog w base spare held n 3 (([v0, v1, v2, v3, v4, v5].drop 3).take (Try.prog.cellsOf 3)) = xs[3]? := hf 3 _ rfl
    rw [cells3] at g3
    have g4 : DataW.trod enc Try.prog w base spare held n 3 (([v0, v1, v2, v3, v4, v5].drop 4).take (Try.prog.cellsOf 3)) = xs[4]? := hf 4 _ rfl
    rw [cells3] at g4
    have g5 : DataW.trod enc Try.prog w base spare held n 3 (([v0, v1, v2, v3, v4, v5].drop 5).take (Try.prog.cellsOf 3)) = xs[5]? := hf 5 _ rfl
    rw [cells3] at g5
    match xs, hxl with
    | [z0, z1, z2, z3, z4, z5], _ =>
      have g0 : DataW.trod enc Try.prog w base spare held n 3 [v0] = some z0 := g0
      obtain ⟨a0, e0, _, w0⟩ := DataW.trod_int Try.underlying3 g0
      have g1 : DataW.trod enc Try.prog w base spare held n 3 [v1] = some z1 := g1
      obtain ⟨a1, e1, _, w1⟩ := DataW.trod_int Try.underlying3 g1
      have g2 : DataW.trod enc Try.prog w base spare held n 3 [v2] = some z2 := g2
      obtain ⟨a2, e2, _, w2⟩ := DataW.trod_int Try.underlying3 g2
      have g3 : DataW.trod enc Try.prog w base spare held n 3 [v3] = some z3 := g3
      obtain ⟨a3, e3, _, w3⟩ := DataW.trod_int Try.underlying3 g3
      have g4 : DataW.trod enc Try.prog w base spare held n 3 [v4] = some z4 := g4
      obtain ⟨a4, e4, _, w4⟩ := DataW.trod_int Try.underlying3 g4
      have g5 : DataW.trod enc Try.prog w base spare held n 3 [v5] = some z5 := g5
      obtain ⟨a5, e5, _, w5⟩ := DataW.trod_int Try.underlying3 g5
      simp only [List.cons.injEq, and_true] at e0 e1 e2 e3 e4 e5
      subst e0; subst e1; subst e2; subst e3; subst e4; subst e5
      exact ⟨a0, a1, a2, a3, a4, a5, rfl, i64_of w0, i64_of w1, i64_of w2, i64_of w3, i64_of w4, i64_of w5⟩
theorem u16_open {v : Value} {d : DataW H} {p : List MemPlace} (h : DataW.Trod enc Try.prog w base spare held 30 v d p) (hv : ∃ z, v = .int .u16 z) : ∃ n : Nat, v = .int .u16 (n : Int) ∧ n ≤ 65535 := by
  obtain ⟨fuel, hf⟩ := h
  obtain ⟨z, rfl⟩ := hv
  obtain ⟨k0, e0, _, hw⟩ := DataW.trod_int Try.underlying30 hf
  simp only [Value.cells, List.cons.injEq, and_true] at e0
  injection e0 with _ e0
  subst e0
  have hb := bounds_u16 hw
  refine ⟨z.toNat, ?_, by omega⟩
  rw [show ((z.toNat : Nat) : Int) = z by omega]
end
end Go.Proofs.Ytoefcdefbfdngaa
