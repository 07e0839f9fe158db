import Derived.Test.YthaecflakefklaaFLH
import Derived.Test.YthaecflakefklaaFLF
namespace Go.Proofs.Ythaecflakefklaa
open Go.ChangeShapes Go.WideShapes Go.ChangeAt Go.RowKit Go.Deep

/-! Layer 15: what came in. -/
section
variable {H : Type} {enc : TypeId × Value → H} {w : World} {base : Nat} {spare : Nat → Bool} {held : Bool}
theorem pair_fst {l : List Value} {o : Nat} {a b : Value} (h : (l.drop o).take 2 = [a, b]) : l[o]? = some a := by
  have := congrArg (fun l => l[0]?) h
  simpa using this
theorem pair_snd {l : List Value} {o : Nat} {a b : Value} (h : (l.drop o).take 2 = [a, b]) : l[o + 1]? = some b := by
  have := congrArg (fun l => l[1]?) h
  simpa using this
/-- A struct of two flags, as it came in. -/
theorem pair_cells {fuel : Nat} {cs : List Value} {x : DataW H × List MemPlace} (h : DataW.trod enc Try.prog w base spare held fuel 28 cs = some x) : ∃ a b : Bool, cs = [.bool a, .bool b] := by
  obtain ⟨y0, y1, n, _, hl, g0, g1⟩ := trod_struct2 Try.underlying28 h
  rw [show Try.prog.cellsOf 28 = 2 by kernel_rfl] at hl
  match cs, hl with
  | [c0, c1], _ =>
    have g0 : DataW.trod enc Try.prog w base spare held n 4 (([c0, c1].drop 0).take (Try.prog.cellsOf 4)) = some y0 := g0
    have g1 : DataW.trod enc Try.prog w base spare held n 4 (([c0, c1].drop 1).take (Try.prog.cellsOf 4)) = some y1 := g1
    rw [cells4] at g0 g1
    have g0 : DataW.trod enc Try.prog w base spare held n 4 [c0] = some y0 := g0
    have g1 : DataW.trod enc Try.prog w base spare held n 4 [c1] = some y1 := g1
    obtain ⟨a, e0, _⟩ := DataW.trod_bool Try.underlying4 g0
    obtain ⟨b, e1, _⟩ := DataW.trod_bool Try.underlying4 g1
    simp only [List.cons.injEq, and_true] at e0 e1
    subst e0; subst e1
    exact ⟨a, b, rfl⟩
theorem pair_open {v : Value} {d : DataW H} {p : List MemPlace} (h : DataW.Trod enc Try.prog w base spare held 28 v d p) (hv : ∃ cs : Array Value, v = .agg cs ∧ cs.size = Try.prog.cellsOf 28) : ∃ a b : Bool, v = .agg #[.bool a, .bool b] := by
  obtain ⟨fuel, hf⟩ := h
  obtain ⟨cs0, rfl, hsz⟩ := hv
  obtain ⟨a, b, e⟩ := pair_cells hf
  have e : cs0.toList = [.bool a, .bool b] := e
  refine ⟨a, b, ?_⟩
  congr 1
  rw [← Array.toList_inj]
  exact e
theorem ints_open {fuel : Nat} {cs : List Value} {x : DataW H × List MemPlace} (h : DataW.trod enc Try.prog w base spare held fuel 53 cs = some x) :
    ∃ A c l, cs = [.slice A l.length c] ∧ SlI w w.heap.size A c l := by
  rcases open_ints Try.underlying53 Try.underlying3 cells3 h with ⟨rfl, _⟩ | ⟨a, len, cap, zs, rfl, _, hl, hm, hz, _, hcell, _⟩
  · exact ⟨none, 0, [], rfl, Nat.le_refl _, Nat.zero_le _, fun _ => rfl, Lies.nil_⟩
  · have hzl : len ≤ zs.length := by rw [hz]; split <;> omega
    refine ⟨some a, cap, zs.take len, ?_, ?_, hm, by simp, ?_⟩
    · simp [Nat.min_eq_left hzl]
    · simp [Nat.min_eq_left hzl]; exact hl
    · intro hne
      have h0 : 0 < zs.length := by
        rcases Nat.eq_zero_or_pos zs.length with h | h
        · exfalso; apply hne; simp [List.eq_nil_of_length_eq_zero h]
        · exact h
      have hb : a.block < w.heap.size := by
        have := World.block_lt_of_cell? w _ (hcell 0 h0)
        simpa [Addr.add] using this
      refine Lies.of_add hb (fun j u hu => ?_) hne
      have hj : j < len ∧ j < zs.length := by
        have := (List.getElem?_eq_some_iff.1 hu).1
        simp at this; omega
      rw [hcell j hj.2]
      simp only [List.getElem?_map, List.getElem?_take, hj.1, if_true, List.getElem?_eq_getElem hj.2, Option.map_some] at hu
      rw [← hu]
      simp [List.getD, List.getElem?_eq_getElem hj.2]
set_option maxRecDepth 100000 in
theorem asked_open {v : Value} {d : DataW H} {p : List MemPlace} (h : DataW.Trod enc Try.prog w base spare held 30 v d p) (hv : ∃ cs : Array Value, v = .agg cs ∧ cs.size = Try.prog.cellsOf 30) :
    ∃ (t : Tm) (x0 y0 : Bool) (x1 : UInt8) (x2 : Int) (x3 : Int) (x4 : Int) (x5 : Int), v = .agg (tmV t [.bool x0, .bool y0, .int .u8 ((x1 : UInt8).toNat : Int), .int .i64 x2, .int .i64 x3, .int .i64 x4, .int .i64 x5]) ∧ t.Ok ∧ i64ok x2 ∧ i64ok x3 ∧ i64ok x4 ∧ i64ok x5 := by
  obtain ⟨fuel, hf⟩ := h
  obtain ⟨cs0, rfl, hsz⟩ := hv
  obtain ⟨xs, n, _, _, hlen, hxl, hff⟩ := DataW.trod_struct Try.underlying30 hf
  have hcs : (Value.agg cs0).cells.toList = cs0.toList := rfl
  rw [hcs] at hff hlen
  rw [show Try.prog.cellsOf 30 = 31 by kernel_rfl] at hlen
  have hx : ∀ i, i < 7 → ∃ y, xs[i]? = some y := fun i hi => ⟨xs[i]'(by simpa [hxl] using hi), List.getElem?_eq_getElem _⟩
  obtain ⟨z0, e0⟩ := hx 0 (by omega)
  obtain ⟨z1, e1⟩ := hx 1 (by omega)
  obtain ⟨z2, e2⟩ := hx 2 (by omega)
  obtain ⟨z3, e3⟩ := hx 3 (by omega)
  obtain ⟨z4, e4⟩ := hx 4 (by omega)
  obtain ⟨z5, e5⟩ := hx 5 (by omega)
  obtain ⟨z6, e6⟩ := hx 6 (by omega)
  have h0 : DataW.trod enc Try.prog w base spare held n 26 ((cs0.toList.drop 0).take (Try.prog.cellsOf 26)) = xs[0]? := hff 0 _ rfl
  have h1 : DataW.trod enc Try.prog w base spare held n 28 ((cs0.toList.drop 24).take (Try.prog.cellsOf 28)) = xs[1]? := hff 1 _ rfl
  have h2 : DataW.trod enc Try.prog w base spare held n 5 ((cs0.toList.drop 26).take (Try.prog.cellsOf 5)) = xs[2]? := hff 2 _ rfl
  have h3 : DataW.trod enc Try.prog w base spare held n 3 ((cs0.toList.drop 27).take (Try.prog.cellsOf 3)) = xs[3]? := hff 3 _ rfl
  have h4 : DataW.trod enc Try.prog w base spare held n 3 ((cs0.toList.drop 28).take (Try.prog.cellsOf 3)) = xs[4]? := hff 4 _ rfl
  have h5 : DataW.trod enc Try.prog w base spare held n 3 ((cs0.toList.drop 29).take (Try.prog.cellsOf 3)) = xs[5]? := hff 5 _ rfl
  have h6 : DataW.trod enc Try.prog w base spare held n 3 ((cs0.toList.drop 30).take (Try.prog.cellsOf 3)) = xs[6]? := hff 6 _ rfl
  rw [cells26, e0] at h0
  rw [show Try.prog.cellsOf 28 = 2 by kernel_rfl, e1] at h1
  rw [show Try.prog.cellsOf 5 = 1 by kernel_rfl, e2] at h2
  rw [show Try.prog.cellsOf 3 = 1 by kernel_rfl, e3] at h3
  rw [show Try.prog.cellsOf 3 = 1 by kernel_rfl, e4] at h4
  rw [show Try.prog.cellsOf 3 = 1 by kernel_rfl, e5] at h5
  rw [show Try.prog.cellsOf 3 = 1 by kernel_rfl, e6] at h6
  obtain ⟨t, t1, ht⟩ := tm_cells h0
  obtain ⟨x0, y0, o0⟩ := pair_cells h1
  obtain ⟨x1, o1, _, w1⟩ := DataW.trod_int Try.underlying5 h2
  have r1 := bounds_u8 w1
  have k1 : (UInt8.ofNat x1.toNat).toNat = x1.toNat % 256 := UInt8.toNat_ofNat'
  have q1 : (((UInt8.ofNat x1.toNat).toNat : Nat) : Int) = x1 := by omega
  obtain ⟨x2, o2, _, w2⟩ := DataW.trod_int Try.underlying3 h3
  obtain ⟨x3, o3, _, w3⟩ := DataW.trod_int Try.underlying3 h4
  obtain ⟨x4, o4, _, w4⟩ := DataW.trod_int Try.underlying3 h5
  obtain ⟨x5, o5, _, w5⟩ := DataW.trod_int Try.underlying3 h6
  refine ⟨t, x0, y0, UInt8.ofNat x1.toNat, x2, x3, x4, x5, ?_, ht, i64_of w2, i64_of w3, i64_of w4, i64_of w5⟩
  rw [q1]
  congr 1
  rw [← Array.toList_inj]
  refine cells_app (cl_len ht.len) hlen t1 (fun j hj => ?_)
  match j, hj with
  | 0, _ => exact pair_fst o0
  | 1, _ => exact pair_snd o0
  | 2, _ => exact one_at o1
  | 3, _ => exact one_at o2
  | 4, _ => exact one_at o3
  | 5, _ => exact one_at o4
  | 6, _ => exact one_at o5
set_option maxRecDepth 100000 in
theorem turns_open {v : Value} {d : DataW H} {p : List MemPlace} (h : DataW.Trod enc Try.prog w base spare held 55 v d p) (hv : ∃ cs : Array Value, v = .agg cs ∧ cs.size = Try.prog.cellsOf 55) :
    ∃ (t : Tm) (A0 : Option Addr) (c0 : Nat) (bs0 : List Int) (x1 : Int) (x2 : Int), v = .agg (tmV t [.slice A0 bs0.length c0, .int .i64 x1, .int .i64 x2]) ∧ t.Ok ∧ SlI w w.heap.size A0 c0 bs0 ∧ i64ok x1 ∧ i64ok x2 := by
  obtain ⟨fuel, hf⟩ := h
  obtain ⟨cs0, rfl, hsz⟩ := hv
  obtain ⟨xs, n, _, _, hlen, hxl, hff⟩ := DataW.trod_struct Try.underlying55 hf
  have hcs : (Value.agg cs0).cells.toList = cs0.toList := rfl
  rw [hcs] at hff hlen
  rw [show Try.prog.cellsOf 55 = 27 by kernel_rfl] at hlen
  have hx : ∀ i, i < 4 → ∃ y, xs[i]? = some y := fun i hi => ⟨xs[i]'(by simpa [hxl] using hi), List.getElem?_eq_getElem _⟩
  obtain ⟨z0, e0⟩ := hx 0 (by omega)
  obtain ⟨z1, e1⟩ := hx 1 (by omega)
  obtain ⟨z2, e2⟩ := hx 2 (by omega)
  obtain ⟨z3, e3⟩ := hx 3 (by omega)
  have h0 : DataW.trod enc Try.prog w base spare held n 26 ((cs0.toList.drop 0).take (Try.prog.cellsOf 26)) = xs[0]? := hff 0 _ rfl
  have h1 : DataW.trod enc Try.prog w base spare held n 53 ((cs0.toList.drop 24).take (Try.prog.cellsOf 53)) = xs[1]? := hff 1 _ rfl
  have h2 : DataW.trod enc Try.prog w base spare held n 3 ((cs0.toList.drop 25).take (Try.prog.cellsOf 3)) = xs[2]? := hff 2 _ rfl
  have h3 : DataW.trod enc Try.prog w base spare held n 3 ((cs0.toList.drop 26).take (Try.prog.cellsOf 3)) = xs[3]? := hff 3 _ rfl
  rw [cells26, e0] at h0
  rw [show Try.prog.cellsOf 53 = 1 by kernel_rfl, e1] at h1
  rw [show Try.prog.cellsOf 3 = 1 by kernel_rfl, e2] at h2
  rw [show Try.prog.cellsOf 3 = 1 by kernel_rfl, e3] at h3
  obtain ⟨t, t1, ht⟩ := tm_cells h0
  obtain ⟨A0, c0, bs0, o0, hb0⟩ := ints_open h1
  obtain ⟨x1, o1, _, w1⟩ := DataW.trod_int Try.underlying3 h2
  obtain ⟨x2, o2, _, w2⟩ := DataW.trod_int Try.underlying3 h3
  refine ⟨t, A0, c0, bs0, x1, x2, ?_, ht, hb0, i64_of w1, i64_of w2⟩
  congr 1
  rw [← Array.toList_inj]
  refine cells_app (cl_len ht.len) hlen t1 (fun j hj => ?_)
  match j, hj with
  | 0, _ => exact one_at o0
  | 1, _ => exact one_at o1
  | 2, _ => exact one_at o2
end
end Go.Proofs.Ythaecflakefklaa
