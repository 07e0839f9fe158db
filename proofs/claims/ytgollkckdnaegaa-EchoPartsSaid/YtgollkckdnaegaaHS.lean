import Derived.Test.YtgollkckdnaegaaHO
import Derived.Test.YtgollkckdnaegaaHP
namespace Go.Proofs.Ytgollkckdnaegaa
open Go.ChangeShapes Go.WideShapes Go.ChangeAt Go.RowKit Go.Deep

/-! What came in: a number; a setting with more behind it. -/
theorem u16_of {x : Int} (h : (Lit.int .u16 x).wf = true) : 0 ≤ x ∧ x ≤ 65535 := bounds_u16 h
/-- A setting's cells and more. -/
def tmV (t : Tm) (r : List Value) : Array Value := (t.cl ++ r).toArray
theorem tmV_size {t : Tm} (ht : t.Ok) (r : List Value) : (tmV t r).size = 24 + r.length := by simp [tmV, cl_len ht.len]
theorem tmV_front {t : Tm} (r : List Value) (j : Nat) (v : Value) (h : t.cl[j]? = some v) : (tmV t r)[j]? = some v := by
  have := (List.getElem?_eq_some_iff.1 h).1
  rw [tmV, List.getElem?_toArray, List.getElem?_append_left this, h]
theorem tmV_back {t : Tm} (ht : t.Ok) {r : List Value} {j : Nat} {v : Value} (h : r[j]? = some v) : (tmV t r)[24 + j]? = some v := by
  rw [tmV, List.getElem?_toArray, List.getElem?_append_right (by rw [cl_len ht.len]; omega), cl_len ht.len, Nat.add_sub_cancel_left, h]
theorem cells_app {l cl r : List Value} (hl : cl.length = 24) (hlen : l.length = 24 + r.length) (h0 : (l.drop 0).take 24 = cl) (h : ∀ j, j < r.length → l[24 + j]? = r[j]?) : l = cl ++ r := by
  apply List.ext_getElem?
  intro j
  by_cases h1 : j < 24
  · rw [List.getElem?_append_left (by omega), ← h0, List.drop_zero, List.getElem?_take, if_pos h1]
  · obtain ⟨d, rfl⟩ : ∃ d, j = 24 + d := ⟨j - 24, by omega⟩
    rw [List.getElem?_append_right (by omega), hl, Nat.add_sub_cancel_left]
    by_cases h2 : d < r.length
    · exact h d h2
    · rw [List.getElem?_eq_none (by omega), List.getElem?_eq_none (by omega)]
theorem cells38 : Try.prog.cellsOf 38 = 27 := by kernel_rfl
theorem cells42 : Try.prog.cellsOf 42 = 1 := by kernel_rfl
theorem cells44 : Try.prog.cellsOf 44 = 28 := by kernel_rfl
section
variable {H : Type} {enc : TypeId × Value → H} {w : World} {base : Nat} {spare : Nat → Bool} {held : Bool}
theorem int_open {t : TypeId} (ht : Try.prog.underlying t = some (.int .i64)) {v : Value} {d : DataW H} {p : List MemPlace} (h : DataW.Trod enc Try.prog w base spare held t v d p) (hv : ∃ z, v = .int .i64 z) : ∃ a, v = .int .i64 a ∧ i64ok a := by
  obtain ⟨fuel, hf⟩ := h
  obtain ⟨z, rfl⟩ := hv
  obtain ⟨k0, e0, _, hw⟩ := DataW.trod_int ht hf
  simp only [Value.cells, List.cons.injEq, and_true] at e0
  injection e0 with _ e0
  subst e0
  exact ⟨_, rfl, i64_of hw⟩
set_option maxRecDepth 100000 in
theorem rub_open {v : Value} {d : DataW H} {p : List MemPlace} (h : DataW.Trod enc Try.prog w base spare held 38 v d p) (hv : ∃ cs : Array Value, v = .agg cs ∧ cs.size = Try.prog.cellsOf 38) :
    ∃ (t : Tm) (x : Int) (A : Option Addr) (c : Nat) (xs : List UInt8) (A2 : Option Addr) (c2 : Nat) (ys : List UInt8), v = .agg (tmV t [.int .i64 x, .slice A xs.length c, .slice A2 ys.length c2]) ∧ t.Ok ∧ i64ok x ∧ SlB w w.heap.size A c xs ∧ SlB w w.heap.size A2 c2 ys := by
  obtain ⟨fuel, hf⟩ := h
  obtain ⟨cs0, rfl, hsz⟩ := hv
  obtain ⟨xs, n, _, _, hlen, hxl, hff⟩ := DataW.trod_struct Try.underlying38 hf
  have hcs : (Value.agg cs0).cells.toList = cs0.toList := rfl
  rw [hcs] at hff hlen
  rw [cells38] at hlen
  have hx : ∀ i, i < 4 → ∃ y, xs[i]? = some y := fun i hi => ⟨xs[i]'(by simpa [hxl] using hi), List.getElem?_eq_getElem _⟩
  obtain ⟨y0, e0⟩ := hx 0 (by omega)
  obtain ⟨y1, e1⟩ := hx 1 (by omega)
  obtain ⟨y2, e2⟩ := hx 2 (by omega)
  obtain ⟨y3, e3⟩ := hx 3 (by omega)
  have h0 : DataW.trod enc Try.prog w base spare held n 26 ((cs0.toList.drop 0).take (Try.prog.cellsOf 26)) = xs[0]? := hff 0 _ rfl
  have h1 : DataW.trod enc Try.prog w base spare held n 3 ((cs0.toList.drop 24).take (Try.prog.cellsOf 3)) = xs[1]? := hff 1 _ rfl
  have h2 : DataW.trod enc Try.prog w base spare held n 27 ((cs0.toList.drop 25).take (Try.prog.cellsOf 27)) = xs[2]? := hff 2 _ rfl
  have h3 : DataW.trod enc Try.prog w base spare held n 27 ((cs0.toList.drop 26).take (Try.prog.cellsOf 27)) = xs[3]? := hff 3 _ rfl
  rw [cells26, e0] at h0
  rw [cells3, e1] at h1
  rw [cells32, e2] at h2
  rw [cells32, e3] at h3
  obtain ⟨t, t1, ht⟩ := tm_cells h0
  obtain ⟨x, o1, _, wo⟩ := DataW.trod_int Try.underlying3 h1
  obtain ⟨A, c, bs, b1, hb⟩ := bytes_open h2
  obtain ⟨A2, c2, ys, b2, hb2⟩ := bytes_open h3
  refine ⟨t, x, A, c, bs, A2, c2, ys, ?_, ht, i64_of wo, hb, hb2⟩
  congr 1
  rw [← Array.toList_inj]
  refine cells_app (cl_len ht.len) hlen t1 (fun j hj => ?_)
  match j, hj with
  | 0, _ => exact one_at o1
  | 1, _ => exact one_at b1
  | 2, _ => exact one_at b2
set_option maxRecDepth 100000 in
theorem parts_open {v : Value} {d : DataW H} {p : List MemPlace} (h : DataW.Trod enc Try.prog w base spare held 44 v d p) (hv : ∃ cs : Array Value, v = .agg cs ∧ cs.size = Try.prog.cellsOf 44) :
    ∃ (t : Tm) (x : Int) (A : Option Addr) (c : Nat) (xs : List UInt8) (i k : Nat), v = .agg (tmV t [.int .i64 x, .slice A xs.length c, .int .u16 (i : Int), .int .u16 (k : Int)]) ∧ t.Ok ∧ i64ok x ∧ SlB w w.heap.size A c xs := by
  obtain ⟨fuel, hf⟩ := h
  obtain ⟨cs0, rfl, hsz⟩ := hv
  obtain ⟨xs, n, _, _, hlen, hxl, hff⟩ := DataW.trod_struct Try.underlying44 hf
  have hcs : (Value.agg cs0).cells.toList = cs0.toList := rfl
  rw [hcs] at hff hlen
  rw [cells44] at hlen
  have hx : ∀ i, i < 5 → ∃ y, xs[i]? = some y := fun i hi => ⟨xs[i]'(by simpa [hxl] using hi), List.getElem?_eq_getElem _⟩
  obtain ⟨y0, e0⟩ := hx 0 (by omega)
  obtain ⟨y1, e1⟩ := hx 1 (by omega)
  obtain ⟨y2, e2⟩ := hx 2 (by omega)
  obtain ⟨y3, e3⟩ := hx 3 (by omega)
  obtain ⟨y4, e4⟩ := hx 4 (by omega)
  have h0 : DataW.trod enc Try.prog w base spare held n 26 ((cs0.toList.drop 0).take (Try.prog.cellsOf 26)) = xs[0]? := hff 0 _ rfl
  have h1 : DataW.trod enc Try.prog w base spare held n 3 ((cs0.toList.drop 24).take (Try.prog.cellsOf 3)) = xs[1]? := hff 1 _ rfl
  have h2 : DataW.trod enc Try.prog w base spare held n 27 ((cs0.toList.drop 25).take (Try.prog.cellsOf 27)) = xs[2]? := hff 2 _ rfl
  have h3 : DataW.trod enc Try.prog w base spare held n 42 ((cs0.toList.drop 26).take (Try.prog.cellsOf 42)) = xs[3]? := hff 3 _ rfl
  have h4 : DataW.trod enc Try.prog w base spare held n 42 ((cs0.toList.drop 27).take (Try.prog.cellsOf 42)) = xs[4]? := hff 4 _ rfl
  rw [cells26, e0] at h0
  rw [cells3, e1] at h1
  rw [cells32, e2] at h2
  rw [cells42, e3] at h3
  rw [cells42, e4] at h4
  obtain ⟨t, t1, ht⟩ := tm_cells h0
  obtain ⟨x, o1, _, wo⟩ := DataW.trod_int Try.underlying3 h1
  obtain ⟨A, c, bs, b1, hb⟩ := bytes_open h2
  obtain ⟨i, i1, _, wi⟩ := DataW.trod_int Try.underlying42 h3
  obtain ⟨k, k1, _, wk⟩ := DataW.trod_int Try.underlying42 h4
  have hi := u16_of wi
  have hk := u16_of wk
  refine ⟨t, x, A, c, bs, i.toNat, k.toNat, ?_, ht, i64_of wo, hb⟩
  have ei : ((i.toNat : Nat) : Int) = i := by omega
  have ek : ((k.toNat : Nat) : Int) = k := by omega
  rw [ei, ek]
  congr 1
  rw [← Array.toList_inj]
  refine cells_app (cl_len ht.len) hlen t1 (fun j hj => ?_)
  match j, hj with
  | 0, _ => exact one_at o1
  | 1, _ => exact one_at b1
  | 2, _ => exact one_at i1
  | 3, _ => exact one_at k1
end
end Go.Proofs.Ytgollkckdnaegaa
