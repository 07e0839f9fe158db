import Derived.Test.YtpfcjcldokghbaaNH
namespace Go.Proofs.Ytpfcjcldokghbaa
open Go.ChangeShapes Go.WideShapes Go.ChangeAt Go.RowKit Go.Deep

theorem cells40 : Try.prog.cellsOf 40 = 1 := by kernel_rfl
theorem cells42 : Try.prog.cellsOf 42 = 27 := by kernel_rfl
theorem u16_of {x : Int} (h : (Lit.int .u16 x).wf = true) : 0 ≤ x ∧ x ≤ 65535 := bounds_u16 h
/-- A setting, bytes, where they are cut, and an opcode. -/
def cutV (t : Tm) (A : Option Addr) (n c : Nat) (x : Nat) (op : Int) : Array Value := (t.cl ++ [Value.slice A n c, Value.int .u16 (x : Int), Value.int .i64 op]).toArray
theorem cells_27 {l : List Value} {cl : List Value} {a b c : Value} (hlen : l.length = 27) (h0 : (l.drop 0).take 24 = cl) (hl : cl.length = 24) (ha : l[24]? = some a) (hb : l[25]? = some b) (hc : l[26]? = some c) : l = cl ++ [a, b, c] := by
  apply List.ext_getElem?
  intro j
  rcases (by omega : j < 24 ∨ j = 24 ∨ j = 25 ∨ j = 26 ∨ 27 ≤ j) with hj | rfl | rfl | rfl | hj
  · rw [List.getElem?_append_left (by omega), ← h0, List.drop_zero, List.getElem?_take, if_pos hj]
  · rw [ha, List.getElem?_append_right (by omega), hl]; rfl
  · rw [hb, List.getElem?_append_right (by omega), hl]; rfl
  · rw [hc, List.getElem?_append_right (by omega), hl]; rfl
  · rw [List.getElem?_eq_none (by omega), List.getElem?_eq_none (by simp; omega)]
section
variable {H : Type} {enc : TypeId × Value → H} {w : World} {base : Nat} {spare : Nat → Bool} {held : Bool}
theorem u8_open {v : Value} {d : DataW H} {p : List MemPlace} (h : DataW.Trod enc Try.prog w base spare held 5 v d p) (hv : ∃ z, v = .int .u8 z) : ∃ c : UInt8, v = .int .u8 (c.toNat : Int) := by
  obtain ⟨fuel, hf⟩ := h
  obtain ⟨z, rfl⟩ := hv
  obtain ⟨k0, e0, _, hw⟩ := DataW.trod_int Try.underlying5 hf
  simp only [Value.cells, List.cons.injEq, and_true] at e0
  injection e0 with _ e0
  subst e0
  have hb := bounds_u8 hw
  refine ⟨UInt8.ofNat z.toNat, ?_⟩
  have e : ((UInt8.ofNat z.toNat).toNat : Int) = z := by simp; omega
  rw [e]
set_option maxRecDepth 100000 in
theorem cut_open {v : Value} {d : DataW H} {p : List MemPlace} (h : DataW.Trod enc Try.prog w base spare held 42 v d p) (hv : ∃ cs : Array Value, v = .agg cs ∧ cs.size = Try.prog.cellsOf 42) :
    ∃ (t : Tm) (A : Option Addr) (c : Nat) (bs : List UInt8) (x : Nat) (op : Int), v = .agg (cutV t A bs.length c x op) ∧ t.Ok ∧ SlB w w.heap.size A c bs ∧ x ≤ 65535 ∧ i64ok op := by
  obtain ⟨fuel, hf⟩ := h
  obtain ⟨cs0, rfl, hsz⟩ := hv
  obtain ⟨xs, n, _, _, hlen, hxl, hff⟩ := DataW.trod_struct Try.underlying42 hf
  have hcs : (Value.agg cs0).cells.toList = cs0.toList := rfl
  rw [hcs] at hff hlen
  rw [cells42] at hlen
  have hx : ∀ i, i < 4 → ∃ y, xs[i]? = some y := fun i hi => ⟨xs[i]'(by simpa [hxl] using hi), List.getElem?_eq_getElem _⟩
  obtain ⟨y0, e0⟩ := hx 0 (by omega)
  obtain ⟨y1, e1⟩ := hx 1 (by omega)
  obtain ⟨y2, e2⟩ := hx 2 (by omega)
  obtain ⟨y3, e3⟩ := hx 3 (by omega)
  have h0 : DataW.trod enc Try.prog w base spare held n 26 ((cs0.toList.drop 0).take (Try.prog.cellsOf 26)) = xs[0]? := hff 0 _ rfl
  have h1 : DataW.trod enc Try.prog w base spare held n 32 ((cs0.toList.drop 24).take (Try.prog.cellsOf 32)) = xs[1]? := hff 1 _ rfl
  have h2 : DataW.trod enc Try.prog w base spare held n 40 ((cs0.toList.drop 25).take (Try.prog.cellsOf 40)) = xs[2]? := hff 2 _ rfl
  have h3 : DataW.trod enc Try.prog w base spare held n 3 ((cs0.toList.drop 26).take (Try.prog.cellsOf 3)) = xs[3]? := hff 3 _ rfl
  rw [cells26, e0] at h0
  rw [cells32, e1] at h1
  rw [cells40, e2] at h2
  rw [cells3, e3] at h3
  obtain ⟨t, t1, ht⟩ := tm_cells h0
  obtain ⟨A, c, bs, b1, hb⟩ := bytes_open h1
  obtain ⟨x, x1, _, wx⟩ := DataW.trod_int Try.underlying40 h2
  obtain ⟨op, o1, _, wo⟩ := DataW.trod_int Try.underlying3 h3
  have hx16 := u16_of wx
  refine ⟨t, A, c, bs, x.toNat, op, ?_, ht, hb, by omega, i64_of wo⟩
  have e : ((x.toNat : Nat) : Int) = x := by omega
  unfold cutV
  rw [e]
  congr 1
  rw [← Array.toList_inj]
  exact cells_27 hlen t1 (cl_len ht.len) (one_at b1) (one_at x1) (one_at o1)
end
end Go.Proofs.Ytpfcjcldokghbaa
