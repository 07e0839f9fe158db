import Derived.Test.YtggcampdkgfmgaaUF
namespace Go.Proofs.Ytggcampdkgfmgaa
open Go.ChangeShapes Go.WideShapes Go.ChangeAt Go.RowKit Go.Deep

/-! TopCarries: what came in. -/
section
variable {H : Type} {enc : TypeId × Value → H} {w : World} {base : Nat} {spare : Nat → Bool} {held : Bool}
set_option maxRecDepth 100000 in
theorem carried_open {v : Value} {d : DataW H} {p : List MemPlace} (h : DataW.Trod enc Try.prog w base spare held 29 v d p) (hv : ∃ cs : Array Value, v = .agg cs ∧ cs.size = Try.prog.cellsOf 29) :
    ∃ (t : Tm) (A0 : Option Addr) (c0 : Nat) (bs0 : List UInt8) (x1 : UInt8) (x2 : UInt8), v = .agg (tmV t [.slice A0 bs0.length c0, .int .u8 ((x1 : UInt8).toNat : Int), .int .u8 ((x2 : UInt8).toNat : Int)]) ∧ t.Ok ∧ SlB w w.heap.size A0 c0 bs0 := by
  obtain ⟨fuel, hf⟩ := h
  obtain ⟨cs0, rfl, hsz⟩ := hv
  obtain ⟨xs, n, _, _, hlen, hxl, hff⟩ := DataW.trod_struct Try.underlying29 hf
  have hcs : (Value.agg cs0).cells.toList = cs0.toList := rfl
  rw [hcs] at hff hlen
  rw [show Try.prog.cellsOf 29 = 27 by kernel_rfl] at hlen
  have hx : ∀ i, i < 4 → ∃ y, xs[i]? = some y := fun i hi => ⟨xs[i]'(by simpa [hxl] using hi), List.getElem?_eq_getElem _⟩
  obtain ⟨z0, e0⟩ := hx 0 (by omega)
  obtain ⟨z1, e1⟩ := hx 1 (by omega)
  obtain ⟨z2, e2⟩ := hx 2 (by omega)
  obtain ⟨z3, e3⟩ := hx 3 (by omega)
  have h0 : DataW.trod enc Try.prog w base spare held n 26 ((cs0.toList.drop 0).take (Try.prog.cellsOf 26)) = xs[0]? := hff 0 _ rfl
  have h1 : DataW.trod enc Try.prog w base spare held n 27 ((cs0.toList.drop 24).take (Try.prog.cellsOf 27)) = xs[1]? := hff 1 _ rfl
  have h2 : DataW.trod enc Try.prog w base spare held n 5 ((cs0.toList.drop 25).take (Try.prog.cellsOf 5)) = xs[2]? := hff 2 _ rfl
  have h3 : DataW.trod enc Try.prog w base spare held n 5 ((cs0.toList.drop 26).take (Try.prog.cellsOf 5)) = xs[3]? := hff 3 _ rfl
  rw [cells26, e0] at h0
  rw [show Try.prog.cellsOf 27 = 1 by kernel_rfl, e1] at h1
  rw [show Try.prog.cellsOf 5 = 1 by kernel_rfl, e2] at h2
  rw [show Try.prog.cellsOf 5 = 1 by kernel_rfl, e3] at h3
  obtain ⟨t, t1, ht⟩ := tm_cells h0
  obtain ⟨A0, c0, bs0, o0, hb0⟩ := bytes_open h1
  obtain ⟨x1, o1, _, w1⟩ := DataW.trod_int Try.underlying5 h2
  have r1 := bounds_u8 w1
  have k1 : (UInt8.ofNat x1.toNat).toNat = x1.toNat % 256 := UInt8.toNat_ofNat'
  have q1 : (((UInt8.ofNat x1.toNat).toNat : Nat) : Int) = x1 := by omega
  obtain ⟨x2, o2, _, w2⟩ := DataW.trod_int Try.underlying5 h3
  have r2 := bounds_u8 w2
  have k2 : (UInt8.ofNat x2.toNat).toNat = x2.toNat % 256 := UInt8.toNat_ofNat'
  have q2 : (((UInt8.ofNat x2.toNat).toNat : Nat) : Int) = x2 := by omega
  refine ⟨t, A0, c0, bs0, UInt8.ofNat x1.toNat, UInt8.ofNat x2.toNat, ?_, ht, hb0⟩
  rw [q1]
  rw [q2]
  congr 1
  rw [← Array.toList_inj]
  refine cells_app (cl_len ht.len) hlen t1 (fun j hj => ?_)
  match j, hj with
  | 0, _ => exact one_at o0
  | 1, _ => exact one_at o1
  | 2, _ => exact one_at o2
end
end Go.Proofs.Ytggcampdkgfmgaa
