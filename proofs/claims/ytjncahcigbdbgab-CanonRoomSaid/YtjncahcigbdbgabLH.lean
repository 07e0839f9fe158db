import Derived.Test.YtjncahcigbdbgabLG
namespace Go.Proofs.Ytjncahcigbdbgab
open Go.RowKit

/-! What the program's calls answer: new memory, all of it. -/
def NewB (w : World) (base : Nat) (A : Option Addr) (bs : List UInt8) : Prop := bs ≠ [] → ∃ g o cs, A = some ⟨g, o, none⟩ ∧ base ≤ g ∧ Box w g 5 cs
structure LnF (w : World) (base : Nat) (A : Option Addr) (c : Nat) (qs : List Rc) : Prop where
  ln : LnV w w.heap.size A c qs
  row : qs ≠ [] → ∃ g o cs, A = some ⟨g, o, none⟩ ∧ base ≤ g ∧ Box w g 30 cs
  text : ∀ r ∈ qs, NewB w base r.A r.bs
def RetLF (w : World) (p : List (List UInt8 × Bool) × Bool) (e : Ending) (w' : World) : Prop := ∃ A n c qs, e = .returned (.tuple #[.slice A n c, .bool p.2]) ∧ Hid (lnR qs = p.1) ∧ Hid (qs.length = n) ∧ Hid (LnF w' w.heap.size A c qs) ∧ Hid (Below w.heap.size w w')
def RetRF (w : World) (p : List UInt8 × List (List UInt8 × Bool) × Bool) (e : Ending) (w' : World) : Prop := ∃ Ab nb cb A m c qs, e = .returned (.tuple #[.slice Ab nb cb, .slice A m c, .bool p.2.2]) ∧ Hid (p.1.length = nb) ∧ Hid (SlB w' w'.heap.size Ab cb p.1) ∧ Hid (NewB w' w.heap.size Ab p.1) ∧ Hid (lnR qs = p.2.1) ∧ Hid (qs.length = m) ∧ Hid (LnF w' w.heap.size A c qs) ∧ Hid (Below w.heap.size w w')
end Go.Proofs.Ytjncahcigbdbgab
