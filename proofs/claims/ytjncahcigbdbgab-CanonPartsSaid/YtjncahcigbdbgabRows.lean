/-
  No cell of these rows narrows 'for every input' (looked for: loops, veiled, ifaces, maps, wideKeys, modest, calm, conditions, laid).
  DERIVED. THE GIVEN ROWS OF THIS SEAT. 4 by the template 'for every input the law returns true; each argument reads behind the call as it read before'; 0 by the template 'total and deterministic' (their statements: YtjncahcigbdbgabTotals.lean).
  GIVEN WITH THE SEED: the statements are not yours to turn. If you find one false, say at which input.
  Laid BY PROGRAM, IN A SANDBOX (cutbox-rows.mjs): the forced cells as the released guide's own fill.sh prints them over the translation 20c066d15fdf0e16… (all of the seat's roots in one cut). By AI agents, Wed Nov 11 2026. No macro, syntax, notation, axiom, sorry.
-/
import Derived.Test.YtjncahcigbdbgabChecked
import GoSem.Claim
import GoSem.ClaimJoined
import GoSem.ClaimMapViews
import Derived.JoinedTies
import Derived.KernelRfl
namespace Go.Proofs.Ytjncahcigbdbgab
/- THE CELL 'sum', in the pinned program and in every row, IS THE sha256 OF THE DUMP (.gsa) THAT YtjncahcigbdbgabProg.lean LOADS. Nothing in Lean hashes anything: it is a label: what it is worth is what the hold of that sum in a sandbox is worth. -/
noncomputable def Try.pinned : Pinned := { name := "ytjncahcigbdbgab", sum := "20c066d15fdf0e16da600be1fb1bd9d617aafc2d42637965b1059bc2c082e322", checked := Try.checked }
namespace Rows
def none {H : Type} : Left H := { results := [], args := [] }

/-- 'parlourlaw13.CanonIs': WHATEVER THE INPUT: true; the input reads as it did. -/
def canonIsSpec : ChangeSpec := { name := "canonIs", fn := fun _ => fun
  | [d1, d2, d3] => { results := [.lit (.bool true)], args := [d1, d2, d3] }
  | _ => none }
def canonIsRow : OpenClaim := { program := "ytjncahcigbdbgab", sum := "20c066d15fdf0e16da600be1fb1bd9d617aafc2d42637965b1059bc2c082e322", func := "parlour/parlourlaw13.CanonIs", spec := "canonIs", apart := false }
def CanonIsSaid : Prop := canonIsRow.holds Try.pinned (OpenSpec.ofChange canonIsSpec)

/-- ITS FALSE NEIGHBOUR: 'it returns false'. Refute it at one input. -/
def canonIsWrong : ChangeSpec := { name := "canonIs", fn := fun _ => fun
  | [d1, d2, d3] => { results := [.lit (.bool false)], args := [d1, d2, d3] }
  | _ => none }
def CanonIsWrongFalsely : Prop := canonIsRow.holds Try.pinned (OpenSpec.ofChange canonIsWrong)

/-- 'parlourlaw13.CanonReads': WHATEVER THE INPUT: true; the input reads as it did. -/
def canonReadsSpec : ChangeSpec := { name := "canonReads", fn := fun _ => fun
  | [d1, d2] => { results := [.lit (.bool true)], args := [d1, d2] }
  | _ => none }
def canonReadsRow : OpenClaim := { program := "ytjncahcigbdbgab", sum := "20c066d15fdf0e16da600be1fb1bd9d617aafc2d42637965b1059bc2c082e322", func := "parlour/parlourlaw13.CanonReads", spec := "canonReads", apart := false }
def CanonReadsSaid : Prop := canonReadsRow.holds Try.pinned (OpenSpec.ofChange canonReadsSpec)

/-- ITS FALSE NEIGHBOUR: 'it returns false'. Refute it at one input. -/
def canonReadsWrong : ChangeSpec := { name := "canonReads", fn := fun _ => fun
  | [d1, d2] => { results := [.lit (.bool false)], args := [d1, d2] }
  | _ => none }
def CanonReadsWrongFalsely : Prop := canonReadsRow.holds Try.pinned (OpenSpec.ofChange canonReadsWrong)

/-- 'parlourlaw13.CanonParts': WHATEVER THE INPUT: true; the input reads as it did. -/
def canonPartsSpec : ChangeSpec := { name := "canonParts", fn := fun _ => fun
  | [d1, d2, d3] => { results := [.lit (.bool true)], args := [d1, d2, d3] }
  | _ => none }
def canonPartsRow : OpenClaim := { program := "ytjncahcigbdbgab", sum := "20c066d15fdf0e16da600be1fb1bd9d617aafc2d42637965b1059bc2c082e322", func := "parlour/parlourlaw13.CanonParts", spec := "canonParts", apart := false }
def CanonPartsSaid : Prop := canonPartsRow.holds Try.pinned (OpenSpec.ofChange canonPartsSpec)

/-- ITS FALSE NEIGHBOUR: 'it returns false'. Refute it at one input. -/
def canonPartsWrong : ChangeSpec := { name := "canonParts", fn := fun _ => fun
  | [d1, d2, d3] => { results := [.lit (.bool false)], args := [d1, d2, d3] }
  | _ => none }
def CanonPartsWrongFalsely : Prop := canonPartsRow.holds Try.pinned (OpenSpec.ofChange canonPartsWrong)

/-- 'parlourlaw13.CanonRoom': WHATEVER THE INPUT: true; the input reads as it did. -/
def canonRoomSpec : ChangeSpec := { name := "canonRoom", fn := fun _ => fun
  | [d1, d2] => { results := [.lit (.bool true)], args := [d1, d2] }
  | _ => none }
def canonRoomRow : OpenClaim := { program := "ytjncahcigbdbgab", sum := "20c066d15fdf0e16da600be1fb1bd9d617aafc2d42637965b1059bc2c082e322", func := "parlour/parlourlaw13.CanonRoom", spec := "canonRoom", apart := false }
def CanonRoomSaid : Prop := canonRoomRow.holds Try.pinned (OpenSpec.ofChange canonRoomSpec)

/-- ITS FALSE NEIGHBOUR: 'it returns false'. Refute it at one input. -/
def canonRoomWrong : ChangeSpec := { name := "canonRoom", fn := fun _ => fun
  | [d1, d2] => { results := [.lit (.bool false)], args := [d1, d2] }
  | _ => none }
def CanonRoomWrongFalsely : Prop := canonRoomRow.holds Try.pinned (OpenSpec.ofChange canonRoomWrong)

/- THE SECOND FORM. 'bulk': how many values and letters a reading holds, each counted each time it is reached (what is shared counts as often as it is met; a slice's spare places count too). A statement '..UptoSaid' is the law's where the arguments, and the package variables that the reading takes, are together of bulk at most 1048576: NARROWER than '..Said'. Prove '..Said' where nothing that the law and all that it calls make is longer than what came in: it says more and counts as full. Else prove '..UptoSaid'. A law counts once. -/
mutual
def uptoBulk {H : Type} : DataW H → Nat
  | .lit (.string bytes) => bytes.length + 1
  | .lit _ => 1
  | .nil => 1
  | .ptr d => uptoBulk d + 1
  | .slice elems spare => uptoBulkAll elems + uptoBulkAll spare + 1
  | .agg parts => uptoBulkAll parts + 1
  | .iface _ d => uptoBulk d + 1
  | .map entries => uptoBulkEntries entries + 1
  | .held _ => 1
def uptoBulkAll {H : Type} : List (DataW H) → Nat
  | [] => 0
  | d :: r => uptoBulk d + uptoBulkAll r
def uptoBulkEntries {H : Type} : List (Lit × DataW H) → Nat
  | [] => 0
  | x :: r => uptoBulkEntry x + uptoBulkEntries r
def uptoBulkEntry {H : Type} : Lit × DataW H → Nat
  | (.string bytes, d) => bytes.length + uptoBulk d + 1
  | (_, d) => uptoBulk d + 1
 end
def uptoSmall : (H : Type) → List (DataW H) → Bool := fun _ ds => decide (uptoBulkAll ds ≤ 1048576)
def OpenSpec.upto (s : _root_.Go.ChangeSpec) : _root_.Go.OpenSpec := { _root_.Go.OpenSpec.ofChange s with cond := some uptoSmall }

/-- 'parlourlaw13.CanonIs', WHERE WHAT IT READS IS OF BULK AT MOST 1048576: true; the input reads as it did. -/
def canonIsUptoRow : OpenClaim := { program := "ytjncahcigbdbgab", sum := "20c066d15fdf0e16da600be1fb1bd9d617aafc2d42637965b1059bc2c082e322", func := "parlour/parlourlaw13.CanonIs", spec := "canonIs", apart := false, narrowed := true }
def CanonIsUptoSaid : Prop := canonIsUptoRow.holds Try.pinned (OpenSpec.upto canonIsSpec)

/-- 'parlourlaw13.CanonReads', WHERE WHAT IT READS IS OF BULK AT MOST 1048576: true; the input reads as it did. -/
def canonReadsUptoRow : OpenClaim := { program := "ytjncahcigbdbgab", sum := "20c066d15fdf0e16da600be1fb1bd9d617aafc2d42637965b1059bc2c082e322", func := "parlour/parlourlaw13.CanonReads", spec := "canonReads", apart := false, narrowed := true }
def CanonReadsUptoSaid : Prop := canonReadsUptoRow.holds Try.pinned (OpenSpec.upto canonReadsSpec)

/-- 'parlourlaw13.CanonParts', WHERE WHAT IT READS IS OF BULK AT MOST 1048576: true; the input reads as it did. -/
def canonPartsUptoRow : OpenClaim := { program := "ytjncahcigbdbgab", sum := "20c066d15fdf0e16da600be1fb1bd9d617aafc2d42637965b1059bc2c082e322", func := "parlour/parlourlaw13.CanonParts", spec := "canonParts", apart := false, narrowed := true }
def CanonPartsUptoSaid : Prop := canonPartsUptoRow.holds Try.pinned (OpenSpec.upto canonPartsSpec)

/-- 'parlourlaw13.CanonRoom', WHERE WHAT IT READS IS OF BULK AT MOST 1048576: true; the input reads as it did. -/
def canonRoomUptoRow : OpenClaim := { program := "ytjncahcigbdbgab", sum := "20c066d15fdf0e16da600be1fb1bd9d617aafc2d42637965b1059bc2c082e322", func := "parlour/parlourlaw13.CanonRoom", spec := "canonRoom", apart := false, narrowed := true }
def CanonRoomUptoSaid : Prop := canonRoomUptoRow.holds Try.pinned (OpenSpec.upto canonRoomSpec)

end Rows
end Go.Proofs.Ytjncahcigbdbgab
