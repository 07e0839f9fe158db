/-
  No cell of these rows narrows 'for every input' (looked for: loops, veiled, ifaces, maps, wideKeys, modest, calm, conditions, laid).
  DERIVED. THE GIVEN ROWS OF THIS SEAT. 12 by the template 'for every input the law returns true; each argument reads behind the call as it read before'; 0 by the template 'total and deterministic' (their statements: YtggcampdkgfmgaaGreatTotals.lean).
  GIVEN WITH THE SEED: the statements are not yours to turn. If you find one false, say at which input.
  Laid BY PROGRAM, IN A SANDBOX (cutbox-rows.mjs): the forced cells as the released guide's own fill.sh prints them over the translation 0ecfb5f0691dbdf3… (all of the seat's roots in one cut). By AI agents, Wed Nov 11 2026. No macro, syntax, notation, axiom, sorry.
-/
import Derived.Test.YtggcampdkgfmgaaGreatChecked
import GoSem.Claim
import GoSem.ClaimJoined
import GoSem.ClaimMapViews
import Derived.JoinedTies
import Derived.KernelRfl
namespace Go.Proofs.YtggcampdkgfmgaaGreat
/- THE CELL 'sum', in the pinned program and in every row, IS THE sha256 OF THE DUMP (.gsa) THAT YtggcampdkgfmgaaGreatProg.lean LOADS. Nothing in Lean hashes anything: it is a label: what it is worth is what the hold of that sum in a sandbox is worth. -/
noncomputable def Tryz.pinned : Pinned := { name := "ytggcampdkgfmgaagreat", sum := "0ecfb5f0691dbdf3cc68a5efc4104de6d5877531605bbe3c073e22d4bab754ff", checked := Tryz.checked }
namespace Rows
def none {H : Type} : Left H := { results := [], args := [] }

/-- 'parlourlaw16.LdiscLines': WHATEVER THE INPUT: true; the input reads as it did. -/
def ldiscLinesSpec : ChangeSpec := { name := "ldiscLines", fn := fun _ => fun
  | [d1, d2, d3] => { results := [.lit (.bool true)], args := [d1, d2, d3] }
  | _ => none }
def ldiscLinesRow : OpenClaim := { program := "ytggcampdkgfmgaagreat", sum := "0ecfb5f0691dbdf3cc68a5efc4104de6d5877531605bbe3c073e22d4bab754ff", func := "parlour/parlourlaw16.LdiscLines", spec := "ldiscLines", inPlace := ["internal/bytealg.MakeNoZero"], unfollowed := true, recurses := true, apart := false }
def LdiscLinesSaid : Prop := ldiscLinesRow.holds Tryz.pinned (OpenSpec.ofChange ldiscLinesSpec)

/-- ITS FALSE NEIGHBOUR: 'it returns false'. Refute it at one input. -/
def ldiscLinesWrong : ChangeSpec := { name := "ldiscLines", fn := fun _ => fun
  | [d1, d2, d3] => { results := [.lit (.bool false)], args := [d1, d2, d3] }
  | _ => none }
def LdiscLinesWrongFalsely : Prop := ldiscLinesRow.holds Tryz.pinned (OpenSpec.ofChange ldiscLinesWrong)

/-- 'parlourlaw16.LdiscErases': WHATEVER THE INPUT: true; the input reads as it did. -/
def ldiscErasesSpec : ChangeSpec := { name := "ldiscErases", fn := fun _ => fun
  | [d1, d2] => { results := [.lit (.bool true)], args := [d1, d2] }
  | _ => none }
def ldiscErasesRow : OpenClaim := { program := "ytggcampdkgfmgaagreat", sum := "0ecfb5f0691dbdf3cc68a5efc4104de6d5877531605bbe3c073e22d4bab754ff", func := "parlour/parlourlaw16.LdiscErases", spec := "ldiscErases", inPlace := ["internal/bytealg.MakeNoZero"], unfollowed := true, recurses := true, apart := false }
def LdiscErasesSaid : Prop := ldiscErasesRow.holds Tryz.pinned (OpenSpec.ofChange ldiscErasesSpec)

/-- ITS FALSE NEIGHBOUR: 'it returns false'. Refute it at one input. -/
def ldiscErasesWrong : ChangeSpec := { name := "ldiscErases", fn := fun _ => fun
  | [d1, d2] => { results := [.lit (.bool false)], args := [d1, d2] }
  | _ => none }
def LdiscErasesWrongFalsely : Prop := ldiscErasesRow.holds Tryz.pinned (OpenSpec.ofChange ldiscErasesWrong)

/-- 'parlourlaw16.LdiscSignals': WHATEVER THE INPUT: true; the input reads as it did. -/
def ldiscSignalsSpec : ChangeSpec := { name := "ldiscSignals", fn := fun _ => fun
  | [d1, d2] => { results := [.lit (.bool true)], args := [d1, d2] }
  | _ => none }
def ldiscSignalsRow : OpenClaim := { program := "ytggcampdkgfmgaagreat", sum := "0ecfb5f0691dbdf3cc68a5efc4104de6d5877531605bbe3c073e22d4bab754ff", func := "parlour/parlourlaw16.LdiscSignals", spec := "ldiscSignals", inPlace := ["internal/bytealg.MakeNoZero"], unfollowed := true, recurses := true, apart := false }
def LdiscSignalsSaid : Prop := ldiscSignalsRow.holds Tryz.pinned (OpenSpec.ofChange ldiscSignalsSpec)

/-- ITS FALSE NEIGHBOUR: 'it returns false'. Refute it at one input. -/
def ldiscSignalsWrong : ChangeSpec := { name := "ldiscSignals", fn := fun _ => fun
  | [d1, d2] => { results := [.lit (.bool false)], args := [d1, d2] }
  | _ => none }
def LdiscSignalsWrongFalsely : Prop := ldiscSignalsRow.holds Tryz.pinned (OpenSpec.ofChange ldiscSignalsWrong)

/-- 'parlourlaw16.LdiscRaw': WHATEVER THE INPUT: true; the input reads as it did. -/
def ldiscRawSpec : ChangeSpec := { name := "ldiscRaw", fn := fun _ => fun
  | [d1, d2, d3] => { results := [.lit (.bool true)], args := [d1, d2, d3] }
  | _ => none }
def ldiscRawRow : OpenClaim := { program := "ytggcampdkgfmgaagreat", sum := "0ecfb5f0691dbdf3cc68a5efc4104de6d5877531605bbe3c073e22d4bab754ff", func := "parlour/parlourlaw16.LdiscRaw", spec := "ldiscRaw", inPlace := ["internal/bytealg.MakeNoZero"], unfollowed := true, recurses := true, apart := false }
def LdiscRawSaid : Prop := ldiscRawRow.holds Tryz.pinned (OpenSpec.ofChange ldiscRawSpec)

/-- ITS FALSE NEIGHBOUR: 'it returns false'. Refute it at one input. -/
def ldiscRawWrong : ChangeSpec := { name := "ldiscRaw", fn := fun _ => fun
  | [d1, d2, d3] => { results := [.lit (.bool false)], args := [d1, d2, d3] }
  | _ => none }
def LdiscRawWrongFalsely : Prop := ldiscRawRow.holds Tryz.pinned (OpenSpec.ofChange ldiscRawWrong)

/-- 'parlourlaw16.LdiscBounds': WHATEVER THE INPUT: true; the input reads as it did. -/
def ldiscBoundsSpec : ChangeSpec := { name := "ldiscBounds", fn := fun _ => fun
  | [d1, d2] => { results := [.lit (.bool true)], args := [d1, d2] }
  | _ => none }
def ldiscBoundsRow : OpenClaim := { program := "ytggcampdkgfmgaagreat", sum := "0ecfb5f0691dbdf3cc68a5efc4104de6d5877531605bbe3c073e22d4bab754ff", func := "parlour/parlourlaw16.LdiscBounds", spec := "ldiscBounds", inPlace := ["internal/bytealg.MakeNoZero"], unfollowed := true, recurses := true, apart := false }
def LdiscBoundsSaid : Prop := ldiscBoundsRow.holds Tryz.pinned (OpenSpec.ofChange ldiscBoundsSpec)

/-- ITS FALSE NEIGHBOUR: 'it returns false'. Refute it at one input. -/
def ldiscBoundsWrong : ChangeSpec := { name := "ldiscBounds", fn := fun _ => fun
  | [d1, d2] => { results := [.lit (.bool false)], args := [d1, d2] }
  | _ => none }
def LdiscBoundsWrongFalsely : Prop := ldiscBoundsRow.holds Tryz.pinned (OpenSpec.ofChange ldiscBoundsWrong)

/-- 'parlourlaw16.LdiscWrites': WHATEVER THE INPUT: true; the input reads as it did. -/
def ldiscWritesSpec : ChangeSpec := { name := "ldiscWrites", fn := fun _ => fun
  | [d] => { results := [.lit (.bool true)], args := [d] }
  | _ => none }
def ldiscWritesRow : OpenClaim := { program := "ytggcampdkgfmgaagreat", sum := "0ecfb5f0691dbdf3cc68a5efc4104de6d5877531605bbe3c073e22d4bab754ff", func := "parlour/parlourlaw16.LdiscWrites", spec := "ldiscWrites", inPlace := ["internal/bytealg.MakeNoZero"], unfollowed := true, recurses := true, apart := false }
def LdiscWritesSaid : Prop := ldiscWritesRow.holds Tryz.pinned (OpenSpec.ofChange ldiscWritesSpec)

/-- ITS FALSE NEIGHBOUR: 'it returns false'. Refute it at one input. -/
def ldiscWritesWrong : ChangeSpec := { name := "ldiscWrites", fn := fun _ => fun
  | [d] => { results := [.lit (.bool false)], args := [d] }
  | _ => none }
def LdiscWritesWrongFalsely : Prop := ldiscWritesRow.holds Tryz.pinned (OpenSpec.ofChange ldiscWritesWrong)

/-- 'parlourlaw17.PtyEnds': WHATEVER THE INPUT: true; the input reads as it did. -/
def ptyEndsSpec : ChangeSpec := { name := "ptyEnds", fn := fun _ => fun
  | [d] => { results := [.lit (.bool true)], args := [d] }
  | _ => none }
def ptyEndsRow : OpenClaim := { program := "ytggcampdkgfmgaagreat", sum := "0ecfb5f0691dbdf3cc68a5efc4104de6d5877531605bbe3c073e22d4bab754ff", func := "parlour/parlourlaw17.PtyEnds", spec := "ptyEnds", inPlace := ["internal/bytealg.MakeNoZero"], unfollowed := true, recurses := true, apart := false }
def PtyEndsSaid : Prop := ptyEndsRow.holds Tryz.pinned (OpenSpec.ofChange ptyEndsSpec)

/-- ITS FALSE NEIGHBOUR: 'it returns false'. Refute it at one input. -/
def ptyEndsWrong : ChangeSpec := { name := "ptyEnds", fn := fun _ => fun
  | [d] => { results := [.lit (.bool false)], args := [d] }
  | _ => none }
def PtyEndsWrongFalsely : Prop := ptyEndsRow.holds Tryz.pinned (OpenSpec.ofChange ptyEndsWrong)

/-- 'parlourlaw17.PtyHung': WHATEVER THE INPUT: true; the input reads as it did. -/
def ptyHungSpec : ChangeSpec := { name := "ptyHung", fn := fun _ => fun
  | [d1, d2] => { results := [.lit (.bool true)], args := [d1, d2] }
  | _ => none }
def ptyHungRow : OpenClaim := { program := "ytggcampdkgfmgaagreat", sum := "0ecfb5f0691dbdf3cc68a5efc4104de6d5877531605bbe3c073e22d4bab754ff", func := "parlour/parlourlaw17.PtyHung", spec := "ptyHung", inPlace := ["internal/bytealg.MakeNoZero"], unfollowed := true, recurses := true, apart := false }
def PtyHungSaid : Prop := ptyHungRow.holds Tryz.pinned (OpenSpec.ofChange ptyHungSpec)

/-- ITS FALSE NEIGHBOUR: 'it returns false'. Refute it at one input. -/
def ptyHungWrong : ChangeSpec := { name := "ptyHung", fn := fun _ => fun
  | [d1, d2] => { results := [.lit (.bool false)], args := [d1, d2] }
  | _ => none }
def PtyHungWrongFalsely : Prop := ptyHungRow.holds Tryz.pinned (OpenSpec.ofChange ptyHungWrong)

/-- 'parlourlaw17.PtyEvents': WHATEVER THE INPUT: true; the input reads as it did. -/
def ptyEventsSpec : ChangeSpec := { name := "ptyEvents", fn := fun _ => fun
  | [d1, d2] => { results := [.lit (.bool true)], args := [d1, d2] }
  | _ => none }
def ptyEventsRow : OpenClaim := { program := "ytggcampdkgfmgaagreat", sum := "0ecfb5f0691dbdf3cc68a5efc4104de6d5877531605bbe3c073e22d4bab754ff", func := "parlour/parlourlaw17.PtyEvents", spec := "ptyEvents", inPlace := ["internal/bytealg.MakeNoZero"], unfollowed := true, recurses := true, apart := false }
def PtyEventsSaid : Prop := ptyEventsRow.holds Tryz.pinned (OpenSpec.ofChange ptyEventsSpec)

/-- ITS FALSE NEIGHBOUR: 'it returns false'. Refute it at one input. -/
def ptyEventsWrong : ChangeSpec := { name := "ptyEvents", fn := fun _ => fun
  | [d1, d2] => { results := [.lit (.bool false)], args := [d1, d2] }
  | _ => none }
def PtyEventsWrongFalsely : Prop := ptyEventsRow.holds Tryz.pinned (OpenSpec.ofChange ptyEventsWrong)

/-- 'parlourlaw17.PtySizes': WHATEVER THE INPUT: true; the input reads as it did. -/
def ptySizesSpec : ChangeSpec := { name := "ptySizes", fn := fun _ => fun
  | [d1, d2] => { results := [.lit (.bool true)], args := [d1, d2] }
  | _ => none }
def ptySizesRow : OpenClaim := { program := "ytggcampdkgfmgaagreat", sum := "0ecfb5f0691dbdf3cc68a5efc4104de6d5877531605bbe3c073e22d4bab754ff", func := "parlour/parlourlaw17.PtySizes", spec := "ptySizes", inPlace := ["internal/bytealg.MakeNoZero"], unfollowed := true, recurses := true, apart := false }
def PtySizesSaid : Prop := ptySizesRow.holds Tryz.pinned (OpenSpec.ofChange ptySizesSpec)

/-- ITS FALSE NEIGHBOUR: 'it returns false'. Refute it at one input. -/
def ptySizesWrong : ChangeSpec := { name := "ptySizes", fn := fun _ => fun
  | [d1, d2] => { results := [.lit (.bool false)], args := [d1, d2] }
  | _ => none }
def PtySizesWrongFalsely : Prop := ptySizesRow.holds Tryz.pinned (OpenSpec.ofChange ptySizesWrong)

/-- 'parlourtop.TopTyped': WHATEVER THE INPUT: true; the input reads as it did. -/
def topTypedSpec : ChangeSpec := { name := "topTyped", fn := fun _ => fun
  | [d1, d2] => { results := [.lit (.bool true)], args := [d1, d2] }
  | _ => none }
def topTypedRow : OpenClaim := { program := "ytggcampdkgfmgaagreat", sum := "0ecfb5f0691dbdf3cc68a5efc4104de6d5877531605bbe3c073e22d4bab754ff", func := "parlour/parlourtop.TopTyped", spec := "topTyped", inPlace := ["internal/abi.NoEscape", "internal/bytealg.MakeNoZero"], unfollowed := true, recurses := true, apart := false }
def TopTypedSaid : Prop := topTypedRow.holds Tryz.pinned (OpenSpec.ofChange topTypedSpec)

/-- ITS FALSE NEIGHBOUR: 'it returns false'. Refute it at one input. -/
def topTypedWrong : ChangeSpec := { name := "topTyped", fn := fun _ => fun
  | [d1, d2] => { results := [.lit (.bool false)], args := [d1, d2] }
  | _ => none }
def TopTypedWrongFalsely : Prop := topTypedRow.holds Tryz.pinned (OpenSpec.ofChange topTypedWrong)

/-- 'parlourtop.TopKilled': WHATEVER THE INPUT: true; the input reads as it did. -/
def topKilledSpec : ChangeSpec := { name := "topKilled", fn := fun _ => fun
  | [d1, d2, d3] => { results := [.lit (.bool true)], args := [d1, d2, d3] }
  | _ => none }
def topKilledRow : OpenClaim := { program := "ytggcampdkgfmgaagreat", sum := "0ecfb5f0691dbdf3cc68a5efc4104de6d5877531605bbe3c073e22d4bab754ff", func := "parlour/parlourtop.TopKilled", spec := "topKilled", inPlace := ["internal/abi.NoEscape", "internal/bytealg.MakeNoZero"], unfollowed := true, recurses := true, apart := false }
def TopKilledSaid : Prop := topKilledRow.holds Tryz.pinned (OpenSpec.ofChange topKilledSpec)

/-- ITS FALSE NEIGHBOUR: 'it returns false'. Refute it at one input. -/
def topKilledWrong : ChangeSpec := { name := "topKilled", fn := fun _ => fun
  | [d1, d2, d3] => { results := [.lit (.bool false)], args := [d1, d2, d3] }
  | _ => none }
def TopKilledWrongFalsely : Prop := topKilledRow.holds Tryz.pinned (OpenSpec.ofChange topKilledWrong)

/- THE SECOND FORM. 'bulk': how many values and letters a reading holds, each counted each time it is reached (what is shared counts as often as it is met; a slice's spare places count too). A statement '..UptoSaid' is the law's where the arguments, and the package variables that the reading takes, are together of bulk at most 1048576: NARROWER than '..Said'. Prove '..Said' where nothing that the law and all that it calls make is longer than what came in: it says more and counts as full. Else prove '..UptoSaid'. A law counts once. -/
mutual
def uptoBulk {H : Type} : DataW H → Nat
  | .lit (.string bytes) => bytes.length + 1
  | .lit _ => 1
  | .nil => 1
  | .ptr d => uptoBulk d + 1
  | .slice elems spare => uptoBulkAll elems + uptoBulkAll spare + 1
  | .agg parts => uptoBulkAll parts + 1
  | .iface _ d => uptoBulk d + 1
  | .map entries => uptoBulkEntries entries + 1
  | .held _ => 1
def uptoBulkAll {H : Type} : List (DataW H) → Nat
  | [] => 0
  | d :: r => uptoBulk d + uptoBulkAll r
def uptoBulkEntries {H : Type} : List (Lit × DataW H) → Nat
  | [] => 0
  | x :: r => uptoBulkEntry x + uptoBulkEntries r
def uptoBulkEntry {H : Type} : Lit × DataW H → Nat
  | (.string bytes, d) => bytes.length + uptoBulk d + 1
  | (_, d) => uptoBulk d + 1
 end
def uptoSmall : (H : Type) → List (DataW H) → Bool := fun _ ds => decide (uptoBulkAll ds ≤ 1048576)
def OpenSpec.upto (s : _root_.Go.ChangeSpec) : _root_.Go.OpenSpec := { _root_.Go.OpenSpec.ofChange s with cond := some uptoSmall }

/-- 'parlourlaw16.LdiscLines', WHERE WHAT IT READS IS OF BULK AT MOST 1048576: true; the input reads as it did. -/
def ldiscLinesUptoRow : OpenClaim := { program := "ytggcampdkgfmgaagreat", sum := "0ecfb5f0691dbdf3cc68a5efc4104de6d5877531605bbe3c073e22d4bab754ff", func := "parlour/parlourlaw16.LdiscLines", spec := "ldiscLines", inPlace := ["internal/bytealg.MakeNoZero"], unfollowed := true, recurses := true, apart := false, narrowed := true }
def LdiscLinesUptoSaid : Prop := ldiscLinesUptoRow.holds Tryz.pinned (OpenSpec.upto ldiscLinesSpec)

/-- 'parlourlaw16.LdiscErases', WHERE WHAT IT READS IS OF BULK AT MOST 1048576: true; the input reads as it did. -/
def ldiscErasesUptoRow : OpenClaim := { program := "ytggcampdkgfmgaagreat", sum := "0ecfb5f0691dbdf3cc68a5efc4104de6d5877531605bbe3c073e22d4bab754ff", func := "parlour/parlourlaw16.LdiscErases", spec := "ldiscErases", inPlace := ["internal/bytealg.MakeNoZero"], unfollowed := true, recurses := true, apart := false, narrowed := true }
def LdiscErasesUptoSaid : Prop := ldiscErasesUptoRow.holds Tryz.pinned (OpenSpec.upto ldiscErasesSpec)

/-- 'parlourlaw16.LdiscSignals', WHERE WHAT IT READS IS OF BULK AT MOST 1048576: true; the input reads as it did. -/
def ldiscSignalsUptoRow : OpenClaim := { program := "ytggcampdkgfmgaagreat", sum := "0ecfb5f0691dbdf3cc68a5efc4104de6d5877531605bbe3c073e22d4bab754ff", func := "parlour/parlourlaw16.LdiscSignals", spec := "ldiscSignals", inPlace := ["internal/bytealg.MakeNoZero"], unfollowed := true, recurses := true, apart := false, narrowed := true }
def LdiscSignalsUptoSaid : Prop := ldiscSignalsUptoRow.holds Tryz.pinned (OpenSpec.upto ldiscSignalsSpec)

/-- 'parlourlaw16.LdiscRaw', WHERE WHAT IT READS IS OF BULK AT MOST 1048576: true; the input reads as it did. -/
def ldiscRawUptoRow : OpenClaim := { program := "ytggcampdkgfmgaagreat", sum := "0ecfb5f0691dbdf3cc68a5efc4104de6d5877531605bbe3c073e22d4bab754ff", func := "parlour/parlourlaw16.LdiscRaw", spec := "ldiscRaw", inPlace := ["internal/bytealg.MakeNoZero"], unfollowed := true, recurses := true, apart := false, narrowed := true }
def LdiscRawUptoSaid : Prop := ldiscRawUptoRow.holds Tryz.pinned (OpenSpec.upto ldiscRawSpec)

/-- 'parlourlaw16.LdiscBounds', WHERE WHAT IT READS IS OF BULK AT MOST 1048576: true; the input reads as it did. -/
def ldiscBoundsUptoRow : OpenClaim := { program := "ytggcampdkgfmgaagreat", sum := "0ecfb5f0691dbdf3cc68a5efc4104de6d5877531605bbe3c073e22d4bab754ff", func := "parlour/parlourlaw16.LdiscBounds", spec := "ldiscBounds", inPlace := ["internal/bytealg.MakeNoZero"], unfollowed := true, recurses := true, apart := false, narrowed := true }
def LdiscBoundsUptoSaid : Prop := ldiscBoundsUptoRow.holds Tryz.pinned (OpenSpec.upto ldiscBoundsSpec)

/-- 'parlourlaw16.LdiscWrites', WHERE WHAT IT READS IS OF BULK AT MOST 1048576: true; the input reads as it did. -/
def ldiscWritesUptoRow : OpenClaim := { program := "ytggcampdkgfmgaagreat", sum := "0ecfb5f0691dbdf3cc68a5efc4104de6d5877531605bbe3c073e22d4bab754ff", func := "parlour/parlourlaw16.LdiscWrites", spec := "ldiscWrites", inPlace := ["internal/bytealg.MakeNoZero"], unfollowed := true, recurses := true, apart := false, narrowed := true }
def LdiscWritesUptoSaid : Prop := ldiscWritesUptoRow.holds Tryz.pinned (OpenSpec.upto ldiscWritesSpec)

/-- 'parlourlaw17.PtyEnds', WHERE WHAT IT READS IS OF BULK AT MOST 1048576: true; the input reads as it did. -/
def ptyEndsUptoRow : OpenClaim := { program := "ytggcampdkgfmgaagreat", sum := "0ecfb5f0691dbdf3cc68a5efc4104de6d5877531605bbe3c073e22d4bab754ff", func := "parlour/parlourlaw17.PtyEnds", spec := "ptyEnds", inPlace := ["internal/bytealg.MakeNoZero"], unfollowed := true, recurses := true, apart := false, narrowed := true }
def PtyEndsUptoSaid : Prop := ptyEndsUptoRow.holds Tryz.pinned (OpenSpec.upto ptyEndsSpec)

/-- 'parlourlaw17.PtyHung', WHERE WHAT IT READS IS OF BULK AT MOST 1048576: true; the input reads as it did. -/
def ptyHungUptoRow : OpenClaim := { program := "ytggcampdkgfmgaagreat", sum := "0ecfb5f0691dbdf3cc68a5efc4104de6d5877531605bbe3c073e22d4bab754ff", func := "parlour/parlourlaw17.PtyHung", spec := "ptyHung", inPlace := ["internal/bytealg.MakeNoZero"], unfollowed := true, recurses := true, apart := false, narrowed := true }
def PtyHungUptoSaid : Prop := ptyHungUptoRow.holds Tryz.pinned (OpenSpec.upto ptyHungSpec)

/-- 'parlourlaw17.PtyEvents', WHERE WHAT IT READS IS OF BULK AT MOST 1048576: true; the input reads as it did. -/
def ptyEventsUptoRow : OpenClaim := { program := "ytggcampdkgfmgaagreat", sum := "0ecfb5f0691dbdf3cc68a5efc4104de6d5877531605bbe3c073e22d4bab754ff", func := "parlour/parlourlaw17.PtyEvents", spec := "ptyEvents", inPlace := ["internal/bytealg.MakeNoZero"], unfollowed := true, recurses := true, apart := false, narrowed := true }
def PtyEventsUptoSaid : Prop := ptyEventsUptoRow.holds Tryz.pinned (OpenSpec.upto ptyEventsSpec)

/-- 'parlourlaw17.PtySizes', WHERE WHAT IT READS IS OF BULK AT MOST 1048576: true; the input reads as it did. -/
def ptySizesUptoRow : OpenClaim := { program := "ytggcampdkgfmgaagreat", sum := "0ecfb5f0691dbdf3cc68a5efc4104de6d5877531605bbe3c073e22d4bab754ff", func := "parlour/parlourlaw17.PtySizes", spec := "ptySizes", inPlace := ["internal/bytealg.MakeNoZero"], unfollowed := true, recurses := true, apart := false, narrowed := true }
def PtySizesUptoSaid : Prop := ptySizesUptoRow.holds Tryz.pinned (OpenSpec.upto ptySizesSpec)

/-- 'parlourtop.TopTyped', WHERE WHAT IT READS IS OF BULK AT MOST 1048576: true; the input reads as it did. -/
def topTypedUptoRow : OpenClaim := { program := "ytggcampdkgfmgaagreat", sum := "0ecfb5f0691dbdf3cc68a5efc4104de6d5877531605bbe3c073e22d4bab754ff", func := "parlour/parlourtop.TopTyped", spec := "topTyped", inPlace := ["internal/abi.NoEscape", "internal/bytealg.MakeNoZero"], unfollowed := true, recurses := true, apart := false, narrowed := true }
def TopTypedUptoSaid : Prop := topTypedUptoRow.holds Tryz.pinned (OpenSpec.upto topTypedSpec)

/-- 'parlourtop.TopKilled', WHERE WHAT IT READS IS OF BULK AT MOST 1048576: true; the input reads as it did. -/
def topKilledUptoRow : OpenClaim := { program := "ytggcampdkgfmgaagreat", sum := "0ecfb5f0691dbdf3cc68a5efc4104de6d5877531605bbe3c073e22d4bab754ff", func := "parlour/parlourtop.TopKilled", spec := "topKilled", inPlace := ["internal/abi.NoEscape", "internal/bytealg.MakeNoZero"], unfollowed := true, recurses := true, apart := false, narrowed := true }
def TopKilledUptoSaid : Prop := topKilledUptoRow.holds Tryz.pinned (OpenSpec.upto topKilledSpec)

end Rows
end Go.Proofs.YtggcampdkgfmgaaGreat
