/-
  No cell of these rows narrows 'for every input' (looked for: loops, veiled, ifaces, maps, wideKeys, modest, calm, conditions, laid).
  DERIVED. THE GIVEN ROWS OF THIS SEAT. 6 by the template 'for every input the law returns true; each argument reads behind the call as it read before'; 0 by the template 'total and deterministic' (their statements: YtinlkhboeajljaaGreatTotals.lean).
  GIVEN WITH THE SEED: the statements are not yours to turn. If you find one false, say at which input.
  Laid BY PROGRAM, IN A SANDBOX (cutbox-rows.mjs): the forced cells as the released guide's own fill.sh prints them over the translation f069d60e94f1187a… (all of the seat's roots in one cut). By AI agents, Wed Nov 11 2026. No macro, syntax, notation, axiom, sorry.
-/
import Derived.Test.YtinlkhboeajljaaGreatChecked
import GoSem.Claim
import GoSem.ClaimJoined
import GoSem.ClaimMapViews
import Derived.JoinedTies
import Derived.KernelRfl
namespace Go.Proofs.YtinlkhboeajljaaGreat
/- THE CELL 'sum', in the pinned program and in every row, IS THE sha256 OF THE DUMP (.gsa) THAT YtinlkhboeajljaaGreatProg.lean LOADS. Nothing in Lean hashes anything: it is a label: what it is worth is what the hold of that sum in a sandbox is worth. -/
noncomputable def Tryz.pinned : Pinned := { name := "ytinlkhboeajljaagreat", sum := "f069d60e94f1187a61ded962b30860dbe8f35722762ab26cbdd798db53725463", checked := Tryz.checked }
namespace Rows
def none {H : Type} : Left H := { results := [], args := [] }

/-- 'parlourlaw16.LdiscLines': WHATEVER THE INPUT: true; the input reads as it did. -/
def ldiscLinesSpec : ChangeSpec := { name := "ldiscLines", fn := fun _ => fun
  | [d1, d2, d3] => { results := [.lit (.bool true)], args := [d1, d2, d3] }
  | _ => none }
def ldiscLinesRow : OpenClaim := { program := "ytinlkhboeajljaagreat", sum := "f069d60e94f1187a61ded962b30860dbe8f35722762ab26cbdd798db53725463", func := "parlour/parlourlaw16.LdiscLines", spec := "ldiscLines", inPlace := ["internal/bytealg.MakeNoZero"], unfollowed := true, recurses := true, apart := false }
def LdiscLinesSaid : Prop := ldiscLinesRow.holds Tryz.pinned (OpenSpec.ofChange ldiscLinesSpec)

/-- ITS FALSE NEIGHBOUR: 'it returns false'. Refute it at one input. -/
def ldiscLinesWrong : ChangeSpec := { name := "ldiscLines", fn := fun _ => fun
  | [d1, d2, d3] => { results := [.lit (.bool false)], args := [d1, d2, d3] }
  | _ => none }
def LdiscLinesWrongFalsely : Prop := ldiscLinesRow.holds Tryz.pinned (OpenSpec.ofChange ldiscLinesWrong)

/-- 'parlourlaw16.LdiscErases': WHATEVER THE INPUT: true; the input reads as it did. -/
def ldiscErasesSpec : ChangeSpec := { name := "ldiscErases", fn := fun _ => fun
  | [d1, d2] => { results := [.lit (.bool true)], args := [d1, d2] }
  | _ => none }
def ldiscErasesRow : OpenClaim := { program := "ytinlkhboeajljaagreat", sum := "f069d60e94f1187a61ded962b30860dbe8f35722762ab26cbdd798db53725463", func := "parlour/parlourlaw16.LdiscErases", spec := "ldiscErases", inPlace := ["internal/bytealg.MakeNoZero"], unfollowed := true, recurses := true, apart := false }
def LdiscErasesSaid : Prop := ldiscErasesRow.holds Tryz.pinned (OpenSpec.ofChange ldiscErasesSpec)

/-- ITS FALSE NEIGHBOUR: 'it returns false'. Refute it at one input. -/
def ldiscErasesWrong : ChangeSpec := { name := "ldiscErases", fn := fun _ => fun
  | [d1, d2] => { results := [.lit (.bool false)], args := [d1, d2] }
  | _ => none }
def LdiscErasesWrongFalsely : Prop := ldiscErasesRow.holds Tryz.pinned (OpenSpec.ofChange ldiscErasesWrong)

/-- 'parlourlaw16.LdiscSignals': WHATEVER THE INPUT: true; the input reads as it did. -/
def ldiscSignalsSpec : ChangeSpec := { name := "ldiscSignals", fn := fun _ => fun
  | [d1, d2] => { results := [.lit (.bool true)], args := [d1, d2] }
  | _ => none }
def ldiscSignalsRow : OpenClaim := { program := "ytinlkhboeajljaagreat", sum := "f069d60e94f1187a61ded962b30860dbe8f35722762ab26cbdd798db53725463", func := "parlour/parlourlaw16.LdiscSignals", spec := "ldiscSignals", inPlace := ["internal/bytealg.MakeNoZero"], unfollowed := true, recurses := true, apart := false }
def LdiscSignalsSaid : Prop := ldiscSignalsRow.holds Tryz.pinned (OpenSpec.ofChange ldiscSignalsSpec)

/-- ITS FALSE NEIGHBOUR: 'it returns false'. Refute it at one input. -/
def ldiscSignalsWrong : ChangeSpec := { name := "ldiscSignals", fn := fun _ => fun
  | [d1, d2] => { results := [.lit (.bool false)], args := [d1, d2] }
  | _ => none }
def LdiscSignalsWrongFalsely : Prop := ldiscSignalsRow.holds Tryz.pinned (OpenSpec.ofChange ldiscSignalsWrong)

/-- 'parlourlaw16.LdiscRaw': WHATEVER THE INPUT: true; the input reads as it did. -/
def ldiscRawSpec : ChangeSpec := { name := "ldiscRaw", fn := fun _ => fun
  | [d1, d2, d3] => { results := [.lit (.bool true)], args := [d1, d2, d3] }
  | _ => none }
def ldiscRawRow : OpenClaim := { program := "ytinlkhboeajljaagreat", sum := "f069d60e94f1187a61ded962b30860dbe8f35722762ab26cbdd798db53725463", func := "parlour/parlourlaw16.LdiscRaw", spec := "ldiscRaw", inPlace := ["internal/bytealg.MakeNoZero"], unfollowed := true, recurses := true, apart := false }
def LdiscRawSaid : Prop := ldiscRawRow.holds Tryz.pinned (OpenSpec.ofChange ldiscRawSpec)

/-- ITS FALSE NEIGHBOUR: 'it returns false'. Refute it at one input. -/
def ldiscRawWrong : ChangeSpec := { name := "ldiscRaw", fn := fun _ => fun
  | [d1, d2, d3] => { results := [.lit (.bool false)], args := [d1, d2, d3] }
  | _ => none }
def LdiscRawWrongFalsely : Prop := ldiscRawRow.holds Tryz.pinned (OpenSpec.ofChange ldiscRawWrong)

/-- 'parlourlaw16.LdiscBounds': WHATEVER THE INPUT: true; the input reads as it did. -/
def ldiscBoundsSpec : ChangeSpec := { name := "ldiscBounds", fn := fun _ => fun
  | [d1, d2] => { results := [.lit (.bool true)], args := [d1, d2] }
  | _ => none }
def ldiscBoundsRow : OpenClaim := { program := "ytinlkhboeajljaagreat", sum := "f069d60e94f1187a61ded962b30860dbe8f35722762ab26cbdd798db53725463", func := "parlour/parlourlaw16.LdiscBounds", spec := "ldiscBounds", inPlace := ["internal/bytealg.MakeNoZero"], unfollowed := true, recurses := true, apart := false }
def LdiscBoundsSaid : Prop := ldiscBoundsRow.holds Tryz.pinned (OpenSpec.ofChange ldiscBoundsSpec)

/-- ITS FALSE NEIGHBOUR: 'it returns false'. Refute it at one input. -/
def ldiscBoundsWrong : ChangeSpec := { name := "ldiscBounds", fn := fun _ => fun
  | [d1, d2] => { results := [.lit (.bool false)], args := [d1, d2] }
  | _ => none }
def LdiscBoundsWrongFalsely : Prop := ldiscBoundsRow.holds Tryz.pinned (OpenSpec.ofChange ldiscBoundsWrong)

/-- 'parlourlaw16.LdiscWrites': WHATEVER THE INPUT: true; the input reads as it did. -/
def ldiscWritesSpec : ChangeSpec := { name := "ldiscWrites", fn := fun _ => fun
  | [d] => { results := [.lit (.bool true)], args := [d] }
  | _ => none }
def ldiscWritesRow : OpenClaim := { program := "ytinlkhboeajljaagreat", sum := "f069d60e94f1187a61ded962b30860dbe8f35722762ab26cbdd798db53725463", func := "parlour/parlourlaw16.LdiscWrites", spec := "ldiscWrites", inPlace := ["internal/bytealg.MakeNoZero"], unfollowed := true, recurses := true, apart := false }
def LdiscWritesSaid : Prop := ldiscWritesRow.holds Tryz.pinned (OpenSpec.ofChange ldiscWritesSpec)

/-- ITS FALSE NEIGHBOUR: 'it returns false'. Refute it at one input. -/
def ldiscWritesWrong : ChangeSpec := { name := "ldiscWrites", fn := fun _ => fun
  | [d] => { results := [.lit (.bool false)], args := [d] }
  | _ => none }
def LdiscWritesWrongFalsely : Prop := ldiscWritesRow.holds Tryz.pinned (OpenSpec.ofChange ldiscWritesWrong)

/- THE SECOND FORM. 'bulk': how many values and letters a reading holds, each counted each time it is reached (what is shared counts as often as it is met; a slice's spare places count too). A statement '..UptoSaid' is the law's where the arguments, and the package variables that the reading takes, are together of bulk at most 1048576: NARROWER than '..Said'. Prove '..Said' where nothing that the law and all that it calls make is longer than what came in: it says more and counts as full. Else prove '..UptoSaid'. A law counts once. -/
mutual
def uptoBulk {H : Type} : DataW H → Nat
  | .lit (.string bytes) => bytes.length + 1
  | .lit _ => 1
  | .nil => 1
  | .ptr d => uptoBulk d + 1
  | .slice elems spare => uptoBulkAll elems + uptoBulkAll spare + 1
  | .agg parts => uptoBulkAll parts + 1
  | .iface _ d => uptoBulk d + 1
  | .map entries => uptoBulkEntries entries + 1
  | .held _ => 1
def uptoBulkAll {H : Type} : List (DataW H) → Nat
  | [] => 0
  | d :: r => uptoBulk d + uptoBulkAll r
def uptoBulkEntries {H : Type} : List (Lit × DataW H) → Nat
  | [] => 0
  | x :: r => uptoBulkEntry x + uptoBulkEntries r
def uptoBulkEntry {H : Type} : Lit × DataW H → Nat
  | (.string bytes, d) => bytes.length + uptoBulk d + 1
  | (_, d) => uptoBulk d + 1
 end
def uptoSmall : (H : Type) → List (DataW H) → Bool := fun _ ds => decide (uptoBulkAll ds ≤ 1048576)
def OpenSpec.upto (s : _root_.Go.ChangeSpec) : _root_.Go.OpenSpec := { _root_.Go.OpenSpec.ofChange s with cond := some uptoSmall }

/-- 'parlourlaw16.LdiscLines', WHERE WHAT IT READS IS OF BULK AT MOST 1048576: true; the input reads as it did. -/
def ldiscLinesUptoRow : OpenClaim := { program := "ytinlkhboeajljaagreat", sum := "f069d60e94f1187a61ded962b30860dbe8f35722762ab26cbdd798db53725463", func := "parlour/parlourlaw16.LdiscLines", spec := "ldiscLines", inPlace := ["internal/bytealg.MakeNoZero"], unfollowed := true, recurses := true, apart := false, narrowed := true }
def LdiscLinesUptoSaid : Prop := ldiscLinesUptoRow.holds Tryz.pinned (OpenSpec.upto ldiscLinesSpec)

/-- 'parlourlaw16.LdiscErases', WHERE WHAT IT READS IS OF BULK AT MOST 1048576: true; the input reads as it did. -/
def ldiscErasesUptoRow : OpenClaim := { program := "ytinlkhboeajljaagreat", sum := "f069d60e94f1187a61ded962b30860dbe8f35722762ab26cbdd798db53725463", func := "parlour/parlourlaw16.LdiscErases", spec := "ldiscErases", inPlace := ["internal/bytealg.MakeNoZero"], unfollowed := true, recurses := true, apart := false, narrowed := true }
def LdiscErasesUptoSaid : Prop := ldiscErasesUptoRow.holds Tryz.pinned (OpenSpec.upto ldiscErasesSpec)

/-- 'parlourlaw16.LdiscSignals', WHERE WHAT IT READS IS OF BULK AT MOST 1048576: true; the input reads as it did. -/
def ldiscSignalsUptoRow : OpenClaim := { program := "ytinlkhboeajljaagreat", sum := "f069d60e94f1187a61ded962b30860dbe8f35722762ab26cbdd798db53725463", func := "parlour/parlourlaw16.LdiscSignals", spec := "ldiscSignals", inPlace := ["internal/bytealg.MakeNoZero"], unfollowed := true, recurses := true, apart := false, narrowed := true }
def LdiscSignalsUptoSaid : Prop := ldiscSignalsUptoRow.holds Tryz.pinned (OpenSpec.upto ldiscSignalsSpec)

/-- 'parlourlaw16.LdiscRaw', WHERE WHAT IT READS IS OF BULK AT MOST 1048576: true; the input reads as it did. -/
def ldiscRawUptoRow : OpenClaim := { program := "ytinlkhboeajljaagreat", sum := "f069d60e94f1187a61ded962b30860dbe8f35722762ab26cbdd798db53725463", func := "parlour/parlourlaw16.LdiscRaw", spec := "ldiscRaw", inPlace := ["internal/bytealg.MakeNoZero"], unfollowed := true, recurses := true, apart := false, narrowed := true }
def LdiscRawUptoSaid : Prop := ldiscRawUptoRow.holds Tryz.pinned (OpenSpec.upto ldiscRawSpec)

/-- 'parlourlaw16.LdiscBounds', WHERE WHAT IT READS IS OF BULK AT MOST 1048576: true; the input reads as it did. -/
def ldiscBoundsUptoRow : OpenClaim := { program := "ytinlkhboeajljaagreat", sum := "f069d60e94f1187a61ded962b30860dbe8f35722762ab26cbdd798db53725463", func := "parlour/parlourlaw16.LdiscBounds", spec := "ldiscBounds", inPlace := ["internal/bytealg.MakeNoZero"], unfollowed := true, recurses := true, apart := false, narrowed := true }
def LdiscBoundsUptoSaid : Prop := ldiscBoundsUptoRow.holds Tryz.pinned (OpenSpec.upto ldiscBoundsSpec)

/-- 'parlourlaw16.LdiscWrites', WHERE WHAT IT READS IS OF BULK AT MOST 1048576: true; the input reads as it did. -/
def ldiscWritesUptoRow : OpenClaim := { program := "ytinlkhboeajljaagreat", sum := "f069d60e94f1187a61ded962b30860dbe8f35722762ab26cbdd798db53725463", func := "parlour/parlourlaw16.LdiscWrites", spec := "ldiscWrites", inPlace := ["internal/bytealg.MakeNoZero"], unfollowed := true, recurses := true, apart := false, narrowed := true }
def LdiscWritesUptoSaid : Prop := ldiscWritesUptoRow.holds Tryz.pinned (OpenSpec.upto ldiscWritesSpec)

end Rows
end Go.Proofs.YtinlkhboeajljaaGreat
