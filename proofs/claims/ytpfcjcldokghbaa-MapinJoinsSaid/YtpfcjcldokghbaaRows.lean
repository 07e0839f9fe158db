/-
  No cell of these rows narrows 'for every input' (looked for: loops, veiled, ifaces, maps, wideKeys, modest, calm, conditions, laid).
  DERIVED. THE GIVEN ROWS OF THIS SEAT. 4 by the template 'for every input the law returns true; each argument reads behind the call as it read before'; 0 by the template 'total and deterministic' (their statements: YtpfcjcldokghbaaTotals.lean).
  GIVEN WITH THE SEED: the statements are not yours to turn. If you find one false, say at which input.
  Laid BY PROGRAM, IN A SANDBOX (cutbox-rows.mjs): the forced cells as the released guide's own fill.sh prints them over the translation 37c34cd81e8cfc9e… (all of the seat's roots in one cut). By AI agents, Wed Nov 11 2026. No macro, syntax, notation, axiom, sorry.
-/
import Derived.Test.YtpfcjcldokghbaaChecked
import GoSem.Claim
import GoSem.ClaimJoined
import GoSem.ClaimMapViews
import Derived.JoinedTies
import Derived.KernelRfl
namespace Go.Proofs.Ytpfcjcldokghbaa
/- THE CELL 'sum', in the pinned program and in every row, IS THE sha256 OF THE DUMP (.gsa) THAT YtpfcjcldokghbaaProg.lean LOADS. Nothing in Lean hashes anything: it is a label: what it is worth is what the hold of that sum in a sandbox is worth. -/
noncomputable def Try.pinned : Pinned := { name := "ytpfcjcldokghbaa", sum := "37c34cd81e8cfc9e4aba9ef49574d2dfb2a7abec1167bfa330bad3d720be3679", checked := Try.checked }
namespace Rows
def none {H : Type} : Left H := { results := [], args := [] }

/-- 'parlourlaw09.MapinIs': WHATEVER THE INPUT: true; the input reads as it did. -/
def mapinIsSpec : ChangeSpec := { name := "mapinIs", fn := fun _ => fun
  | [d1, d2] => { results := [.lit (.bool true)], args := [d1, d2] }
  | _ => none }
def mapinIsRow : OpenClaim := { program := "ytpfcjcldokghbaa", sum := "37c34cd81e8cfc9e4aba9ef49574d2dfb2a7abec1167bfa330bad3d720be3679", func := "parlour/parlourlaw09.MapinIs", spec := "mapinIs", unfollowed := true, recurses := true, apart := false }
def MapinIsSaid : Prop := mapinIsRow.holds Try.pinned (OpenSpec.ofChange mapinIsSpec)

/-- ITS FALSE NEIGHBOUR: 'it returns false'. Refute it at one input. -/
def mapinIsWrong : ChangeSpec := { name := "mapinIs", fn := fun _ => fun
  | [d1, d2] => { results := [.lit (.bool false)], args := [d1, d2] }
  | _ => none }
def MapinIsWrongFalsely : Prop := mapinIsRow.holds Try.pinned (OpenSpec.ofChange mapinIsWrong)

/-- 'parlourlaw09.MapinMaps': WHATEVER THE INPUT: true; the input reads as it did. -/
def mapinMapsSpec : ChangeSpec := { name := "mapinMaps", fn := fun _ => fun
  | [d1, d2] => { results := [.lit (.bool true)], args := [d1, d2] }
  | _ => none }
def mapinMapsRow : OpenClaim := { program := "ytpfcjcldokghbaa", sum := "37c34cd81e8cfc9e4aba9ef49574d2dfb2a7abec1167bfa330bad3d720be3679", func := "parlour/parlourlaw09.MapinMaps", spec := "mapinMaps", unfollowed := true, recurses := true, apart := false }
def MapinMapsSaid : Prop := mapinMapsRow.holds Try.pinned (OpenSpec.ofChange mapinMapsSpec)

/-- ITS FALSE NEIGHBOUR: 'it returns false'. Refute it at one input. -/
def mapinMapsWrong : ChangeSpec := { name := "mapinMaps", fn := fun _ => fun
  | [d1, d2] => { results := [.lit (.bool false)], args := [d1, d2] }
  | _ => none }
def MapinMapsWrongFalsely : Prop := mapinMapsRow.holds Try.pinned (OpenSpec.ofChange mapinMapsWrong)

/-- 'parlourlaw09.MapinPlain': WHATEVER THE INPUT: true; the input reads as it did. -/
def mapinPlainSpec : ChangeSpec := { name := "mapinPlain", fn := fun _ => fun
  | [d1, d2] => { results := [.lit (.bool true)], args := [d1, d2] }
  | _ => none }
def mapinPlainRow : OpenClaim := { program := "ytpfcjcldokghbaa", sum := "37c34cd81e8cfc9e4aba9ef49574d2dfb2a7abec1167bfa330bad3d720be3679", func := "parlour/parlourlaw09.MapinPlain", spec := "mapinPlain", unfollowed := true, recurses := true, apart := false }
def MapinPlainSaid : Prop := mapinPlainRow.holds Try.pinned (OpenSpec.ofChange mapinPlainSpec)

/-- ITS FALSE NEIGHBOUR: 'it returns false'. Refute it at one input. -/
def mapinPlainWrong : ChangeSpec := { name := "mapinPlain", fn := fun _ => fun
  | [d1, d2] => { results := [.lit (.bool false)], args := [d1, d2] }
  | _ => none }
def MapinPlainWrongFalsely : Prop := mapinPlainRow.holds Try.pinned (OpenSpec.ofChange mapinPlainWrong)

/-- 'parlourlaw09.MapinJoins': WHATEVER THE INPUT: true; the input reads as it did. -/
def mapinJoinsSpec : ChangeSpec := { name := "mapinJoins", fn := fun _ => fun
  | [d] => { results := [.lit (.bool true)], args := [d] }
  | _ => none }
def mapinJoinsRow : OpenClaim := { program := "ytpfcjcldokghbaa", sum := "37c34cd81e8cfc9e4aba9ef49574d2dfb2a7abec1167bfa330bad3d720be3679", func := "parlour/parlourlaw09.MapinJoins", spec := "mapinJoins", unfollowed := true, recurses := true, apart := false }
def MapinJoinsSaid : Prop := mapinJoinsRow.holds Try.pinned (OpenSpec.ofChange mapinJoinsSpec)

/-- ITS FALSE NEIGHBOUR: 'it returns false'. Refute it at one input. -/
def mapinJoinsWrong : ChangeSpec := { name := "mapinJoins", fn := fun _ => fun
  | [d] => { results := [.lit (.bool false)], args := [d] }
  | _ => none }
def MapinJoinsWrongFalsely : Prop := mapinJoinsRow.holds Try.pinned (OpenSpec.ofChange mapinJoinsWrong)

/- THE SECOND FORM. 'bulk': how many values and letters a reading holds, each counted each time it is reached (what is shared counts as often as it is met; a slice's spare places count too). A statement '..UptoSaid' is the law's where the arguments, and the package variables that the reading takes, are together of bulk at most 1048576: NARROWER than '..Said'. Prove '..Said' where nothing that the law and all that it calls make is longer than what came in: it says more and counts as full. Else prove '..UptoSaid'. A law counts once. -/
mutual
def uptoBulk {H : Type} : DataW H → Nat
  | .lit (.string bytes) => bytes.length + 1
  | .lit _ => 1
  | .nil => 1
  | .ptr d => uptoBulk d + 1
  | .slice elems spare => uptoBulkAll elems + uptoBulkAll spare + 1
  | .agg parts => uptoBulkAll parts + 1
  | .iface _ d => uptoBulk d + 1
  | .map entries => uptoBulkEntries entries + 1
  | .held _ => 1
def uptoBulkAll {H : Type} : List (DataW H) → Nat
  | [] => 0
  | d :: r => uptoBulk d + uptoBulkAll r
def uptoBulkEntries {H : Type} : List (Lit × DataW H) → Nat
  | [] => 0
  | x :: r => uptoBulkEntry x + uptoBulkEntries r
def uptoBulkEntry {H : Type} : Lit × DataW H → Nat
  | (.string bytes, d) => bytes.length + uptoBulk d + 1
  | (_, d) => uptoBulk d + 1
 end
def uptoSmall : (H : Type) → List (DataW H) → Bool := fun _ ds => decide (uptoBulkAll ds ≤ 1048576)
def OpenSpec.upto (s : _root_.Go.ChangeSpec) : _root_.Go.OpenSpec := { _root_.Go.OpenSpec.ofChange s with cond := some uptoSmall }

/-- 'parlourlaw09.MapinIs', WHERE WHAT IT READS IS OF BULK AT MOST 1048576: true; the input reads as it did. -/
def mapinIsUptoRow : OpenClaim := { program := "ytpfcjcldokghbaa", sum := "37c34cd81e8cfc9e4aba9ef49574d2dfb2a7abec1167bfa330bad3d720be3679", func := "parlour/parlourlaw09.MapinIs", spec := "mapinIs", unfollowed := true, recurses := true, apart := false, narrowed := true }
def MapinIsUptoSaid : Prop := mapinIsUptoRow.holds Try.pinned (OpenSpec.upto mapinIsSpec)

/-- 'parlourlaw09.MapinMaps', WHERE WHAT IT READS IS OF BULK AT MOST 1048576: true; the input reads as it did. -/
def mapinMapsUptoRow : OpenClaim := { program := "ytpfcjcldokghbaa", sum := "37c34cd81e8cfc9e4aba9ef49574d2dfb2a7abec1167bfa330bad3d720be3679", func := "parlour/parlourlaw09.MapinMaps", spec := "mapinMaps", unfollowed := true, recurses := true, apart := false, narrowed := true }
def MapinMapsUptoSaid : Prop := mapinMapsUptoRow.holds Try.pinned (OpenSpec.upto mapinMapsSpec)

/-- 'parlourlaw09.MapinPlain', WHERE WHAT IT READS IS OF BULK AT MOST 1048576: true; the input reads as it did. -/
def mapinPlainUptoRow : OpenClaim := { program := "ytpfcjcldokghbaa", sum := "37c34cd81e8cfc9e4aba9ef49574d2dfb2a7abec1167bfa330bad3d720be3679", func := "parlour/parlourlaw09.MapinPlain", spec := "mapinPlain", unfollowed := true, recurses := true, apart := false, narrowed := true }
def MapinPlainUptoSaid : Prop := mapinPlainUptoRow.holds Try.pinned (OpenSpec.upto mapinPlainSpec)

/-- 'parlourlaw09.MapinJoins', WHERE WHAT IT READS IS OF BULK AT MOST 1048576: true; the input reads as it did. -/
def mapinJoinsUptoRow : OpenClaim := { program := "ytpfcjcldokghbaa", sum := "37c34cd81e8cfc9e4aba9ef49574d2dfb2a7abec1167bfa330bad3d720be3679", func := "parlour/parlourlaw09.MapinJoins", spec := "mapinJoins", unfollowed := true, recurses := true, apart := false, narrowed := true }
def MapinJoinsUptoSaid : Prop := mapinJoinsUptoRow.holds Try.pinned (OpenSpec.upto mapinJoinsSpec)

end Rows
end Go.Proofs.Ytpfcjcldokghbaa
