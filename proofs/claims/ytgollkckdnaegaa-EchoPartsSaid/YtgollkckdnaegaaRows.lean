/-
  No cell of these rows narrows 'for every input' (looked for: loops, veiled, ifaces, maps, wideKeys, modest, calm, conditions, laid).
  DERIVED. THE GIVEN ROWS OF THIS SEAT. 5 by the template 'for every input the law returns true; each argument reads behind the call as it read before'; 0 by the template 'total and deterministic' (their statements: YtgollkckdnaegaaTotals.lean).
  GIVEN WITH THE SEED: the statements are not yours to turn. If you find one false, say at which input.
  Laid BY PROGRAM, IN A SANDBOX (cutbox-rows.mjs): the forced cells as the released guide's own fill.sh prints them over the translation 8763aa2e22479501… (all of the seat's roots in one cut). By AI agents, Wed Nov 11 2026. No macro, syntax, notation, axiom, sorry.
-/
import Derived.Test.YtgollkckdnaegaaChecked
import GoSem.Claim
import GoSem.ClaimJoined
import GoSem.ClaimMapViews
import Derived.JoinedTies
import Derived.KernelRfl
namespace Go.Proofs.Ytgollkckdnaegaa
/- THE CELL 'sum', in the pinned program and in every row, IS THE sha256 OF THE DUMP (.gsa) THAT YtgollkckdnaegaaProg.lean LOADS. Nothing in Lean hashes anything: it is a label: what it is worth is what the hold of that sum in a sandbox is worth. -/
noncomputable def Try.pinned : Pinned := { name := "ytgollkckdnaegaa", sum := "8763aa2e224795016d22dbfc4178c7aef3d06eb126b02d283637de503d82724e", checked := Try.checked }
namespace Rows
def none {H : Type} : Left H := { results := [], args := [] }

/-- 'parlourlaw11.EchoShows': WHATEVER THE INPUT: true; the input reads as it did. -/
def echoShowsSpec : ChangeSpec := { name := "echoShows", fn := fun _ => fun
  | [d1, d2] => { results := [.lit (.bool true)], args := [d1, d2] }
  | _ => none }
def echoShowsRow : OpenClaim := { program := "ytgollkckdnaegaa", sum := "8763aa2e224795016d22dbfc4178c7aef3d06eb126b02d283637de503d82724e", func := "parlour/parlourlaw11.EchoShows", spec := "echoShows", inPlace := ["internal/bytealg.MakeNoZero"], unfollowed := true, recurses := true, apart := false }
def EchoShowsSaid : Prop := echoShowsRow.holds Try.pinned (OpenSpec.ofChange echoShowsSpec)

/-- ITS FALSE NEIGHBOUR: 'it returns false'. Refute it at one input. -/
def echoShowsWrong : ChangeSpec := { name := "echoShows", fn := fun _ => fun
  | [d1, d2] => { results := [.lit (.bool false)], args := [d1, d2] }
  | _ => none }
def EchoShowsWrongFalsely : Prop := echoShowsRow.holds Try.pinned (OpenSpec.ofChange echoShowsWrong)

/-- 'parlourlaw11.EchoCols': WHATEVER THE INPUT: true; the input reads as it did. -/
def echoColsSpec : ChangeSpec := { name := "echoCols", fn := fun _ => fun
  | [d1, d2, d3] => { results := [.lit (.bool true)], args := [d1, d2, d3] }
  | _ => none }
def echoColsRow : OpenClaim := { program := "ytgollkckdnaegaa", sum := "8763aa2e224795016d22dbfc4178c7aef3d06eb126b02d283637de503d82724e", func := "parlour/parlourlaw11.EchoCols", spec := "echoCols", inPlace := ["internal/bytealg.MakeNoZero"], unfollowed := true, recurses := true, apart := false }
def EchoColsSaid : Prop := echoColsRow.holds Try.pinned (OpenSpec.ofChange echoColsSpec)

/-- ITS FALSE NEIGHBOUR: 'it returns false'. Refute it at one input. -/
def echoColsWrong : ChangeSpec := { name := "echoCols", fn := fun _ => fun
  | [d1, d2, d3] => { results := [.lit (.bool false)], args := [d1, d2, d3] }
  | _ => none }
def EchoColsWrongFalsely : Prop := echoColsRow.holds Try.pinned (OpenSpec.ofChange echoColsWrong)

/-- 'parlourlaw11.EchoRubs': WHATEVER THE INPUT: true; the input reads as it did. -/
def echoRubsSpec : ChangeSpec := { name := "echoRubs", fn := fun _ => fun
  | [d] => { results := [.lit (.bool true)], args := [d] }
  | _ => none }
def echoRubsRow : OpenClaim := { program := "ytgollkckdnaegaa", sum := "8763aa2e224795016d22dbfc4178c7aef3d06eb126b02d283637de503d82724e", func := "parlour/parlourlaw11.EchoRubs", spec := "echoRubs", inPlace := ["internal/bytealg.MakeNoZero"], unfollowed := true, recurses := true, apart := false }
def EchoRubsSaid : Prop := echoRubsRow.holds Try.pinned (OpenSpec.ofChange echoRubsSpec)

/-- ITS FALSE NEIGHBOUR: 'it returns false'. Refute it at one input. -/
def echoRubsWrong : ChangeSpec := { name := "echoRubs", fn := fun _ => fun
  | [d] => { results := [.lit (.bool false)], args := [d] }
  | _ => none }
def EchoRubsWrongFalsely : Prop := echoRubsRow.holds Try.pinned (OpenSpec.ofChange echoRubsWrong)

/-- 'parlourlaw11.EchoSigns': WHATEVER THE INPUT: true; the input reads as it did. -/
def echoSignsSpec : ChangeSpec := { name := "echoSigns", fn := fun _ => fun
  | [d1, d2] => { results := [.lit (.bool true)], args := [d1, d2] }
  | _ => none }
def echoSignsRow : OpenClaim := { program := "ytgollkckdnaegaa", sum := "8763aa2e224795016d22dbfc4178c7aef3d06eb126b02d283637de503d82724e", func := "parlour/parlourlaw11.EchoSigns", spec := "echoSigns", inPlace := ["internal/bytealg.MakeNoZero"], unfollowed := true, recurses := true, apart := false }
def EchoSignsSaid : Prop := echoSignsRow.holds Try.pinned (OpenSpec.ofChange echoSignsSpec)

/-- ITS FALSE NEIGHBOUR: 'it returns false'. Refute it at one input. -/
def echoSignsWrong : ChangeSpec := { name := "echoSigns", fn := fun _ => fun
  | [d1, d2] => { results := [.lit (.bool false)], args := [d1, d2] }
  | _ => none }
def EchoSignsWrongFalsely : Prop := echoSignsRow.holds Try.pinned (OpenSpec.ofChange echoSignsWrong)

/-- 'parlourlaw11.EchoParts': WHATEVER THE INPUT: true; the input reads as it did. -/
def echoPartsSpec : ChangeSpec := { name := "echoParts", fn := fun _ => fun
  | [d] => { results := [.lit (.bool true)], args := [d] }
  | _ => none }
def echoPartsRow : OpenClaim := { program := "ytgollkckdnaegaa", sum := "8763aa2e224795016d22dbfc4178c7aef3d06eb126b02d283637de503d82724e", func := "parlour/parlourlaw11.EchoParts", spec := "echoParts", inPlace := ["internal/bytealg.MakeNoZero"], unfollowed := true, recurses := true, apart := false }
def EchoPartsSaid : Prop := echoPartsRow.holds Try.pinned (OpenSpec.ofChange echoPartsSpec)

/-- ITS FALSE NEIGHBOUR: 'it returns false'. Refute it at one input. -/
def echoPartsWrong : ChangeSpec := { name := "echoParts", fn := fun _ => fun
  | [d] => { results := [.lit (.bool false)], args := [d] }
  | _ => none }
def EchoPartsWrongFalsely : Prop := echoPartsRow.holds Try.pinned (OpenSpec.ofChange echoPartsWrong)

/- THE SECOND FORM. 'bulk': how many values and letters a reading holds, each counted each time it is reached (what is shared counts as often as it is met; a slice's spare places count too). A statement '..UptoSaid' is the law's where the arguments, and the package variables that the reading takes, are together of bulk at most 1048576: NARROWER than '..Said'. Prove '..Said' where nothing that the law and all that it calls make is longer than what came in: it says more and counts as full. Else prove '..UptoSaid'. A law counts once. -/
mutual
def uptoBulk {H : Type} : DataW H → Nat
  | .lit (.string bytes) => bytes.length + 1
  | .lit _ => 1
  | .nil => 1
  | .ptr d => uptoBulk d + 1
  | .slice elems spare => uptoBulkAll elems + uptoBulkAll spare + 1
  | .agg parts => uptoBulkAll parts + 1
  | .iface _ d => uptoBulk d + 1
  | .map entries => uptoBulkEntries entries + 1
  | .held _ => 1
def uptoBulkAll {H : Type} : List (DataW H) → Nat
  | [] => 0
  | d :: r => uptoBulk d + uptoBulkAll r
def uptoBulkEntries {H : Type} : List (Lit × DataW H) → Nat
  | [] => 0
  | x :: r => uptoBulkEntry x + uptoBulkEntries r
def uptoBulkEntry {H : Type} : Lit × DataW H → Nat
  | (.string bytes, d) => bytes.length + uptoBulk d + 1
  | (_, d) => uptoBulk d + 1
 end
def uptoSmall : (H : Type) → List (DataW H) → Bool := fun _ ds => decide (uptoBulkAll ds ≤ 1048576)
def OpenSpec.upto (s : _root_.Go.ChangeSpec) : _root_.Go.OpenSpec := { _root_.Go.OpenSpec.ofChange s with cond := some uptoSmall }

/-- 'parlourlaw11.EchoShows', WHERE WHAT IT READS IS OF BULK AT MOST 1048576: true; the input reads as it did. -/
def echoShowsUptoRow : OpenClaim := { program := "ytgollkckdnaegaa", sum := "8763aa2e224795016d22dbfc4178c7aef3d06eb126b02d283637de503d82724e", func := "parlour/parlourlaw11.EchoShows", spec := "echoShows", inPlace := ["internal/bytealg.MakeNoZero"], unfollowed := true, recurses := true, apart := false, narrowed := true }
def EchoShowsUptoSaid : Prop := echoShowsUptoRow.holds Try.pinned (OpenSpec.upto echoShowsSpec)

/-- 'parlourlaw11.EchoCols', WHERE WHAT IT READS IS OF BULK AT MOST 1048576: true; the input reads as it did. -/
def echoColsUptoRow : OpenClaim := { program := "ytgollkckdnaegaa", sum := "8763aa2e224795016d22dbfc4178c7aef3d06eb126b02d283637de503d82724e", func := "parlour/parlourlaw11.EchoCols", spec := "echoCols", inPlace := ["internal/bytealg.MakeNoZero"], unfollowed := true, recurses := true, apart := false, narrowed := true }
def EchoColsUptoSaid : Prop := echoColsUptoRow.holds Try.pinned (OpenSpec.upto echoColsSpec)

/-- 'parlourlaw11.EchoRubs', WHERE WHAT IT READS IS OF BULK AT MOST 1048576: true; the input reads as it did. -/
def echoRubsUptoRow : OpenClaim := { program := "ytgollkckdnaegaa", sum := "8763aa2e224795016d22dbfc4178c7aef3d06eb126b02d283637de503d82724e", func := "parlour/parlourlaw11.EchoRubs", spec := "echoRubs", inPlace := ["internal/bytealg.MakeNoZero"], unfollowed := true, recurses := true, apart := false, narrowed := true }
def EchoRubsUptoSaid : Prop := echoRubsUptoRow.holds Try.pinned (OpenSpec.upto echoRubsSpec)

/-- 'parlourlaw11.EchoSigns', WHERE WHAT IT READS IS OF BULK AT MOST 1048576: true; the input reads as it did. -/
def echoSignsUptoRow : OpenClaim := { program := "ytgollkckdnaegaa", sum := "8763aa2e224795016d22dbfc4178c7aef3d06eb126b02d283637de503d82724e", func := "parlour/parlourlaw11.EchoSigns", spec := "echoSigns", inPlace := ["internal/bytealg.MakeNoZero"], unfollowed := true, recurses := true, apart := false, narrowed := true }
def EchoSignsUptoSaid : Prop := echoSignsUptoRow.holds Try.pinned (OpenSpec.upto echoSignsSpec)

/-- 'parlourlaw11.EchoParts', WHERE WHAT IT READS IS OF BULK AT MOST 1048576: true; the input reads as it did. -/
def echoPartsUptoRow : OpenClaim := { program := "ytgollkckdnaegaa", sum := "8763aa2e224795016d22dbfc4178c7aef3d06eb126b02d283637de503d82724e", func := "parlour/parlourlaw11.EchoParts", spec := "echoParts", inPlace := ["internal/bytealg.MakeNoZero"], unfollowed := true, recurses := true, apart := false, narrowed := true }
def EchoPartsUptoSaid : Prop := echoPartsUptoRow.holds Try.pinned (OpenSpec.upto echoPartsSpec)

end Rows
end Go.Proofs.Ytgollkckdnaegaa
