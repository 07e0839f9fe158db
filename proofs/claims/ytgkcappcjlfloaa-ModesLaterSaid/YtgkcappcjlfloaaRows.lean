/-
  No cell of these rows narrows 'for every input' (looked for: loops, veiled, ifaces, maps, wideKeys, modest, calm, conditions, laid).
  DERIVED. THE GIVEN ROWS OF THIS SEAT. 6 by the template 'for every input the law returns true; each argument reads behind the call as it read before'; 0 by the template 'total and deterministic' (their statements: YtgkcappcjlfloaaTotals.lean).
  GIVEN WITH THE SEED: the statements are not yours to turn. If you find one false, say at which input.
  Laid BY PROGRAM, IN A SANDBOX (cutbox-rows.mjs): the forced cells as the released guide's own fill.sh prints them over the translation 45c7aa87f3112ecb… (all of the seat's roots in one cut). By AI agents, Wed Nov 11 2026. No macro, syntax, notation, axiom, sorry.
-/
import Derived.Test.YtgkcappcjlfloaaChecked
import GoSem.Claim
import GoSem.ClaimJoined
import GoSem.ClaimMapViews
import Derived.JoinedTies
import Derived.KernelRfl
namespace Go.Proofs.Ytgkcappcjlfloaa
/- THE CELL 'sum', in the pinned program and in every row, IS THE sha256 OF THE DUMP (.gsa) THAT YtgkcappcjlfloaaProg.lean LOADS. Nothing in Lean hashes anything: it is a label: what it is worth is what the hold of that sum in a sandbox is worth. -/
noncomputable def Try.pinned : Pinned := { name := "ytgkcappcjlfloaa", sum := "45c7aa87f3112ecb6881272172e08c397a1ffbb380299e119863c9a0a72ed405", checked := Try.checked }
namespace Rows
def none {H : Type} : Left H := { results := [], args := [] }

/-- 'parlourlaw08.ModesAsks': WHATEVER THE INPUT: true; the input reads as it did. -/
def modesAsksSpec : ChangeSpec := { name := "modesAsks", fn := fun _ => fun
  | [d] => { results := [.lit (.bool true)], args := [d] }
  | _ => none }
def modesAsksRow : OpenClaim := { program := "ytgkcappcjlfloaa", sum := "45c7aa87f3112ecb6881272172e08c397a1ffbb380299e119863c9a0a72ed405", func := "parlour/parlourlaw08.ModesAsks", spec := "modesAsks", unfollowed := true, recurses := true, apart := false }
def ModesAsksSaid : Prop := modesAsksRow.holds Try.pinned (OpenSpec.ofChange modesAsksSpec)

/-- ITS FALSE NEIGHBOUR: 'it returns false'. Refute it at one input. -/
def modesAsksWrong : ChangeSpec := { name := "modesAsks", fn := fun _ => fun
  | [d] => { results := [.lit (.bool false)], args := [d] }
  | _ => none }
def ModesAsksWrongFalsely : Prop := modesAsksRow.holds Try.pinned (OpenSpec.ofChange modesAsksWrong)

/-- 'parlourlaw08.ModesDecodes': WHATEVER THE INPUT: true; the input reads as it did. -/
def modesDecodesSpec : ChangeSpec := { name := "modesDecodes", fn := fun _ => fun
  | [d1, d2] => { results := [.lit (.bool true)], args := [d1, d2] }
  | _ => none }
def modesDecodesRow : OpenClaim := { program := "ytgkcappcjlfloaa", sum := "45c7aa87f3112ecb6881272172e08c397a1ffbb380299e119863c9a0a72ed405", func := "parlour/parlourlaw08.ModesDecodes", spec := "modesDecodes", unfollowed := true, recurses := true, apart := false }
def ModesDecodesSaid : Prop := modesDecodesRow.holds Try.pinned (OpenSpec.ofChange modesDecodesSpec)

/-- ITS FALSE NEIGHBOUR: 'it returns false'. Refute it at one input. -/
def modesDecodesWrong : ChangeSpec := { name := "modesDecodes", fn := fun _ => fun
  | [d1, d2] => { results := [.lit (.bool false)], args := [d1, d2] }
  | _ => none }
def ModesDecodesWrongFalsely : Prop := modesDecodesRow.holds Try.pinned (OpenSpec.ofChange modesDecodesWrong)

/-- 'parlourlaw08.ModesEncodes': WHATEVER THE INPUT: true; the input reads as it did. -/
def modesEncodesSpec : ChangeSpec := { name := "modesEncodes", fn := fun _ => fun
  | [d] => { results := [.lit (.bool true)], args := [d] }
  | _ => none }
def modesEncodesRow : OpenClaim := { program := "ytgkcappcjlfloaa", sum := "45c7aa87f3112ecb6881272172e08c397a1ffbb380299e119863c9a0a72ed405", func := "parlour/parlourlaw08.ModesEncodes", spec := "modesEncodes", unfollowed := true, recurses := true, apart := false }
def ModesEncodesSaid : Prop := modesEncodesRow.holds Try.pinned (OpenSpec.ofChange modesEncodesSpec)

/-- ITS FALSE NEIGHBOUR: 'it returns false'. Refute it at one input. -/
def modesEncodesWrong : ChangeSpec := { name := "modesEncodes", fn := fun _ => fun
  | [d] => { results := [.lit (.bool false)], args := [d] }
  | _ => none }
def ModesEncodesWrongFalsely : Prop := modesEncodesRow.holds Try.pinned (OpenSpec.ofChange modesEncodesWrong)

/-- 'parlourlaw08.ModesBack': WHATEVER THE INPUT: true; the input reads as it did. -/
def modesBackSpec : ChangeSpec := { name := "modesBack", fn := fun _ => fun
  | [d1, d2, d3] => { results := [.lit (.bool true)], args := [d1, d2, d3] }
  | _ => none }
def modesBackRow : OpenClaim := { program := "ytgkcappcjlfloaa", sum := "45c7aa87f3112ecb6881272172e08c397a1ffbb380299e119863c9a0a72ed405", func := "parlour/parlourlaw08.ModesBack", spec := "modesBack", unfollowed := true, recurses := true, apart := false }
def ModesBackSaid : Prop := modesBackRow.holds Try.pinned (OpenSpec.ofChange modesBackSpec)

/-- ITS FALSE NEIGHBOUR: 'it returns false'. Refute it at one input. -/
def modesBackWrong : ChangeSpec := { name := "modesBack", fn := fun _ => fun
  | [d1, d2, d3] => { results := [.lit (.bool false)], args := [d1, d2, d3] }
  | _ => none }
def ModesBackWrongFalsely : Prop := modesBackRow.holds Try.pinned (OpenSpec.ofChange modesBackWrong)

/-- 'parlourlaw08.ModesLater': WHATEVER THE INPUT: true; the input reads as it did. -/
def modesLaterSpec : ChangeSpec := { name := "modesLater", fn := fun _ => fun
  | [d] => { results := [.lit (.bool true)], args := [d] }
  | _ => none }
def modesLaterRow : OpenClaim := { program := "ytgkcappcjlfloaa", sum := "45c7aa87f3112ecb6881272172e08c397a1ffbb380299e119863c9a0a72ed405", func := "parlour/parlourlaw08.ModesLater", spec := "modesLater", unfollowed := true, recurses := true, apart := false }
def ModesLaterSaid : Prop := modesLaterRow.holds Try.pinned (OpenSpec.ofChange modesLaterSpec)

/-- ITS FALSE NEIGHBOUR: 'it returns false'. Refute it at one input. -/
def modesLaterWrong : ChangeSpec := { name := "modesLater", fn := fun _ => fun
  | [d] => { results := [.lit (.bool false)], args := [d] }
  | _ => none }
def ModesLaterWrongFalsely : Prop := modesLaterRow.holds Try.pinned (OpenSpec.ofChange modesLaterWrong)

/-- 'parlourlaw08.ModesSets': WHATEVER THE INPUT: true; the input reads as it did. -/
def modesSetsSpec : ChangeSpec := { name := "modesSets", fn := fun _ => fun
  | [d] => { results := [.lit (.bool true)], args := [d] }
  | _ => none }
def modesSetsRow : OpenClaim := { program := "ytgkcappcjlfloaa", sum := "45c7aa87f3112ecb6881272172e08c397a1ffbb380299e119863c9a0a72ed405", func := "parlour/parlourlaw08.ModesSets", spec := "modesSets", unfollowed := true, recurses := true, apart := false }
def ModesSetsSaid : Prop := modesSetsRow.holds Try.pinned (OpenSpec.ofChange modesSetsSpec)

/-- ITS FALSE NEIGHBOUR: 'it returns false'. Refute it at one input. -/
def modesSetsWrong : ChangeSpec := { name := "modesSets", fn := fun _ => fun
  | [d] => { results := [.lit (.bool false)], args := [d] }
  | _ => none }
def ModesSetsWrongFalsely : Prop := modesSetsRow.holds Try.pinned (OpenSpec.ofChange modesSetsWrong)

/- THE SECOND FORM. 'bulk': how many values and letters a reading holds, each counted each time it is reached (what is shared counts as often as it is met; a slice's spare places count too). A statement '..UptoSaid' is the law's where the arguments, and the package variables that the reading takes, are together of bulk at most 1048576: NARROWER than '..Said'. Prove '..Said' where nothing that the law and all that it calls make is longer than what came in: it says more and counts as full. Else prove '..UptoSaid'. A law counts once. -/
mutual
def uptoBulk {H : Type} : DataW H → Nat
  | .lit (.string bytes) => bytes.length + 1
  | .lit _ => 1
  | .nil => 1
  | .ptr d => uptoBulk d + 1
  | .slice elems spare => uptoBulkAll elems + uptoBulkAll spare + 1
  | .agg parts => uptoBulkAll parts + 1
  | .iface _ d => uptoBulk d + 1
  | .map entries => uptoBulkEntries entries + 1
  | .held _ => 1
def uptoBulkAll {H : Type} : List (DataW H) → Nat
  | [] => 0
  | d :: r => uptoBulk d + uptoBulkAll r
def uptoBulkEntries {H : Type} : List (Lit × DataW H) → Nat
  | [] => 0
  | x :: r => uptoBulkEntry x + uptoBulkEntries r
def uptoBulkEntry {H : Type} : Lit × DataW H → Nat
  | (.string bytes, d) => bytes.length + uptoBulk d + 1
  | (_, d) => uptoBulk d + 1
 end
def uptoSmall : (H : Type) → List (DataW H) → Bool := fun _ ds => decide (uptoBulkAll ds ≤ 1048576)
def OpenSpec.upto (s : _root_.Go.ChangeSpec) : _root_.Go.OpenSpec := { _root_.Go.OpenSpec.ofChange s with cond := some uptoSmall }

/-- 'parlourlaw08.ModesAsks', WHERE WHAT IT READS IS OF BULK AT MOST 1048576: true; the input reads as it did. -/
def modesAsksUptoRow : OpenClaim := { program := "ytgkcappcjlfloaa", sum := "45c7aa87f3112ecb6881272172e08c397a1ffbb380299e119863c9a0a72ed405", func := "parlour/parlourlaw08.ModesAsks", spec := "modesAsks", unfollowed := true, recurses := true, apart := false, narrowed := true }
def ModesAsksUptoSaid : Prop := modesAsksUptoRow.holds Try.pinned (OpenSpec.upto modesAsksSpec)

/-- 'parlourlaw08.ModesDecodes', WHERE WHAT IT READS IS OF BULK AT MOST 1048576: true; the input reads as it did. -/
def modesDecodesUptoRow : OpenClaim := { program := "ytgkcappcjlfloaa", sum := "45c7aa87f3112ecb6881272172e08c397a1ffbb380299e119863c9a0a72ed405", func := "parlour/parlourlaw08.ModesDecodes", spec := "modesDecodes", unfollowed := true, recurses := true, apart := false, narrowed := true }
def ModesDecodesUptoSaid : Prop := modesDecodesUptoRow.holds Try.pinned (OpenSpec.upto modesDecodesSpec)

/-- 'parlourlaw08.ModesEncodes', WHERE WHAT IT READS IS OF BULK AT MOST 1048576: true; the input reads as it did. -/
def modesEncodesUptoRow : OpenClaim := { program := "ytgkcappcjlfloaa", sum := "45c7aa87f3112ecb6881272172e08c397a1ffbb380299e119863c9a0a72ed405", func := "parlour/parlourlaw08.ModesEncodes", spec := "modesEncodes", unfollowed := true, recurses := true, apart := false, narrowed := true }
def ModesEncodesUptoSaid : Prop := modesEncodesUptoRow.holds Try.pinned (OpenSpec.upto modesEncodesSpec)

/-- 'parlourlaw08.ModesBack', WHERE WHAT IT READS IS OF BULK AT MOST 1048576: true; the input reads as it did. -/
def modesBackUptoRow : OpenClaim := { program := "ytgkcappcjlfloaa", sum := "45c7aa87f3112ecb6881272172e08c397a1ffbb380299e119863c9a0a72ed405", func := "parlour/parlourlaw08.ModesBack", spec := "modesBack", unfollowed := true, recurses := true, apart := false, narrowed := true }
def ModesBackUptoSaid : Prop := modesBackUptoRow.holds Try.pinned (OpenSpec.upto modesBackSpec)

/-- 'parlourlaw08.ModesLater', WHERE WHAT IT READS IS OF BULK AT MOST 1048576: true; the input reads as it did. -/
def modesLaterUptoRow : OpenClaim := { program := "ytgkcappcjlfloaa", sum := "45c7aa87f3112ecb6881272172e08c397a1ffbb380299e119863c9a0a72ed405", func := "parlour/parlourlaw08.ModesLater", spec := "modesLater", unfollowed := true, recurses := true, apart := false, narrowed := true }
def ModesLaterUptoSaid : Prop := modesLaterUptoRow.holds Try.pinned (OpenSpec.upto modesLaterSpec)

/-- 'parlourlaw08.ModesSets', WHERE WHAT IT READS IS OF BULK AT MOST 1048576: true; the input reads as it did. -/
def modesSetsUptoRow : OpenClaim := { program := "ytgkcappcjlfloaa", sum := "45c7aa87f3112ecb6881272172e08c397a1ffbb380299e119863c9a0a72ed405", func := "parlour/parlourlaw08.ModesSets", spec := "modesSets", unfollowed := true, recurses := true, apart := false, narrowed := true }
def ModesSetsUptoSaid : Prop := modesSetsUptoRow.holds Try.pinned (OpenSpec.upto modesSetsSpec)

end Rows
end Go.Proofs.Ytgkcappcjlfloaa
