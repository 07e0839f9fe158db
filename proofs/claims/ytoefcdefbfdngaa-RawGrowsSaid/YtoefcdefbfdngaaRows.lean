/-
  No cell of these rows narrows 'for every input' (looked for: loops, veiled, ifaces, maps, wideKeys, modest, calm, conditions, laid).
  DERIVED. THE GIVEN ROWS OF THIS SEAT. 3 by the template 'for every input the law returns true; each argument reads behind the call as it read before'; 0 by the template 'total and deterministic' (their statements: YtoefcdefbfdngaaTotals.lean).
  GIVEN WITH THE SEED: the statements are not yours to turn. If you find one false, say at which input.
  Laid BY PROGRAM, IN A SANDBOX (cutbox-rows.mjs): the forced cells as the released guide's own fill.sh prints them over the translation fb31bff5a6f3c2b4… (all of the seat's roots in one cut). By AI agents, Wed Nov 11 2026. No macro, syntax, notation, axiom, sorry.
-/
import Derived.Test.YtoefcdefbfdngaaChecked
import GoSem.Claim
import GoSem.ClaimJoined
import GoSem.ClaimMapViews
import Derived.JoinedTies
import Derived.KernelRfl
namespace Go.Proofs.Ytoefcdefbfdngaa
/- THE CELL 'sum', in the pinned program and in every row, IS THE sha256 OF THE DUMP (.gsa) THAT YtoefcdefbfdngaaProg.lean LOADS. Nothing in Lean hashes anything: it is a label: what it is worth is what the hold of that sum in a sandbox is worth. -/
noncomputable def Try.pinned : Pinned := { name := "ytoefcdefbfdngaa", sum := "fb31bff5a6f3c2b411ab07d0f95bcb0b11b24ef450392c5c8927b899799ef52d", checked := Try.checked }
namespace Rows
def none {H : Type} : Left H := { results := [], args := [] }

/-- 'parlourlaw14.RawReady': WHATEVER THE INPUT: true; the input reads as it did. -/
def rawReadySpec : ChangeSpec := { name := "rawReady", fn := fun _ => fun
  | [d] => { results := [.lit (.bool true)], args := [d] }
  | _ => none }
def rawReadyRow : OpenClaim := { program := "ytoefcdefbfdngaa", sum := "fb31bff5a6f3c2b411ab07d0f95bcb0b11b24ef450392c5c8927b899799ef52d", func := "parlour/parlourlaw14.RawReady", spec := "rawReady", unfollowed := true, recurses := true, apart := false }
def RawReadySaid : Prop := rawReadyRow.holds Try.pinned (OpenSpec.ofChange rawReadySpec)

/-- ITS FALSE NEIGHBOUR: 'it returns false'. Refute it at one input. -/
def rawReadyWrong : ChangeSpec := { name := "rawReady", fn := fun _ => fun
  | [d] => { results := [.lit (.bool false)], args := [d] }
  | _ => none }
def RawReadyWrongFalsely : Prop := rawReadyRow.holds Try.pinned (OpenSpec.ofChange rawReadyWrong)

/-- 'parlourlaw14.RawWaits': WHATEVER THE INPUT: true; the input reads as it did. -/
def rawWaitsSpec : ChangeSpec := { name := "rawWaits", fn := fun _ => fun
  | [d] => { results := [.lit (.bool true)], args := [d] }
  | _ => none }
def rawWaitsRow : OpenClaim := { program := "ytoefcdefbfdngaa", sum := "fb31bff5a6f3c2b411ab07d0f95bcb0b11b24ef450392c5c8927b899799ef52d", func := "parlour/parlourlaw14.RawWaits", spec := "rawWaits", unfollowed := true, recurses := true, apart := false }
def RawWaitsSaid : Prop := rawWaitsRow.holds Try.pinned (OpenSpec.ofChange rawWaitsSpec)

/-- ITS FALSE NEIGHBOUR: 'it returns false'. Refute it at one input. -/
def rawWaitsWrong : ChangeSpec := { name := "rawWaits", fn := fun _ => fun
  | [d] => { results := [.lit (.bool false)], args := [d] }
  | _ => none }
def RawWaitsWrongFalsely : Prop := rawWaitsRow.holds Try.pinned (OpenSpec.ofChange rawWaitsWrong)

/-- 'parlourlaw14.RawGrows': WHATEVER THE INPUT: true; the input reads as it did. -/
def rawGrowsSpec : ChangeSpec := { name := "rawGrows", fn := fun _ => fun
  | [d1, d2, d3] => { results := [.lit (.bool true)], args := [d1, d2, d3] }
  | _ => none }
def rawGrowsRow : OpenClaim := { program := "ytoefcdefbfdngaa", sum := "fb31bff5a6f3c2b411ab07d0f95bcb0b11b24ef450392c5c8927b899799ef52d", func := "parlour/parlourlaw14.RawGrows", spec := "rawGrows", unfollowed := true, recurses := true, apart := false }
def RawGrowsSaid : Prop := rawGrowsRow.holds Try.pinned (OpenSpec.ofChange rawGrowsSpec)

/-- ITS FALSE NEIGHBOUR: 'it returns false'. Refute it at one input. -/
def rawGrowsWrong : ChangeSpec := { name := "rawGrows", fn := fun _ => fun
  | [d1, d2, d3] => { results := [.lit (.bool false)], args := [d1, d2, d3] }
  | _ => none }
def RawGrowsWrongFalsely : Prop := rawGrowsRow.holds Try.pinned (OpenSpec.ofChange rawGrowsWrong)

/- THE SECOND FORM. 'bulk': how many values and letters a reading holds, each counted each time it is reached (what is shared counts as often as it is met; a slice's spare places count too). A statement '..UptoSaid' is the law's where the arguments, and the package variables that the reading takes, are together of bulk at most 1048576: NARROWER than '..Said'. Prove '..Said' where nothing that the law and all that it calls make is longer than what came in: it says more and counts as full. Else prove '..UptoSaid'. A law counts once. -/
mutual
def uptoBulk {H : Type} : DataW H → Nat
  | .lit (.string bytes) => bytes.length + 1
  | .lit _ => 1
  | .nil => 1
  | .ptr d => uptoBulk d + 1
  | .slice elems spare => uptoBulkAll elems + uptoBulkAll spare + 1
  | .agg parts => uptoBulkAll parts + 1
  | .iface _ d => uptoBulk d + 1
  | .map entries => uptoBulkEntries entries + 1
  | .held _ => 1
def uptoBulkAll {H : Type} : List (DataW H) → Nat
  | [] => 0
  | d :: r => uptoBulk d + uptoBulkAll r
def uptoBulkEntries {H : Type} : List (Lit × DataW H) → Nat
  | [] => 0
  | x :: r => uptoBulkEntry x + uptoBulkEntries r
def uptoBulkEntry {H : Type} : Lit × DataW H → Nat
  | (.string bytes, d) => bytes.length + uptoBulk d + 1
  | (_, d) => uptoBulk d + 1
 end
def uptoSmall : (H : Type) → List (DataW H) → Bool := fun _ ds => decide (uptoBulkAll ds ≤ 1048576)
def OpenSpec.upto (s : _root_.Go.ChangeSpec) : _root_.Go.OpenSpec := { _root_.Go.OpenSpec.ofChange s with cond := some uptoSmall }

/-- 'parlourlaw14.RawReady', WHERE WHAT IT READS IS OF BULK AT MOST 1048576: true; the input reads as it did. -/
def rawReadyUptoRow : OpenClaim := { program := "ytoefcdefbfdngaa", sum := "fb31bff5a6f3c2b411ab07d0f95bcb0b11b24ef450392c5c8927b899799ef52d", func := "parlour/parlourlaw14.RawReady", spec := "rawReady", unfollowed := true, recurses := true, apart := false, narrowed := true }
def RawReadyUptoSaid : Prop := rawReadyUptoRow.holds Try.pinned (OpenSpec.upto rawReadySpec)

/-- 'parlourlaw14.RawWaits', WHERE WHAT IT READS IS OF BULK AT MOST 1048576: true; the input reads as it did. -/
def rawWaitsUptoRow : OpenClaim := { program := "ytoefcdefbfdngaa", sum := "fb31bff5a6f3c2b411ab07d0f95bcb0b11b24ef450392c5c8927b899799ef52d", func := "parlour/parlourlaw14.RawWaits", spec := "rawWaits", unfollowed := true, recurses := true, apart := false, narrowed := true }
def RawWaitsUptoSaid : Prop := rawWaitsUptoRow.holds Try.pinned (OpenSpec.upto rawWaitsSpec)

/-- 'parlourlaw14.RawGrows', WHERE WHAT IT READS IS OF BULK AT MOST 1048576: true; the input reads as it did. -/
def rawGrowsUptoRow : OpenClaim := { program := "ytoefcdefbfdngaa", sum := "fb31bff5a6f3c2b411ab07d0f95bcb0b11b24ef450392c5c8927b899799ef52d", func := "parlour/parlourlaw14.RawGrows", spec := "rawGrows", unfollowed := true, recurses := true, apart := false, narrowed := true }
def RawGrowsUptoSaid : Prop := rawGrowsUptoRow.holds Try.pinned (OpenSpec.upto rawGrowsSpec)

end Rows
end Go.Proofs.Ytoefcdefbfdngaa
