/-
  No cell of these rows narrows 'for every input' (looked for: loops, veiled, ifaces, maps, wideKeys, modest, calm, conditions, laid).
  DERIVED. THE GIVEN ROWS OF THIS SEAT. 4 by the template 'for every input the law returns true; each argument reads behind the call as it read before'; 0 by the template 'total and deterministic' (their statements: YthaecflakefklaaTotals.lean).
  GIVEN WITH THE SEED: the statements are not yours to turn. If you find one false, say at which input.
  Laid BY PROGRAM, IN A SANDBOX (cutbox-rows.mjs): the forced cells as the released guide's own fill.sh prints them over the translation d4f3fa1c5a7d1505… (all of the seat's roots in one cut). By AI agents, Wed Nov 11 2026. No macro, syntax, notation, axiom, sorry.
-/
import Derived.Test.YthaecflakefklaaChecked
import GoSem.Claim
import GoSem.ClaimJoined
import GoSem.ClaimMapViews
import Derived.JoinedTies
import Derived.KernelRfl
namespace Go.Proofs.Ythaecflakefklaa
/- THE CELL 'sum', in the pinned program and in every row, IS THE sha256 OF THE DUMP (.gsa) THAT YthaecflakefklaaProg.lean LOADS. Nothing in Lean hashes anything: it is a label: what it is worth is what the hold of that sum in a sandbox is worth. -/
noncomputable def Try.pinned : Pinned := { name := "ythaecflakefklaa", sum := "d4f3fa1c5a7d1505fc3472a62cfc3cd135a658547b4c81fc6c8a1be2b0431285", checked := Try.checked }
namespace Rows
def none {H : Type} : Left H := { results := [], args := [] }

/-- 'parlourlaw15.FlowIs': WHATEVER THE INPUT: true; the input reads as it did. -/
def flowIsSpec : ChangeSpec := { name := "flowIs", fn := fun _ => fun
  | [d] => { results := [.lit (.bool true)], args := [d] }
  | _ => none }
def flowIsRow : OpenClaim := { program := "ythaecflakefklaa", sum := "d4f3fa1c5a7d1505fc3472a62cfc3cd135a658547b4c81fc6c8a1be2b0431285", func := "parlour/parlourlaw15.FlowIs", spec := "flowIs", unfollowed := true, recurses := true, apart := false }
def FlowIsSaid : Prop := flowIsRow.holds Try.pinned (OpenSpec.ofChange flowIsSpec)

/-- ITS FALSE NEIGHBOUR: 'it returns false'. Refute it at one input. -/
def flowIsWrong : ChangeSpec := { name := "flowIs", fn := fun _ => fun
  | [d] => { results := [.lit (.bool false)], args := [d] }
  | _ => none }
def FlowIsWrongFalsely : Prop := flowIsRow.holds Try.pinned (OpenSpec.ofChange flowIsWrong)

/-- 'parlourlaw15.FlowTyped': WHATEVER THE INPUT: true; the input reads as it did. -/
def flowTypedSpec : ChangeSpec := { name := "flowTyped", fn := fun _ => fun
  | [d1, d2, d3] => { results := [.lit (.bool true)], args := [d1, d2, d3] }
  | _ => none }
def flowTypedRow : OpenClaim := { program := "ythaecflakefklaa", sum := "d4f3fa1c5a7d1505fc3472a62cfc3cd135a658547b4c81fc6c8a1be2b0431285", func := "parlour/parlourlaw15.FlowTyped", spec := "flowTyped", unfollowed := true, recurses := true, apart := false }
def FlowTypedSaid : Prop := flowTypedRow.holds Try.pinned (OpenSpec.ofChange flowTypedSpec)

/-- ITS FALSE NEIGHBOUR: 'it returns false'. Refute it at one input. -/
def flowTypedWrong : ChangeSpec := { name := "flowTyped", fn := fun _ => fun
  | [d1, d2, d3] => { results := [.lit (.bool false)], args := [d1, d2, d3] }
  | _ => none }
def FlowTypedWrongFalsely : Prop := flowTypedRow.holds Try.pinned (OpenSpec.ofChange flowTypedWrong)

/-- 'parlourlaw15.FlowTurns': WHATEVER THE INPUT: true; the input reads as it did. -/
def flowTurnsSpec : ChangeSpec := { name := "flowTurns", fn := fun _ => fun
  | [d] => { results := [.lit (.bool true)], args := [d] }
  | _ => none }
def flowTurnsRow : OpenClaim := { program := "ythaecflakefklaa", sum := "d4f3fa1c5a7d1505fc3472a62cfc3cd135a658547b4c81fc6c8a1be2b0431285", func := "parlour/parlourlaw15.FlowTurns", spec := "flowTurns", unfollowed := true, recurses := true, apart := false }
def FlowTurnsSaid : Prop := flowTurnsRow.holds Try.pinned (OpenSpec.ofChange flowTurnsSpec)

/-- ITS FALSE NEIGHBOUR: 'it returns false'. Refute it at one input. -/
def flowTurnsWrong : ChangeSpec := { name := "flowTurns", fn := fun _ => fun
  | [d] => { results := [.lit (.bool false)], args := [d] }
  | _ => none }
def FlowTurnsWrongFalsely : Prop := flowTurnsRow.holds Try.pinned (OpenSpec.ofChange flowTurnsWrong)

/-- 'parlourlaw15.FlowAsks': WHATEVER THE INPUT: true; the input reads as it did. -/
def flowAsksSpec : ChangeSpec := { name := "flowAsks", fn := fun _ => fun
  | [d1, d2, d3] => { results := [.lit (.bool true)], args := [d1, d2, d3] }
  | _ => none }
def flowAsksRow : OpenClaim := { program := "ythaecflakefklaa", sum := "d4f3fa1c5a7d1505fc3472a62cfc3cd135a658547b4c81fc6c8a1be2b0431285", func := "parlour/parlourlaw15.FlowAsks", spec := "flowAsks", unfollowed := true, recurses := true, apart := false }
def FlowAsksSaid : Prop := flowAsksRow.holds Try.pinned (OpenSpec.ofChange flowAsksSpec)

/-- ITS FALSE NEIGHBOUR: 'it returns false'. Refute it at one input. -/
def flowAsksWrong : ChangeSpec := { name := "flowAsks", fn := fun _ => fun
  | [d1, d2, d3] => { results := [.lit (.bool false)], args := [d1, d2, d3] }
  | _ => none }
def FlowAsksWrongFalsely : Prop := flowAsksRow.holds Try.pinned (OpenSpec.ofChange flowAsksWrong)

/- THE SECOND FORM. 'bulk': how many values and letters a reading holds, each counted each time it is reached (what is shared counts as often as it is met; a slice's spare places count too). A statement '..UptoSaid' is the law's where the arguments, and the package variables that the reading takes, are together of bulk at most 1048576: NARROWER than '..Said'. Prove '..Said' where nothing that the law and all that it calls make is longer than what came in: it says more and counts as full. Else prove '..UptoSaid'. A law counts once. -/
mutual
def uptoBulk {H : Type} : DataW H → Nat
  | .lit (.string bytes) => bytes.length + 1
  | .lit _ => 1
  | .nil => 1
  | .ptr d => uptoBulk d + 1
  | .slice elems spare => uptoBulkAll elems + uptoBulkAll spare + 1
  | .agg parts => uptoBulkAll parts + 1
  | .iface _ d => uptoBulk d + 1
  | .map entries => uptoBulkEntries entries + 1
  | .held _ => 1
def uptoBulkAll {H : Type} : List (DataW H) → Nat
  | [] => 0
  | d :: r => uptoBulk d + uptoBulkAll r
def uptoBulkEntries {H : Type} : List (Lit × DataW H) → Nat
  | [] => 0
  | x :: r => uptoBulkEntry x + uptoBulkEntries r
def uptoBulkEntry {H : Type} : Lit × DataW H → Nat
  | (.string bytes, d) => bytes.length + uptoBulk d + 1
  | (_, d) => uptoBulk d + 1
 end
def uptoSmall : (H : Type) → List (DataW H) → Bool := fun _ ds => decide (uptoBulkAll ds ≤ 1048576)
def OpenSpec.upto (s : _root_.Go.ChangeSpec) : _root_.Go.OpenSpec := { _root_.Go.OpenSpec.ofChange s with cond := some uptoSmall }

/-- 'parlourlaw15.FlowIs', WHERE WHAT IT READS IS OF BULK AT MOST 1048576: true; the input reads as it did. -/
def flowIsUptoRow : OpenClaim := { program := "ythaecflakefklaa", sum := "d4f3fa1c5a7d1505fc3472a62cfc3cd135a658547b4c81fc6c8a1be2b0431285", func := "parlour/parlourlaw15.FlowIs", spec := "flowIs", unfollowed := true, recurses := true, apart := false, narrowed := true }
def FlowIsUptoSaid : Prop := flowIsUptoRow.holds Try.pinned (OpenSpec.upto flowIsSpec)

/-- 'parlourlaw15.FlowTyped', WHERE WHAT IT READS IS OF BULK AT MOST 1048576: true; the input reads as it did. -/
def flowTypedUptoRow : OpenClaim := { program := "ythaecflakefklaa", sum := "d4f3fa1c5a7d1505fc3472a62cfc3cd135a658547b4c81fc6c8a1be2b0431285", func := "parlour/parlourlaw15.FlowTyped", spec := "flowTyped", unfollowed := true, recurses := true, apart := false, narrowed := true }
def FlowTypedUptoSaid : Prop := flowTypedUptoRow.holds Try.pinned (OpenSpec.upto flowTypedSpec)

/-- 'parlourlaw15.FlowTurns', WHERE WHAT IT READS IS OF BULK AT MOST 1048576: true; the input reads as it did. -/
def flowTurnsUptoRow : OpenClaim := { program := "ythaecflakefklaa", sum := "d4f3fa1c5a7d1505fc3472a62cfc3cd135a658547b4c81fc6c8a1be2b0431285", func := "parlour/parlourlaw15.FlowTurns", spec := "flowTurns", unfollowed := true, recurses := true, apart := false, narrowed := true }
def FlowTurnsUptoSaid : Prop := flowTurnsUptoRow.holds Try.pinned (OpenSpec.upto flowTurnsSpec)

/-- 'parlourlaw15.FlowAsks', WHERE WHAT IT READS IS OF BULK AT MOST 1048576: true; the input reads as it did. -/
def flowAsksUptoRow : OpenClaim := { program := "ythaecflakefklaa", sum := "d4f3fa1c5a7d1505fc3472a62cfc3cd135a658547b4c81fc6c8a1be2b0431285", func := "parlour/parlourlaw15.FlowAsks", spec := "flowAsks", unfollowed := true, recurses := true, apart := false, narrowed := true }
def FlowAsksUptoSaid : Prop := flowAsksUptoRow.holds Try.pinned (OpenSpec.upto flowAsksSpec)

end Rows
end Go.Proofs.Ythaecflakefklaa
