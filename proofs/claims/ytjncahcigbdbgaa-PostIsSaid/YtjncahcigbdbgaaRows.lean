/-
  No cell of these rows narrows 'for every input' (looked for: loops, veiled, ifaces, maps, wideKeys, modest, calm, conditions, laid).
  DERIVED. THE GIVEN ROWS OF THIS SEAT. 4 by the template 'for every input the law returns true; each argument reads behind the call as it read before'; 0 by the template 'total and deterministic' (their statements: YtjncahcigbdbgaaTotals.lean).
  GIVEN WITH THE SEED: the statements are not yours to turn. If you find one false, say at which input.
  Laid BY PROGRAM, IN A SANDBOX (cutbox-rows.mjs): the forced cells as the released guide's own fill.sh prints them over the translation eae44bea56175da0… (all of the seat's roots in one cut). By AI agents, Wed Nov 11 2026. No macro, syntax, notation, axiom, sorry.
-/
import Derived.Test.YtjncahcigbdbgaaChecked
import GoSem.Claim
import GoSem.ClaimJoined
import GoSem.ClaimMapViews
import Derived.JoinedTies
import Derived.KernelRfl
namespace Go.Proofs.Ytjncahcigbdbgaa
/- THE CELL 'sum', in the pinned program and in every row, IS THE sha256 OF THE DUMP (.gsa) THAT YtjncahcigbdbgaaProg.lean LOADS. Nothing in Lean hashes anything: it is a label: what it is worth is what the hold of that sum in a sandbox is worth. -/
noncomputable def Try.pinned : Pinned := { name := "ytjncahcigbdbgaa", sum := "eae44bea56175da0f1a2504c04f00898f2368dc26e381d438feb50da2c05d5b4", checked := Try.checked }
namespace Rows
def none {H : Type} : Left H := { results := [], args := [] }

/-- 'parlourlaw12.PostIs': WHATEVER THE INPUT: true; the input reads as it did. -/
def postIsSpec : ChangeSpec := { name := "postIs", fn := fun _ => fun
  | [d1, d2, d3] => { results := [.lit (.bool true)], args := [d1, d2, d3] }
  | _ => none }
def postIsRow : OpenClaim := { program := "ytjncahcigbdbgaa", sum := "eae44bea56175da0f1a2504c04f00898f2368dc26e381d438feb50da2c05d5b4", func := "parlour/parlourlaw12.PostIs", spec := "postIs", unfollowed := true, recurses := true, apart := false }
def PostIsSaid : Prop := postIsRow.holds Try.pinned (OpenSpec.ofChange postIsSpec)

/-- ITS FALSE NEIGHBOUR: 'it returns false'. Refute it at one input. -/
def postIsWrong : ChangeSpec := { name := "postIs", fn := fun _ => fun
  | [d1, d2, d3] => { results := [.lit (.bool false)], args := [d1, d2, d3] }
  | _ => none }
def PostIsWrongFalsely : Prop := postIsRow.holds Try.pinned (OpenSpec.ofChange postIsWrong)

/-- 'parlourlaw12.PostFits': WHATEVER THE INPUT: true; the input reads as it did. -/
def postFitsSpec : ChangeSpec := { name := "postFits", fn := fun _ => fun
  | [d] => { results := [.lit (.bool true)], args := [d] }
  | _ => none }
def postFitsRow : OpenClaim := { program := "ytjncahcigbdbgaa", sum := "eae44bea56175da0f1a2504c04f00898f2368dc26e381d438feb50da2c05d5b4", func := "parlour/parlourlaw12.PostFits", spec := "postFits", unfollowed := true, recurses := true, apart := false }
def PostFitsSaid : Prop := postFitsRow.holds Try.pinned (OpenSpec.ofChange postFitsSpec)

/-- ITS FALSE NEIGHBOUR: 'it returns false'. Refute it at one input. -/
def postFitsWrong : ChangeSpec := { name := "postFits", fn := fun _ => fun
  | [d] => { results := [.lit (.bool false)], args := [d] }
  | _ => none }
def PostFitsWrongFalsely : Prop := postFitsRow.holds Try.pinned (OpenSpec.ofChange postFitsWrong)

/-- 'parlourlaw12.PostPlain': WHATEVER THE INPUT: true; the input reads as it did. -/
def postPlainSpec : ChangeSpec := { name := "postPlain", fn := fun _ => fun
  | [d1, d2, d3] => { results := [.lit (.bool true)], args := [d1, d2, d3] }
  | _ => none }
def postPlainRow : OpenClaim := { program := "ytjncahcigbdbgaa", sum := "eae44bea56175da0f1a2504c04f00898f2368dc26e381d438feb50da2c05d5b4", func := "parlour/parlourlaw12.PostPlain", spec := "postPlain", unfollowed := true, recurses := true, apart := false }
def PostPlainSaid : Prop := postPlainRow.holds Try.pinned (OpenSpec.ofChange postPlainSpec)

/-- ITS FALSE NEIGHBOUR: 'it returns false'. Refute it at one input. -/
def postPlainWrong : ChangeSpec := { name := "postPlain", fn := fun _ => fun
  | [d1, d2, d3] => { results := [.lit (.bool false)], args := [d1, d2, d3] }
  | _ => none }
def PostPlainWrongFalsely : Prop := postPlainRow.holds Try.pinned (OpenSpec.ofChange postPlainWrong)

/-- 'parlourlaw12.PostJoins': WHATEVER THE INPUT: true; the input reads as it did. -/
def postJoinsSpec : ChangeSpec := { name := "postJoins", fn := fun _ => fun
  | [d] => { results := [.lit (.bool true)], args := [d] }
  | _ => none }
def postJoinsRow : OpenClaim := { program := "ytjncahcigbdbgaa", sum := "eae44bea56175da0f1a2504c04f00898f2368dc26e381d438feb50da2c05d5b4", func := "parlour/parlourlaw12.PostJoins", spec := "postJoins", unfollowed := true, recurses := true, apart := false }
def PostJoinsSaid : Prop := postJoinsRow.holds Try.pinned (OpenSpec.ofChange postJoinsSpec)

/-- ITS FALSE NEIGHBOUR: 'it returns false'. Refute it at one input. -/
def postJoinsWrong : ChangeSpec := { name := "postJoins", fn := fun _ => fun
  | [d] => { results := [.lit (.bool false)], args := [d] }
  | _ => none }
def PostJoinsWrongFalsely : Prop := postJoinsRow.holds Try.pinned (OpenSpec.ofChange postJoinsWrong)

/- THE SECOND FORM. 'bulk': how many values and letters a reading holds, each counted each time it is reached (what is shared counts as often as it is met; a slice's spare places count too). A statement '..UptoSaid' is the law's where the arguments, and the package variables that the reading takes, are together of bulk at most 1048576: NARROWER than '..Said'. Prove '..Said' where nothing that the law and all that it calls make is longer than what came in: it says more and counts as full. Else prove '..UptoSaid'. A law counts once. -/
mutual
def uptoBulk {H : Type} : DataW H → Nat
  | .lit (.string bytes) => bytes.length + 1
  | .lit _ => 1
  | .nil => 1
  | .ptr d => uptoBulk d + 1
  | .slice elems spare => uptoBulkAll elems + uptoBulkAll spare + 1
  | .agg parts => uptoBulkAll parts + 1
  | .iface _ d => uptoBulk d + 1
  | .map entries => uptoBulkEntries entries + 1
  | .held _ => 1
def uptoBulkAll {H : Type} : List (DataW H) → Nat
  | [] => 0
  | d :: r => uptoBulk d + uptoBulkAll r
def uptoBulkEntries {H : Type} : List (Lit × DataW H) → Nat
  | [] => 0
  | x :: r => uptoBulkEntry x + uptoBulkEntries r
def uptoBulkEntry {H : Type} : Lit × DataW H → Nat
  | (.string bytes, d) => bytes.length + uptoBulk d + 1
  | (_, d) => uptoBulk d + 1
 end
def uptoSmall : (H : Type) → List (DataW H) → Bool := fun _ ds => decide (uptoBulkAll ds ≤ 1048576)
def OpenSpec.upto (s : _root_.Go.ChangeSpec) : _root_.Go.OpenSpec := { _root_.Go.OpenSpec.ofChange s with cond := some uptoSmall }

/-- 'parlourlaw12.PostIs', WHERE WHAT IT READS IS OF BULK AT MOST 1048576: true; the input reads as it did. -/
def postIsUptoRow : OpenClaim := { program := "ytjncahcigbdbgaa", sum := "eae44bea56175da0f1a2504c04f00898f2368dc26e381d438feb50da2c05d5b4", func := "parlour/parlourlaw12.PostIs", spec := "postIs", unfollowed := true, recurses := true, apart := false, narrowed := true }
def PostIsUptoSaid : Prop := postIsUptoRow.holds Try.pinned (OpenSpec.upto postIsSpec)

/-- 'parlourlaw12.PostFits', WHERE WHAT IT READS IS OF BULK AT MOST 1048576: true; the input reads as it did. -/
def postFitsUptoRow : OpenClaim := { program := "ytjncahcigbdbgaa", sum := "eae44bea56175da0f1a2504c04f00898f2368dc26e381d438feb50da2c05d5b4", func := "parlour/parlourlaw12.PostFits", spec := "postFits", unfollowed := true, recurses := true, apart := false, narrowed := true }
def PostFitsUptoSaid : Prop := postFitsUptoRow.holds Try.pinned (OpenSpec.upto postFitsSpec)

/-- 'parlourlaw12.PostPlain', WHERE WHAT IT READS IS OF BULK AT MOST 1048576: true; the input reads as it did. -/
def postPlainUptoRow : OpenClaim := { program := "ytjncahcigbdbgaa", sum := "eae44bea56175da0f1a2504c04f00898f2368dc26e381d438feb50da2c05d5b4", func := "parlour/parlourlaw12.PostPlain", spec := "postPlain", unfollowed := true, recurses := true, apart := false, narrowed := true }
def PostPlainUptoSaid : Prop := postPlainUptoRow.holds Try.pinned (OpenSpec.upto postPlainSpec)

/-- 'parlourlaw12.PostJoins', WHERE WHAT IT READS IS OF BULK AT MOST 1048576: true; the input reads as it did. -/
def postJoinsUptoRow : OpenClaim := { program := "ytjncahcigbdbgaa", sum := "eae44bea56175da0f1a2504c04f00898f2368dc26e381d438feb50da2c05d5b4", func := "parlour/parlourlaw12.PostJoins", spec := "postJoins", unfollowed := true, recurses := true, apart := false, narrowed := true }
def PostJoinsUptoSaid : Prop := postJoinsUptoRow.holds Try.pinned (OpenSpec.upto postJoinsSpec)

end Rows
end Go.Proofs.Ytjncahcigbdbgaa
