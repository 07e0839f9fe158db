/-
  No cell of these rows narrows 'for every input' (looked for: loops, veiled, ifaces, maps, wideKeys, modest, calm, conditions, laid).
  DERIVED. THE GIVEN ROWS OF THIS SEAT. 4 by the template 'for every input the law returns true; each argument reads behind the call as it read before'; 0 by the template 'total and deterministic' (their statements: YtnodlpbmlfdijaaTotals.lean).
  GIVEN WITH THE SEED: the statements are not yours to turn. If you find one false, say at which input.
  Laid BY PROGRAM, IN A SANDBOX (cutbox-rows.mjs): the forced cells as the released guide's own fill.sh prints them over the translation da70aa46bdfc8409… (all of the seat's roots in one cut). By AI agents, Wed Nov 11 2026. No macro, syntax, notation, axiom, sorry.
-/
import Derived.Test.YtnodlpbmlfdijaaChecked
import GoSem.Claim
import GoSem.ClaimJoined
import GoSem.ClaimMapViews
import Derived.JoinedTies
import Derived.KernelRfl
namespace Go.Proofs.Ytnodlpbmlfdijaa
/- THE CELL 'sum', in the pinned program and in every row, IS THE sha256 OF THE DUMP (.gsa) THAT YtnodlpbmlfdijaaProg.lean LOADS. Nothing in Lean hashes anything: it is a label: what it is worth is what the hold of that sum in a sandbox is worth. -/
noncomputable def Try.pinned : Pinned := { name := "ytnodlpbmlfdijaa", sum := "da70aa46bdfc840907901c450ff305aca258b58887f24e6e3e4e842b501b5dd4", checked := Try.checked }
namespace Rows
def none {H : Type} : Left H := { results := [], args := [] }

/-- 'parlourlaw10.EditorIs': WHATEVER THE INPUT: true; the input reads as it did. -/
def editorIsSpec : ChangeSpec := { name := "editorIs", fn := fun _ => fun
  | [d1, d2, d3] => { results := [.lit (.bool true)], args := [d1, d2, d3] }
  | _ => none }
def editorIsRow : OpenClaim := { program := "ytnodlpbmlfdijaa", sum := "da70aa46bdfc840907901c450ff305aca258b58887f24e6e3e4e842b501b5dd4", func := "parlour/parlourlaw10.EditorIs", spec := "editorIs", unfollowed := true, recurses := true, apart := false }
def EditorIsSaid : Prop := editorIsRow.holds Try.pinned (OpenSpec.ofChange editorIsSpec)

/-- ITS FALSE NEIGHBOUR: 'it returns false'. Refute it at one input. -/
def editorIsWrong : ChangeSpec := { name := "editorIs", fn := fun _ => fun
  | [d1, d2, d3] => { results := [.lit (.bool false)], args := [d1, d2, d3] }
  | _ => none }
def EditorIsWrongFalsely : Prop := editorIsRow.holds Try.pinned (OpenSpec.ofChange editorIsWrong)

/-- 'parlourlaw10.EditorErases': WHATEVER THE INPUT: true; the input reads as it did. -/
def editorErasesSpec : ChangeSpec := { name := "editorErases", fn := fun _ => fun
  | [d1, d2] => { results := [.lit (.bool true)], args := [d1, d2] }
  | _ => none }
def editorErasesRow : OpenClaim := { program := "ytnodlpbmlfdijaa", sum := "da70aa46bdfc840907901c450ff305aca258b58887f24e6e3e4e842b501b5dd4", func := "parlour/parlourlaw10.EditorErases", spec := "editorErases", unfollowed := true, recurses := true, apart := false }
def EditorErasesSaid : Prop := editorErasesRow.holds Try.pinned (OpenSpec.ofChange editorErasesSpec)

/-- ITS FALSE NEIGHBOUR: 'it returns false'. Refute it at one input. -/
def editorErasesWrong : ChangeSpec := { name := "editorErases", fn := fun _ => fun
  | [d1, d2] => { results := [.lit (.bool false)], args := [d1, d2] }
  | _ => none }
def EditorErasesWrongFalsely : Prop := editorErasesRow.holds Try.pinned (OpenSpec.ofChange editorErasesWrong)

/-- 'parlourlaw10.EditorWords': WHATEVER THE INPUT: true; the input reads as it did. -/
def editorWordsSpec : ChangeSpec := { name := "editorWords", fn := fun _ => fun
  | [d1, d2] => { results := [.lit (.bool true)], args := [d1, d2] }
  | _ => none }
def editorWordsRow : OpenClaim := { program := "ytnodlpbmlfdijaa", sum := "da70aa46bdfc840907901c450ff305aca258b58887f24e6e3e4e842b501b5dd4", func := "parlour/parlourlaw10.EditorWords", spec := "editorWords", unfollowed := true, recurses := true, apart := false }
def EditorWordsSaid : Prop := editorWordsRow.holds Try.pinned (OpenSpec.ofChange editorWordsSpec)

/-- ITS FALSE NEIGHBOUR: 'it returns false'. Refute it at one input. -/
def editorWordsWrong : ChangeSpec := { name := "editorWords", fn := fun _ => fun
  | [d1, d2] => { results := [.lit (.bool false)], args := [d1, d2] }
  | _ => none }
def EditorWordsWrongFalsely : Prop := editorWordsRow.holds Try.pinned (OpenSpec.ofChange editorWordsWrong)

/-- 'parlourlaw10.EditorText': WHATEVER THE INPUT: true; the input reads as it did. -/
def editorTextSpec : ChangeSpec := { name := "editorText", fn := fun _ => fun
  | [d1, d2] => { results := [.lit (.bool true)], args := [d1, d2] }
  | _ => none }
def editorTextRow : OpenClaim := { program := "ytnodlpbmlfdijaa", sum := "da70aa46bdfc840907901c450ff305aca258b58887f24e6e3e4e842b501b5dd4", func := "parlour/parlourlaw10.EditorText", spec := "editorText", unfollowed := true, recurses := true, apart := false }
def EditorTextSaid : Prop := editorTextRow.holds Try.pinned (OpenSpec.ofChange editorTextSpec)

/-- ITS FALSE NEIGHBOUR: 'it returns false'. Refute it at one input. -/
def editorTextWrong : ChangeSpec := { name := "editorText", fn := fun _ => fun
  | [d1, d2] => { results := [.lit (.bool false)], args := [d1, d2] }
  | _ => none }
def EditorTextWrongFalsely : Prop := editorTextRow.holds Try.pinned (OpenSpec.ofChange editorTextWrong)

/- THE SECOND FORM. 'bulk': how many values and letters a reading holds, each counted each time it is reached (what is shared counts as often as it is met; a slice's spare places count too). A statement '..UptoSaid' is the law's where the arguments, and the package variables that the reading takes, are together of bulk at most 1048576: NARROWER than '..Said'. Prove '..Said' where nothing that the law and all that it calls make is longer than what came in: it says more and counts as full. Else prove '..UptoSaid'. A law counts once. -/
mutual
def uptoBulk {H : Type} : DataW H → Nat
  | .lit (.string bytes) => bytes.length + 1
  | .lit _ => 1
  | .nil => 1
  | .ptr d => uptoBulk d + 1
  | .slice elems spare => uptoBulkAll elems + uptoBulkAll spare + 1
  | .agg parts => uptoBulkAll parts + 1
  | .iface _ d => uptoBulk d + 1
  | .map entries => uptoBulkEntries entries + 1
  | .held _ => 1
def uptoBulkAll {H : Type} : List (DataW H) → Nat
  | [] => 0
  | d :: r => uptoBulk d + uptoBulkAll r
def uptoBulkEntries {H : Type} : List (Lit × DataW H) → Nat
  | [] => 0
  | x :: r => uptoBulkEntry x + uptoBulkEntries r
def uptoBulkEntry {H : Type} : Lit × DataW H → Nat
  | (.string bytes, d) => bytes.length + uptoBulk d + 1
  | (_, d) => uptoBulk d + 1
 end
def uptoSmall : (H : Type) → List (DataW H) → Bool := fun _ ds => decide (uptoBulkAll ds ≤ 1048576)
def OpenSpec.upto (s : _root_.Go.ChangeSpec) : _root_.Go.OpenSpec := { _root_.Go.OpenSpec.ofChange s with cond := some uptoSmall }

/-- 'parlourlaw10.EditorIs', WHERE WHAT IT READS IS OF BULK AT MOST 1048576: true; the input reads as it did. -/
def editorIsUptoRow : OpenClaim := { program := "ytnodlpbmlfdijaa", sum := "da70aa46bdfc840907901c450ff305aca258b58887f24e6e3e4e842b501b5dd4", func := "parlour/parlourlaw10.EditorIs", spec := "editorIs", unfollowed := true, recurses := true, apart := false, narrowed := true }
def EditorIsUptoSaid : Prop := editorIsUptoRow.holds Try.pinned (OpenSpec.upto editorIsSpec)

/-- 'parlourlaw10.EditorErases', WHERE WHAT IT READS IS OF BULK AT MOST 1048576: true; the input reads as it did. -/
def editorErasesUptoRow : OpenClaim := { program := "ytnodlpbmlfdijaa", sum := "da70aa46bdfc840907901c450ff305aca258b58887f24e6e3e4e842b501b5dd4", func := "parlour/parlourlaw10.EditorErases", spec := "editorErases", unfollowed := true, recurses := true, apart := false, narrowed := true }
def EditorErasesUptoSaid : Prop := editorErasesUptoRow.holds Try.pinned (OpenSpec.upto editorErasesSpec)

/-- 'parlourlaw10.EditorWords', WHERE WHAT IT READS IS OF BULK AT MOST 1048576: true; the input reads as it did. -/
def editorWordsUptoRow : OpenClaim := { program := "ytnodlpbmlfdijaa", sum := "da70aa46bdfc840907901c450ff305aca258b58887f24e6e3e4e842b501b5dd4", func := "parlour/parlourlaw10.EditorWords", spec := "editorWords", unfollowed := true, recurses := true, apart := false, narrowed := true }
def EditorWordsUptoSaid : Prop := editorWordsUptoRow.holds Try.pinned (OpenSpec.upto editorWordsSpec)

/-- 'parlourlaw10.EditorText', WHERE WHAT IT READS IS OF BULK AT MOST 1048576: true; the input reads as it did. -/
def editorTextUptoRow : OpenClaim := { program := "ytnodlpbmlfdijaa", sum := "da70aa46bdfc840907901c450ff305aca258b58887f24e6e3e4e842b501b5dd4", func := "parlour/parlourlaw10.EditorText", spec := "editorText", unfollowed := true, recurses := true, apart := false, narrowed := true }
def EditorTextUptoSaid : Prop := editorTextUptoRow.holds Try.pinned (OpenSpec.upto editorTextSpec)

end Rows
end Go.Proofs.Ytnodlpbmlfdijaa
