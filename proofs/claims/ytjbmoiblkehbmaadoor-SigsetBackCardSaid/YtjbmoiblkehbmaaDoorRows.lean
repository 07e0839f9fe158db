/-
  NARROWER THAN 'FOR EVERY INPUT', by the rows' own cells (each row's printed sentence says how): SigsetNames: laid · SigsetSets: laid · SigsetActs: laid · SigsetPicks: laid · SigsetBack: laid.
  DERIVED. THE GIVEN ROWS OF THIS SEAT. 5 by the template 'for every input the law returns true; each argument reads behind the call as it read before'; 0 by the template 'total and deterministic' (their statements: YtjbmoiblkehbmaaDoorTotals.lean).
  GIVEN WITH THE SEED: the statements are not yours to turn. If you find one false, say at which input.
  Laid BY PROGRAM, IN A SANDBOX (cutbox-rows.mjs): the forced cells as the released guide's own fill.sh prints them over the translation a8229dc35aee0de0… (all of the seat's roots in one cut). By AI agents, Wed Nov 11 2026. No macro, syntax, notation, axiom, sorry.
-/
import Derived.Test.YtjbmoiblkehbmaaDoorChecked
import GoSem.Claim
import GoSem.ClaimJoined
import GoSem.ClaimMapViews
import Derived.JoinedTies
import Derived.KernelRfl
namespace Go.Proofs.YtjbmoiblkehbmaaDoor
/- THE CELL 'sum', in the pinned program and in every row, IS THE sha256 OF THE DUMP (.gsa) THAT YtjbmoiblkehbmaaDoorProg.lean LOADS. Nothing in Lean hashes anything: it is a label: what it is worth is what the hold of that sum in a sandbox is worth. -/
noncomputable def Tryd.pinned : Pinned := { name := "ytjbmoiblkehbmaadoor", sum := "a8229dc35aee0de022df1e9e61c0dd9c10eaa3ff0e909e62372cc781d9e927f7", checked := Tryd.checked }
namespace Rows
def none {H : Type} : Left H := { results := [], args := [] }

/- WHAT THE LISTED PACKAGE-LEVEL VARIABLES READ AS WHEN THE CALL BEGINS. Each datum BY PROGRAM (the guide's laid-datum.mjs) off the statement by which the dump's own 'gosem.cut.vars' lays the variable. In a bare row this is a premise. The card (YtjbmoiblkehbmaaDoorCards.lean) ties it to the program's text. -/
def laid_parlour_sigset_signals {H : Type} : DataW H := .agg [.agg [.lit (.string []), .lit (.int .i64 0), .lit (.bool false)], .agg [.lit (.string [72, 85, 80]), .lit (.int .i64 1), .lit (.bool true)], .agg [.lit (.string [73, 78, 84]), .lit (.int .i64 1), .lit (.bool true)], .agg [.lit (.string [81, 85, 73, 84]), .lit (.int .i64 2), .lit (.bool true)], .agg [.lit (.string [73, 76, 76]), .lit (.int .i64 2), .lit (.bool true)], .agg [.lit (.string [84, 82, 65, 80]), .lit (.int .i64 2), .lit (.bool false)], .agg [.lit (.string [65, 66, 82, 84]), .lit (.int .i64 2), .lit (.bool true)], .agg [.lit (.string [66, 85, 83]), .lit (.int .i64 2), .lit (.bool false)], .agg [.lit (.string [70, 80, 69]), .lit (.int .i64 2), .lit (.bool true)], .agg [.lit (.string [75, 73, 76, 76]), .lit (.int .i64 1), .lit (.bool true)], .agg [.lit (.string [85, 83, 82, 49]), .lit (.int .i64 1), .lit (.bool true)], .agg [.lit (.string [83, 69, 71, 86]), .lit (.int .i64 2), .lit (.bool true)], .agg [.lit (.string [85, 83, 82, 50]), .lit (.int .i64 1), .lit (.bool true)], .agg [.lit (.string [80, 73, 80, 69]), .lit (.int .i64 1), .lit (.bool true)], .agg [.lit (.string [65, 76, 82, 77]), .lit (.int .i64 1), .lit (.bool true)], .agg [.lit (.string [84, 69, 82, 77]), .lit (.int .i64 1), .lit (.bool true)], .agg [.lit (.string []), .lit (.int .i64 0), .lit (.bool false)], .agg [.lit (.string [67, 72, 76, 68]), .lit (.int .i64 3), .lit (.bool false)], .agg [.lit (.string [67, 79, 78, 84]), .lit (.int .i64 5), .lit (.bool false)], .agg [.lit (.string [83, 84, 79, 80]), .lit (.int .i64 4), .lit (.bool false)], .agg [.lit (.string [84, 83, 84, 80]), .lit (.int .i64 4), .lit (.bool false)], .agg [.lit (.string [84, 84, 73, 78]), .lit (.int .i64 4), .lit (.bool false)], .agg [.lit (.string [84, 84, 79, 85]), .lit (.int .i64 4), .lit (.bool false)], .agg [.lit (.string []), .lit (.int .i64 0), .lit (.bool false)], .agg [.lit (.string []), .lit (.int .i64 0), .lit (.bool false)], .agg [.lit (.string []), .lit (.int .i64 0), .lit (.bool false)], .agg [.lit (.string []), .lit (.int .i64 0), .lit (.bool false)], .agg [.lit (.string []), .lit (.int .i64 0), .lit (.bool false)], .agg [.lit (.string [87, 73, 78, 67, 72]), .lit (.int .i64 3), .lit (.bool false)]]

/-- 'parlourlaw18.SigsetNames': WHATEVER THE INPUT: true; the input reads as it did. -/
def sigsetNamesSpec : ChangeSpec := { name := "sigsetNames", fn := fun _ => fun
  | [d1, d2] => { results := [.lit (.bool true)], args := [d1, d2] }
  | _ => none }
def sigsetNamesRow : OpenClaim := { program := "ytjbmoiblkehbmaadoor", sum := "a8229dc35aee0de022df1e9e61c0dd9c10eaa3ff0e909e62372cc781d9e927f7", func := "parlour/parlourlaw18.SigsetNames", spec := "sigsetNames", unfollowed := true, recurses := true, named := ["parlour/sigset.signals"], apart := false, laid := [("parlour/sigset.signals", laid_parlour_sigset_signals)] }
def SigsetNamesSaid : Prop := sigsetNamesRow.holds Tryd.pinned (OpenSpec.ofChange sigsetNamesSpec)

/-- ITS FALSE NEIGHBOUR: 'it returns false'. Refute it at one input. -/
def sigsetNamesWrong : ChangeSpec := { name := "sigsetNames", fn := fun _ => fun
  | [d1, d2] => { results := [.lit (.bool false)], args := [d1, d2] }
  | _ => none }
def SigsetNamesWrongFalsely : Prop := sigsetNamesRow.holds Tryd.pinned (OpenSpec.ofChange sigsetNamesWrong)

/-- 'parlourlaw18.SigsetSets': WHATEVER THE INPUT: true; the input reads as it did. -/
def sigsetSetsSpec : ChangeSpec := { name := "sigsetSets", fn := fun _ => fun
  | [d1, d2, d3] => { results := [.lit (.bool true)], args := [d1, d2, d3] }
  | _ => none }
def sigsetSetsRow : OpenClaim := { program := "ytjbmoiblkehbmaadoor", sum := "a8229dc35aee0de022df1e9e61c0dd9c10eaa3ff0e909e62372cc781d9e927f7", func := "parlour/parlourlaw18.SigsetSets", spec := "sigsetSets", unfollowed := true, recurses := true, named := ["parlour/sigset.signals"], apart := false, laid := [("parlour/sigset.signals", laid_parlour_sigset_signals)] }
def SigsetSetsSaid : Prop := sigsetSetsRow.holds Tryd.pinned (OpenSpec.ofChange sigsetSetsSpec)

/-- ITS FALSE NEIGHBOUR: 'it returns false'. Refute it at one input. -/
def sigsetSetsWrong : ChangeSpec := { name := "sigsetSets", fn := fun _ => fun
  | [d1, d2, d3] => { results := [.lit (.bool false)], args := [d1, d2, d3] }
  | _ => none }
def SigsetSetsWrongFalsely : Prop := sigsetSetsRow.holds Tryd.pinned (OpenSpec.ofChange sigsetSetsWrong)

/-- 'parlourlaw18.SigsetActs': WHATEVER THE INPUT: true; the input reads as it did. -/
def sigsetActsSpec : ChangeSpec := { name := "sigsetActs", fn := fun _ => fun
  | [d1, d2, d3] => { results := [.lit (.bool true)], args := [d1, d2, d3] }
  | _ => none }
def sigsetActsRow : OpenClaim := { program := "ytjbmoiblkehbmaadoor", sum := "a8229dc35aee0de022df1e9e61c0dd9c10eaa3ff0e909e62372cc781d9e927f7", func := "parlour/parlourlaw18.SigsetActs", spec := "sigsetActs", unfollowed := true, recurses := true, named := ["parlour/sigset.signals"], apart := false, laid := [("parlour/sigset.signals", laid_parlour_sigset_signals)] }
def SigsetActsSaid : Prop := sigsetActsRow.holds Tryd.pinned (OpenSpec.ofChange sigsetActsSpec)

/-- ITS FALSE NEIGHBOUR: 'it returns false'. Refute it at one input. -/
def sigsetActsWrong : ChangeSpec := { name := "sigsetActs", fn := fun _ => fun
  | [d1, d2, d3] => { results := [.lit (.bool false)], args := [d1, d2, d3] }
  | _ => none }
def SigsetActsWrongFalsely : Prop := sigsetActsRow.holds Tryd.pinned (OpenSpec.ofChange sigsetActsWrong)

/-- 'parlourlaw18.SigsetPicks': WHATEVER THE INPUT: true; the input reads as it did. -/
def sigsetPicksSpec : ChangeSpec := { name := "sigsetPicks", fn := fun _ => fun
  | [d1, d2] => { results := [.lit (.bool true)], args := [d1, d2] }
  | _ => none }
def sigsetPicksRow : OpenClaim := { program := "ytjbmoiblkehbmaadoor", sum := "a8229dc35aee0de022df1e9e61c0dd9c10eaa3ff0e909e62372cc781d9e927f7", func := "parlour/parlourlaw18.SigsetPicks", spec := "sigsetPicks", unfollowed := true, recurses := true, named := ["parlour/sigset.signals"], apart := false, laid := [("parlour/sigset.signals", laid_parlour_sigset_signals)] }
def SigsetPicksSaid : Prop := sigsetPicksRow.holds Tryd.pinned (OpenSpec.ofChange sigsetPicksSpec)

/-- ITS FALSE NEIGHBOUR: 'it returns false'. Refute it at one input. -/
def sigsetPicksWrong : ChangeSpec := { name := "sigsetPicks", fn := fun _ => fun
  | [d1, d2] => { results := [.lit (.bool false)], args := [d1, d2] }
  | _ => none }
def SigsetPicksWrongFalsely : Prop := sigsetPicksRow.holds Tryd.pinned (OpenSpec.ofChange sigsetPicksWrong)

/-- 'parlourlaw18.SigsetBack': WHATEVER THE INPUT: true; the input reads as it did. -/
def sigsetBackSpec : ChangeSpec := { name := "sigsetBack", fn := fun _ => fun
  | [d1, d2, d3] => { results := [.lit (.bool true)], args := [d1, d2, d3] }
  | _ => none }
def sigsetBackRow : OpenClaim := { program := "ytjbmoiblkehbmaadoor", sum := "a8229dc35aee0de022df1e9e61c0dd9c10eaa3ff0e909e62372cc781d9e927f7", func := "parlour/parlourlaw18.SigsetBack", spec := "sigsetBack", unfollowed := true, recurses := true, named := ["parlour/sigset.signals"], apart := false, laid := [("parlour/sigset.signals", laid_parlour_sigset_signals)] }
def SigsetBackSaid : Prop := sigsetBackRow.holds Tryd.pinned (OpenSpec.ofChange sigsetBackSpec)

/-- ITS FALSE NEIGHBOUR: 'it returns false'. Refute it at one input. -/
def sigsetBackWrong : ChangeSpec := { name := "sigsetBack", fn := fun _ => fun
  | [d1, d2, d3] => { results := [.lit (.bool false)], args := [d1, d2, d3] }
  | _ => none }
def SigsetBackWrongFalsely : Prop := sigsetBackRow.holds Tryd.pinned (OpenSpec.ofChange sigsetBackWrong)

/- THE SECOND FORM. 'bulk': how many values and letters a reading holds, each counted each time it is reached (what is shared counts as often as it is met; a slice's spare places count too). A statement '..UptoSaid' is the law's where the arguments, and the package variables that the reading takes, are together of bulk at most 1048576: NARROWER than '..Said'. Prove '..Said' where nothing that the law and all that it calls make is longer than what came in: it says more and counts as full. Else prove '..UptoSaid'. A law counts once. -/
mutual
def uptoBulk {H : Type} : DataW H → Nat
  | .lit (.string bytes) => bytes.length + 1
  | .lit _ => 1
  | .nil => 1
  | .ptr d => uptoBulk d + 1
  | .slice elems spare => uptoBulkAll elems + uptoBulkAll spare + 1
  | .agg parts => uptoBulkAll parts + 1
  | .iface _ d => uptoBulk d + 1
  | .map entries => uptoBulkEntries entries + 1
  | .held _ => 1
def uptoBulkAll {H : Type} : List (DataW H) → Nat
  | [] => 0
  | d :: r => uptoBulk d + uptoBulkAll r
def uptoBulkEntries {H : Type} : List (Lit × DataW H) → Nat
  | [] => 0
  | x :: r => uptoBulkEntry x + uptoBulkEntries r
def uptoBulkEntry {H : Type} : Lit × DataW H → Nat
  | (.string bytes, d) => bytes.length + uptoBulk d + 1
  | (_, d) => uptoBulk d + 1
 end
def uptoSmall : (H : Type) → List (DataW H) → Bool := fun _ ds => decide (uptoBulkAll ds ≤ 1048576)
def OpenSpec.upto (s : _root_.Go.ChangeSpec) : _root_.Go.OpenSpec := { _root_.Go.OpenSpec.ofChange s with cond := some uptoSmall }

/-- 'parlourlaw18.SigsetNames', WHERE WHAT IT READS IS OF BULK AT MOST 1048576: true; the input reads as it did. -/
def sigsetNamesUptoRow : OpenClaim := { program := "ytjbmoiblkehbmaadoor", sum := "a8229dc35aee0de022df1e9e61c0dd9c10eaa3ff0e909e62372cc781d9e927f7", func := "parlour/parlourlaw18.SigsetNames", spec := "sigsetNames", unfollowed := true, recurses := true, named := ["parlour/sigset.signals"], apart := false, laid := [("parlour/sigset.signals", laid_parlour_sigset_signals)], narrowed := true }
def SigsetNamesUptoSaid : Prop := sigsetNamesUptoRow.holds Tryd.pinned (OpenSpec.upto sigsetNamesSpec)

/-- 'parlourlaw18.SigsetSets', WHERE WHAT IT READS IS OF BULK AT MOST 1048576: true; the input reads as it did. -/
def sigsetSetsUptoRow : OpenClaim := { program := "ytjbmoiblkehbmaadoor", sum := "a8229dc35aee0de022df1e9e61c0dd9c10eaa3ff0e909e62372cc781d9e927f7", func := "parlour/parlourlaw18.SigsetSets", spec := "sigsetSets", unfollowed := true, recurses := true, named := ["parlour/sigset.signals"], apart := false, laid := [("parlour/sigset.signals", laid_parlour_sigset_signals)], narrowed := true }
def SigsetSetsUptoSaid : Prop := sigsetSetsUptoRow.holds Tryd.pinned (OpenSpec.upto sigsetSetsSpec)

/-- 'parlourlaw18.SigsetActs', WHERE WHAT IT READS IS OF BULK AT MOST 1048576: true; the input reads as it did. -/
def sigsetActsUptoRow : OpenClaim := { program := "ytjbmoiblkehbmaadoor", sum := "a8229dc35aee0de022df1e9e61c0dd9c10eaa3ff0e909e62372cc781d9e927f7", func := "parlour/parlourlaw18.SigsetActs", spec := "sigsetActs", unfollowed := true, recurses := true, named := ["parlour/sigset.signals"], apart := false, laid := [("parlour/sigset.signals", laid_parlour_sigset_signals)], narrowed := true }
def SigsetActsUptoSaid : Prop := sigsetActsUptoRow.holds Tryd.pinned (OpenSpec.upto sigsetActsSpec)

/-- 'parlourlaw18.SigsetPicks', WHERE WHAT IT READS IS OF BULK AT MOST 1048576: true; the input reads as it did. -/
def sigsetPicksUptoRow : OpenClaim := { program := "ytjbmoiblkehbmaadoor", sum := "a8229dc35aee0de022df1e9e61c0dd9c10eaa3ff0e909e62372cc781d9e927f7", func := "parlour/parlourlaw18.SigsetPicks", spec := "sigsetPicks", unfollowed := true, recurses := true, named := ["parlour/sigset.signals"], apart := false, laid := [("parlour/sigset.signals", laid_parlour_sigset_signals)], narrowed := true }
def SigsetPicksUptoSaid : Prop := sigsetPicksUptoRow.holds Tryd.pinned (OpenSpec.upto sigsetPicksSpec)

/-- 'parlourlaw18.SigsetBack', WHERE WHAT IT READS IS OF BULK AT MOST 1048576: true; the input reads as it did. -/
def sigsetBackUptoRow : OpenClaim := { program := "ytjbmoiblkehbmaadoor", sum := "a8229dc35aee0de022df1e9e61c0dd9c10eaa3ff0e909e62372cc781d9e927f7", func := "parlour/parlourlaw18.SigsetBack", spec := "sigsetBack", unfollowed := true, recurses := true, named := ["parlour/sigset.signals"], apart := false, laid := [("parlour/sigset.signals", laid_parlour_sigset_signals)], narrowed := true }
def SigsetBackUptoSaid : Prop := sigsetBackUptoRow.holds Tryd.pinned (OpenSpec.upto sigsetBackSpec)

end Rows
end Go.Proofs.YtjbmoiblkehbmaaDoor
