/-
  DERIVED. GIVEN WITH THE SEED: THE CARDS: each row of YtjbmoiblkehbmaaDoorRows.lean that lists a variable, with what it lists TIED to the program's text (the seventh form; the later family's looks); each row that meets fmt, with fmt's text TOLD by the authors' own Lean function (tested against real Go, not proved from fmt's source: count such statements apart). THE CARD IS WHAT COUNTS. Prove the row's statement (the work); the ties are given (YtjbmoiblkehbmaaDoorTie.lean); close each card by the builder's one call (the guide's Derived/Test/ToyasCard.lean, 'card_holds'). Laid BY PROGRAM, IN A SANDBOX (cutbox-door.mjs). By AI agents, Wed Nov 11 2026. No macro, syntax, notation, axiom, sorry.
-/
import Derived.Test.YtjbmoiblkehbmaaDoorRows
import GoSem.ClaimSeven
namespace Go.Proofs.YtjbmoiblkehbmaaDoor
namespace Rows

/-- THE TIED CARD OF 'parlourlaw18.SigsetNames'. -/
def sigsetNamesCard : Claim7 := { stood := { row := sigsetNamesRow, standIns := [], harness := (true, "cb81c010ce613096f461f31c9350a84a3b11a2d411321f716d3fe002466fe7af"), looks := false }, kinds := [], alts := [], laidByText := true, laidKinds := [.data], laidTests := true, laidLooks := .later }
def SigsetNamesCardSaid : Prop := Claim7.holds Tryd.pinned (.plain (OpenSpec.ofChange sigsetNamesSpec)) sigsetNamesCard

/-- THE TIED CARD OF 'parlourlaw18.SigsetSets'. -/
def sigsetSetsCard : Claim7 := { stood := { row := sigsetSetsRow, standIns := [], harness := (true, "cb81c010ce613096f461f31c9350a84a3b11a2d411321f716d3fe002466fe7af"), looks := false }, kinds := [], alts := [], laidByText := true, laidKinds := [.data], laidTests := true, laidLooks := .later }
def SigsetSetsCardSaid : Prop := Claim7.holds Tryd.pinned (.plain (OpenSpec.ofChange sigsetSetsSpec)) sigsetSetsCard

/-- THE TIED CARD OF 'parlourlaw18.SigsetActs'. -/
def sigsetActsCard : Claim7 := { stood := { row := sigsetActsRow, standIns := [], harness := (true, "cb81c010ce613096f461f31c9350a84a3b11a2d411321f716d3fe002466fe7af"), looks := false }, kinds := [], alts := [], laidByText := true, laidKinds := [.data], laidTests := true, laidLooks := .later }
def SigsetActsCardSaid : Prop := Claim7.holds Tryd.pinned (.plain (OpenSpec.ofChange sigsetActsSpec)) sigsetActsCard

/-- THE TIED CARD OF 'parlourlaw18.SigsetPicks'. -/
def sigsetPicksCard : Claim7 := { stood := { row := sigsetPicksRow, standIns := [], harness := (true, "cb81c010ce613096f461f31c9350a84a3b11a2d411321f716d3fe002466fe7af"), looks := false }, kinds := [], alts := [], laidByText := true, laidKinds := [.data], laidTests := true, laidLooks := .later }
def SigsetPicksCardSaid : Prop := Claim7.holds Tryd.pinned (.plain (OpenSpec.ofChange sigsetPicksSpec)) sigsetPicksCard

/-- THE TIED CARD OF 'parlourlaw18.SigsetBack'. -/
def sigsetBackCard : Claim7 := { stood := { row := sigsetBackRow, standIns := [], harness := (true, "cb81c010ce613096f461f31c9350a84a3b11a2d411321f716d3fe002466fe7af"), looks := false }, kinds := [], alts := [], laidByText := true, laidKinds := [.data], laidTests := true, laidLooks := .later }
def SigsetBackCardSaid : Prop := Claim7.holds Tryd.pinned (.plain (OpenSpec.ofChange sigsetBackSpec)) sigsetBackCard

/-- THE SECOND FORM's CARD OF 'parlourlaw18.SigsetNames'. -/
def sigsetNamesUptoCard : Claim7 := { stood := { row := sigsetNamesUptoRow, standIns := [], harness := (true, "cb81c010ce613096f461f31c9350a84a3b11a2d411321f716d3fe002466fe7af"), looks := false }, kinds := [], alts := [], laidByText := true, laidKinds := [.data], laidTests := true, laidLooks := .later }
def SigsetNamesUptoCardSaid : Prop := Claim7.holds Tryd.pinned (.plain (OpenSpec.upto sigsetNamesSpec)) sigsetNamesUptoCard

/-- THE SECOND FORM's CARD OF 'parlourlaw18.SigsetSets'. -/
def sigsetSetsUptoCard : Claim7 := { stood := { row := sigsetSetsUptoRow, standIns := [], harness := (true, "cb81c010ce613096f461f31c9350a84a3b11a2d411321f716d3fe002466fe7af"), looks := false }, kinds := [], alts := [], laidByText := true, laidKinds := [.data], laidTests := true, laidLooks := .later }
def SigsetSetsUptoCardSaid : Prop := Claim7.holds Tryd.pinned (.plain (OpenSpec.upto sigsetSetsSpec)) sigsetSetsUptoCard

/-- THE SECOND FORM's CARD OF 'parlourlaw18.SigsetActs'. -/
def sigsetActsUptoCard : Claim7 := { stood := { row := sigsetActsUptoRow, standIns := [], harness := (true, "cb81c010ce613096f461f31c9350a84a3b11a2d411321f716d3fe002466fe7af"), looks := false }, kinds := [], alts := [], laidByText := true, laidKinds := [.data], laidTests := true, laidLooks := .later }
def SigsetActsUptoCardSaid : Prop := Claim7.holds Tryd.pinned (.plain (OpenSpec.upto sigsetActsSpec)) sigsetActsUptoCard

/-- THE SECOND FORM's CARD OF 'parlourlaw18.SigsetPicks'. -/
def sigsetPicksUptoCard : Claim7 := { stood := { row := sigsetPicksUptoRow, standIns := [], harness := (true, "cb81c010ce613096f461f31c9350a84a3b11a2d411321f716d3fe002466fe7af"), looks := false }, kinds := [], alts := [], laidByText := true, laidKinds := [.data], laidTests := true, laidLooks := .later }
def SigsetPicksUptoCardSaid : Prop := Claim7.holds Tryd.pinned (.plain (OpenSpec.upto sigsetPicksSpec)) sigsetPicksUptoCard

/-- THE SECOND FORM's CARD OF 'parlourlaw18.SigsetBack'. -/
def sigsetBackUptoCard : Claim7 := { stood := { row := sigsetBackUptoRow, standIns := [], harness := (true, "cb81c010ce613096f461f31c9350a84a3b11a2d411321f716d3fe002466fe7af"), looks := false }, kinds := [], alts := [], laidByText := true, laidKinds := [.data], laidTests := true, laidLooks := .later }
def SigsetBackUptoCardSaid : Prop := Claim7.holds Tryd.pinned (.plain (OpenSpec.upto sigsetBackSpec)) sigsetBackUptoCard
end Rows
end Go.Proofs.YtjbmoiblkehbmaaDoor
