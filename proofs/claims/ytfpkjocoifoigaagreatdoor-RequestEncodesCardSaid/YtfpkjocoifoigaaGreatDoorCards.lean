/-
  DERIVED. GIVEN WITH THE SEED: THE CARDS: each row of YtfpkjocoifoigaaGreatDoorRows.lean that lists a variable, with what it lists TIED to the program's text (the seventh form; the later family's looks); each row that meets fmt, with fmt's text TOLD by the authors' own Lean function (tested against real Go, not proved from fmt's source: count such statements apart). THE CARD IS WHAT COUNTS. Prove the row's statement (the work); the ties are given (YtfpkjocoifoigaaGreatDoorTie.lean); close each card by the builder's one call (the guide's Derived/Test/ToyasCard.lean, 'card_holds'). Laid BY PROGRAM, IN A SANDBOX (cutbox-door.mjs). By AI agents, Wed Nov 11 2026. No macro, syntax, notation, axiom, sorry.
-/
import Derived.Test.YtfpkjocoifoigaaGreatDoorRows
import GoSem.ClaimSeven
namespace Go.Proofs.YtfpkjocoifoigaaGreatDoor
namespace Rows

/-- THE TIED CARD OF 'parlourlaw04.RequestEncodes'. -/
def requestEncodesCard : Claim7 := { stood := { row := requestEncodesRow, standIns := [], harness := (true, "43f61c43370c91e34d6783b89faa5c8c6f71397a6cfaf9da4698575f1b6085a5"), looks := false }, kinds := [], alts := [], laidByText := true, laidKinds := [.data, .pinned], laidTests := true, laidLooks := .later }
def RequestEncodesCardSaid : Prop := Claim7.holds Tryz.pinned (.plain (OpenSpec.ofChange requestEncodesSpec)) requestEncodesCard

/-- THE TIED CARD OF 'parlourtop.TopAsk'. -/
def topAskCard : Claim7 := { stood := { row := topAskRow, standIns := [], harness := (true, "43f61c43370c91e34d6783b89faa5c8c6f71397a6cfaf9da4698575f1b6085a5"), looks := false }, kinds := [], alts := [], laidByText := true, laidKinds := [.data, .pinned], laidTests := true, laidLooks := .later }
def TopAskCardSaid : Prop := Claim7.holds Tryz.pinned (.plain (OpenSpec.ofChange topAskSpec)) topAskCard

/-- THE SECOND FORM's CARD OF 'parlourlaw04.RequestEncodes'. -/
def requestEncodesUptoCard : Claim7 := { stood := { row := requestEncodesUptoRow, standIns := [], harness := (true, "43f61c43370c91e34d6783b89faa5c8c6f71397a6cfaf9da4698575f1b6085a5"), looks := false }, kinds := [], alts := [], laidByText := true, laidKinds := [.data, .pinned], laidTests := true, laidLooks := .later }
def RequestEncodesUptoCardSaid : Prop := Claim7.holds Tryz.pinned (.plain (OpenSpec.upto requestEncodesSpec)) requestEncodesUptoCard

/-- THE SECOND FORM's CARD OF 'parlourtop.TopAsk'. -/
def topAskUptoCard : Claim7 := { stood := { row := topAskUptoRow, standIns := [], harness := (true, "43f61c43370c91e34d6783b89faa5c8c6f71397a6cfaf9da4698575f1b6085a5"), looks := false }, kinds := [], alts := [], laidByText := true, laidKinds := [.data, .pinned], laidTests := true, laidLooks := .later }
def TopAskUptoCardSaid : Prop := Claim7.holds Tryz.pinned (.plain (OpenSpec.upto topAskSpec)) topAskUptoCard
end Rows
end Go.Proofs.YtfpkjocoifoigaaGreatDoor
