/-
  DERIVED. GIVEN WITH THE SEED: THE CARDS: each row of YtdplngplljejhaaDoorRows.lean that lists a variable, with what it lists TIED to the program's text (the seventh form; the later family's looks); each row that meets fmt, with fmt's text TOLD by the authors' own Lean function (tested against real Go, not proved from fmt's source: count such statements apart). THE CARD IS WHAT COUNTS. Prove the row's statement (the work); the ties are given (YtdplngplljejhaaDoorTie.lean); close each card by the builder's one call (the guide's Derived/Test/ToyasCard.lean, 'card_holds'). Laid BY PROGRAM, IN A SANDBOX (cutbox-door.mjs). By AI agents, Wed Nov 11 2026. No macro, syntax, notation, axiom, sorry.
-/
import Derived.Test.YtdplngplljejhaaDoorRows
import GoSem.ClaimSeven
namespace Go.Proofs.YtdplngplljejhaaDoor
namespace Rows

/-- THE TIED CARD OF 'parlourlaw04.RequestDecodes'. -/
def requestDecodesCard : Claim7 := { stood := { row := requestDecodesRow, standIns := [], harness := (true, "87c05c443484426b800391f77aeaf2d140b584d2bd8fb3f9945fced19daf37df"), looks := false }, kinds := [], alts := [], laidByText := true, laidKinds := [.data, .pinned], laidTests := true, laidLooks := .later }
def RequestDecodesCardSaid : Prop := Claim7.holds Tryd.pinned (.plain (OpenSpec.ofChange requestDecodesSpec)) requestDecodesCard

/-- THE TIED CARD OF 'parlourtop.TopFrames'. -/
def topFramesCard : Claim7 := { stood := { row := topFramesRow, standIns := [], harness := (true, "87c05c443484426b800391f77aeaf2d140b584d2bd8fb3f9945fced19daf37df"), looks := false }, kinds := [], alts := [], laidByText := true, laidKinds := [.data, .pinned], laidTests := true, laidLooks := .later }
def TopFramesCardSaid : Prop := Claim7.holds Tryd.pinned (.plain (OpenSpec.ofChange topFramesSpec)) topFramesCard

/-- THE SECOND FORM's CARD OF 'parlourlaw04.RequestDecodes'. -/
def requestDecodesUptoCard : Claim7 := { stood := { row := requestDecodesUptoRow, standIns := [], harness := (true, "87c05c443484426b800391f77aeaf2d140b584d2bd8fb3f9945fced19daf37df"), looks := false }, kinds := [], alts := [], laidByText := true, laidKinds := [.data, .pinned], laidTests := true, laidLooks := .later }
def RequestDecodesUptoCardSaid : Prop := Claim7.holds Tryd.pinned (.plain (OpenSpec.upto requestDecodesSpec)) requestDecodesUptoCard

/-- THE SECOND FORM's CARD OF 'parlourtop.TopFrames'. -/
def topFramesUptoCard : Claim7 := { stood := { row := topFramesUptoRow, standIns := [], harness := (true, "87c05c443484426b800391f77aeaf2d140b584d2bd8fb3f9945fced19daf37df"), looks := false }, kinds := [], alts := [], laidByText := true, laidKinds := [.data, .pinned], laidTests := true, laidLooks := .later }
def TopFramesUptoCardSaid : Prop := Claim7.holds Tryd.pinned (.plain (OpenSpec.upto topFramesSpec)) topFramesUptoCard
end Rows
end Go.Proofs.YtdplngplljejhaaDoor
