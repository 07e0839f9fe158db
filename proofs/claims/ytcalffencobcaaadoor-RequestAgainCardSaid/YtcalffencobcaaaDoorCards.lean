/-
  DERIVED. GIVEN WITH THE SEED: THE CARDS: each row of YtcalffencobcaaaDoorRows.lean that lists a variable, with what it lists TIED to the program's text (the seventh form; the later family's looks); each row that meets fmt, with fmt's text TOLD by the authors' own Lean function (tested against real Go, not proved from fmt's source: count such statements apart). THE CARD IS WHAT COUNTS. Prove the row's statement (the work); the ties are given (YtcalffencobcaaaDoorTie.lean); close each card by the builder's one call (the guide's Derived/Test/ToyasCard.lean, 'card_holds'). Laid BY PROGRAM, IN A SANDBOX (cutbox-door.mjs). By AI agents, Wed Nov 11 2026. No macro, syntax, notation, axiom, sorry.
-/
import Derived.Test.YtcalffencobcaaaDoorRows
import GoSem.ClaimSeven
namespace Go.Proofs.YtcalffencobcaaaDoor
namespace Rows

/-- THE TIED CARD OF 'parlourlaw04.RequestDecodes'. -/
def requestDecodesCard : Claim7 := { stood := { row := requestDecodesRow, standIns := [], harness := (true, "0d423796e346dd7e52b7348db7564b4e5b0d27a9c65945cdaf87b0816472eb5c"), looks := false }, kinds := [], alts := [], laidByText := true, laidKinds := [.data, .pinned], laidTests := true, laidLooks := .later }
def RequestDecodesCardSaid : Prop := Claim7.holds Tryd.pinned (.plain (OpenSpec.ofChange requestDecodesSpec)) requestDecodesCard

/-- THE TIED CARD OF 'parlourlaw04.RequestBack'. -/
def requestBackCard : Claim7 := { stood := { row := requestBackRow, standIns := [], harness := (true, "0d423796e346dd7e52b7348db7564b4e5b0d27a9c65945cdaf87b0816472eb5c"), looks := false }, kinds := [], alts := [], laidByText := true, laidKinds := [.data, .pinned], laidTests := true, laidLooks := .later }
def RequestBackCardSaid : Prop := Claim7.holds Tryd.pinned (.plain (OpenSpec.ofChange requestBackSpec)) requestBackCard

/-- THE TIED CARD OF 'parlourlaw04.RequestAgain'. -/
def requestAgainCard : Claim7 := { stood := { row := requestAgainRow, standIns := [], harness := (true, "0d423796e346dd7e52b7348db7564b4e5b0d27a9c65945cdaf87b0816472eb5c"), looks := false }, kinds := [], alts := [], laidByText := true, laidKinds := [.data, .pinned], laidTests := true, laidLooks := .later }
def RequestAgainCardSaid : Prop := Claim7.holds Tryd.pinned (.plain (OpenSpec.ofChange requestAgainSpec)) requestAgainCard

/-- THE TIED CARD OF 'parlourlaw04.RequestKinds'. -/
def requestKindsCard : Claim7 := { stood := { row := requestKindsRow, standIns := [], harness := (true, "0d423796e346dd7e52b7348db7564b4e5b0d27a9c65945cdaf87b0816472eb5c"), looks := false }, kinds := [], alts := [], laidByText := true, laidKinds := [.data, .pinned], laidTests := true, laidLooks := .later }
def RequestKindsCardSaid : Prop := Claim7.holds Tryd.pinned (.plain (OpenSpec.ofChange requestKindsSpec)) requestKindsCard

/-- THE TIED CARD OF 'parlourtop.TopFrames'. -/
def topFramesCard : Claim7 := { stood := { row := topFramesRow, standIns := [], harness := (true, "0d423796e346dd7e52b7348db7564b4e5b0d27a9c65945cdaf87b0816472eb5c"), looks := false }, kinds := [], alts := [], laidByText := true, laidKinds := [.data, .pinned], laidTests := true, laidLooks := .later }
def TopFramesCardSaid : Prop := Claim7.holds Tryd.pinned (.plain (OpenSpec.ofChange topFramesSpec)) topFramesCard

/-- THE SECOND FORM's CARD OF 'parlourlaw04.RequestDecodes'. -/
def requestDecodesUptoCard : Claim7 := { stood := { row := requestDecodesUptoRow, standIns := [], harness := (true, "0d423796e346dd7e52b7348db7564b4e5b0d27a9c65945cdaf87b0816472eb5c"), looks := false }, kinds := [], alts := [], laidByText := true, laidKinds := [.data, .pinned], laidTests := true, laidLooks := .later }
def RequestDecodesUptoCardSaid : Prop := Claim7.holds Tryd.pinned (.plain (OpenSpec.upto requestDecodesSpec)) requestDecodesUptoCard

/-- THE SECOND FORM's CARD OF 'parlourlaw04.RequestBack'. -/
def requestBackUptoCard : Claim7 := { stood := { row := requestBackUptoRow, standIns := [], harness := (true, "0d423796e346dd7e52b7348db7564b4e5b0d27a9c65945cdaf87b0816472eb5c"), looks := false }, kinds := [], alts := [], laidByText := true, laidKinds := [.data, .pinned], laidTests := true, laidLooks := .later }
def RequestBackUptoCardSaid : Prop := Claim7.holds Tryd.pinned (.plain (OpenSpec.upto requestBackSpec)) requestBackUptoCard

/-- THE SECOND FORM's CARD OF 'parlourlaw04.RequestAgain'. -/
def requestAgainUptoCard : Claim7 := { stood := { row := requestAgainUptoRow, standIns := [], harness := (true, "0d423796e346dd7e52b7348db7564b4e5b0d27a9c65945cdaf87b0816472eb5c"), looks := false }, kinds := [], alts := [], laidByText := true, laidKinds := [.data, .pinned], laidTests := true, laidLooks := .later }
def RequestAgainUptoCardSaid : Prop := Claim7.holds Tryd.pinned (.plain (OpenSpec.upto requestAgainSpec)) requestAgainUptoCard

/-- THE SECOND FORM's CARD OF 'parlourlaw04.RequestKinds'. -/
def requestKindsUptoCard : Claim7 := { stood := { row := requestKindsUptoRow, standIns := [], harness := (true, "0d423796e346dd7e52b7348db7564b4e5b0d27a9c65945cdaf87b0816472eb5c"), looks := false }, kinds := [], alts := [], laidByText := true, laidKinds := [.data, .pinned], laidTests := true, laidLooks := .later }
def RequestKindsUptoCardSaid : Prop := Claim7.holds Tryd.pinned (.plain (OpenSpec.upto requestKindsSpec)) requestKindsUptoCard

/-- THE SECOND FORM's CARD OF 'parlourtop.TopFrames'. -/
def topFramesUptoCard : Claim7 := { stood := { row := topFramesUptoRow, standIns := [], harness := (true, "0d423796e346dd7e52b7348db7564b4e5b0d27a9c65945cdaf87b0816472eb5c"), looks := false }, kinds := [], alts := [], laidByText := true, laidKinds := [.data, .pinned], laidTests := true, laidLooks := .later }
def TopFramesUptoCardSaid : Prop := Claim7.holds Tryd.pinned (.plain (OpenSpec.upto topFramesSpec)) topFramesUptoCard
end Rows
end Go.Proofs.YtcalffencobcaaaDoor
