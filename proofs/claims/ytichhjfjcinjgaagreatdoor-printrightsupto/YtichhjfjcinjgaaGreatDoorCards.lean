/-
  DERIVED. GIVEN WITH THE SEED: THE CARDS: each row of YtichhjfjcinjgaaGreatDoorRows.lean that lists a variable, with what it lists TIED to the program's text (the seventh form; the later family's looks); each row that meets fmt, with fmt's text TOLD by the authors' own Lean function (tested against real Go, not proved from fmt's source: count such statements apart). THE CARD IS WHAT COUNTS. Prove the row's statement (the work); the ties are given (YtichhjfjcinjgaaGreatDoorTie.lean); close each card by the builder's one call (the guide's Derived/Test/ToyasCard.lean, 'card_holds'). Laid BY PROGRAM, IN A SANDBOX (cutbox-door.mjs). By AI agents, Wed Nov 11 2026. No macro, syntax, notation, axiom, sorry.
-/
import Derived.Test.YtichhjfjcinjgaaGreatDoorRows
import GoSem.ClaimSeven
namespace Go.Proofs.YtichhjfjcinjgaaGreatDoor
namespace Rows

/-- THE TIED CARD OF 'sigillaw6.PrintUnlike'. -/
def printUnlikeCard : Claim7 := { stood := { row := printUnlikeRow, standIns := [], harness := (true, "72cfe4c073c77ecfd2aad86ec9c692dc273e11d54ee4fc659bd6c8b6d3938d13"), looks := true }, kinds := [], alts := [], laidByText := true, laidKinds := [.data, .data, .data, .data, .data, .sentinel, .sentinel, .pinned], laidTests := true, laidLooks := .later }
def PrintUnlikeCardSaid : Prop := Claim7.holds Tryz.pinned (.plain (OpenSpec.ofChange printUnlikeSpec)) printUnlikeCard

/-- THE TIED CARD OF 'sigillaw6.PrintTexts'. -/
def printTextsCard : Claim7 := { stood := { row := printTextsRow, standIns := [], harness := (true, "72cfe4c073c77ecfd2aad86ec9c692dc273e11d54ee4fc659bd6c8b6d3938d13"), looks := true }, kinds := [], alts := [], laidByText := true, laidKinds := [.data, .data, .data, .data, .data, .sentinel, .sentinel, .pinned], laidTests := true, laidLooks := .later }
def PrintTextsCardSaid : Prop := Claim7.holds Tryz.pinned (.plain (OpenSpec.ofChange printTextsSpec)) printTextsCard

/-- THE TIED CARD OF 'sigillaw6.PrintRights'. -/
def printRightsCard : Claim7 := { stood := { row := printRightsRow, standIns := [], harness := (true, "72cfe4c073c77ecfd2aad86ec9c692dc273e11d54ee4fc659bd6c8b6d3938d13"), looks := true }, kinds := [], alts := [], laidByText := true, laidKinds := [.data, .data, .data, .data, .data, .sentinel, .sentinel, .pinned], laidTests := true, laidLooks := .later }
def PrintRightsCardSaid : Prop := Claim7.holds Tryz.pinned (.plain (OpenSpec.ofChange printRightsSpec)) printRightsCard

/-- THE SECOND FORM's CARD OF 'sigillaw6.PrintUnlike'. -/
def printUnlikeUptoCard : Claim7 := { stood := { row := printUnlikeUptoRow, standIns := [], harness := (true, "72cfe4c073c77ecfd2aad86ec9c692dc273e11d54ee4fc659bd6c8b6d3938d13"), looks := true }, kinds := [], alts := [], laidByText := true, laidKinds := [.data, .data, .data, .data, .data, .sentinel, .sentinel, .pinned], laidTests := true, laidLooks := .later }
def PrintUnlikeUptoCardSaid : Prop := Claim7.holds Tryz.pinned (.plain (OpenSpec.upto printUnlikeSpec)) printUnlikeUptoCard

/-- THE SECOND FORM's CARD OF 'sigillaw6.PrintTexts'. -/
def printTextsUptoCard : Claim7 := { stood := { row := printTextsUptoRow, standIns := [], harness := (true, "72cfe4c073c77ecfd2aad86ec9c692dc273e11d54ee4fc659bd6c8b6d3938d13"), looks := true }, kinds := [], alts := [], laidByText := true, laidKinds := [.data, .data, .data, .data, .data, .sentinel, .sentinel, .pinned], laidTests := true, laidLooks := .later }
def PrintTextsUptoCardSaid : Prop := Claim7.holds Tryz.pinned (.plain (OpenSpec.upto printTextsSpec)) printTextsUptoCard

/-- THE SECOND FORM's CARD OF 'sigillaw6.PrintRights'. -/
def printRightsUptoCard : Claim7 := { stood := { row := printRightsUptoRow, standIns := [], harness := (true, "72cfe4c073c77ecfd2aad86ec9c692dc273e11d54ee4fc659bd6c8b6d3938d13"), looks := true }, kinds := [], alts := [], laidByText := true, laidKinds := [.data, .data, .data, .data, .data, .sentinel, .sentinel, .pinned], laidTests := true, laidLooks := .later }
def PrintRightsUptoCardSaid : Prop := Claim7.holds Tryz.pinned (.plain (OpenSpec.upto printRightsSpec)) printRightsUptoCard
end Rows
end Go.Proofs.YtichhjfjcinjgaaGreatDoor
