/-
  DERIVED. GIVEN WITH THE SEED: THE CARDS: each row of YtokiplfdhoealaaDoorRows.lean that lists a variable, with what it lists TIED to the program's text (the seventh form; the later family's looks); each row that meets fmt, with fmt's text TOLD by the authors' own Lean function (tested against real Go, not proved from fmt's source: count such statements apart). THE CARD IS WHAT COUNTS. Prove the row's statement (the work); the ties are given (YtokiplfdhoealaaDoorTie.lean); close each card by the builder's one call (the guide's Derived/Test/ToyasCard.lean, 'card_holds'). Laid BY PROGRAM, IN A SANDBOX (cutbox-door.mjs). By AI agents, Wed Nov 11 2026. No macro, syntax, notation, axiom, sorry.
-/
import Derived.Test.YtokiplfdhoealaaDoorRows
import GoSem.ClaimSeven
namespace Go.Proofs.YtokiplfdhoealaaDoor
namespace Rows

/-- THE TIED CARD OF 'sigillaw4.ScanNumbers'. -/
def scanNumbersCard : Claim7 := { stood := { row := scanNumbersRow, standIns := [], harness := (true, "3db04343e5b2dbca6d7dc4fb8eeb503bf1870080bc36fcb4e2d7a60b58f3cb71"), looks := true }, kinds := [], alts := [], laidByText := true, laidKinds := [.data, .data, .data, .sentinel, .sentinel], laidTests := true, laidLooks := .later }
def ScanNumbersCardSaid : Prop := Claim7.holds Tryd.pinned (.plain (OpenSpec.ofChange scanNumbersSpec)) scanNumbersCard

/-- THE TIED CARD OF 'sigillaw4.ScanQuotes'. -/
def scanQuotesCard : Claim7 := { stood := { row := scanQuotesRow, standIns := [], harness := (true, "3db04343e5b2dbca6d7dc4fb8eeb503bf1870080bc36fcb4e2d7a60b58f3cb71"), looks := true }, kinds := [], alts := [], laidByText := true, laidKinds := [.data], laidTests := true, laidLooks := .later }
def ScanQuotesCardSaid : Prop := Claim7.holds Tryd.pinned (.plain (OpenSpec.ofChange scanQuotesSpec)) scanQuotesCard

/-- THE TIED CARD OF 'sigillaw4.ScanUnquotes'. -/
def scanUnquotesCard : Claim7 := { stood := { row := scanUnquotesRow, standIns := [], harness := (true, "3db04343e5b2dbca6d7dc4fb8eeb503bf1870080bc36fcb4e2d7a60b58f3cb71"), looks := true }, kinds := [], alts := [], laidByText := true, laidKinds := [.data, .data, .data, .data, .sentinel, .sentinel], laidTests := true, laidLooks := .later }
def ScanUnquotesCardSaid : Prop := Claim7.holds Tryd.pinned (.plain (OpenSpec.ofChange scanUnquotesSpec)) scanUnquotesCard

/-- THE TIED CARD OF 'sigillaw4.ScanPlaces'. -/
def scanPlacesCard : Claim7 := { stood := { row := scanPlacesRow, standIns := [], harness := (true, "3db04343e5b2dbca6d7dc4fb8eeb503bf1870080bc36fcb4e2d7a60b58f3cb71"), looks := true }, kinds := [], alts := [], laidByText := true, laidKinds := [.data, .data, .data, .data, .sentinel, .sentinel], laidTests := true, laidLooks := .later }
def ScanPlacesCardSaid : Prop := Claim7.holds Tryd.pinned (.plain (OpenSpec.ofChange scanPlacesSpec)) scanPlacesCard

/-- THE SECOND FORM's CARD OF 'sigillaw4.ScanNumbers'. -/
def scanNumbersUptoCard : Claim7 := { stood := { row := scanNumbersUptoRow, standIns := [], harness := (true, "3db04343e5b2dbca6d7dc4fb8eeb503bf1870080bc36fcb4e2d7a60b58f3cb71"), looks := true }, kinds := [], alts := [], laidByText := true, laidKinds := [.data, .data, .data, .sentinel, .sentinel], laidTests := true, laidLooks := .later }
def ScanNumbersUptoCardSaid : Prop := Claim7.holds Tryd.pinned (.plain (OpenSpec.upto scanNumbersSpec)) scanNumbersUptoCard

/-- THE SECOND FORM's CARD OF 'sigillaw4.ScanQuotes'. -/
def scanQuotesUptoCard : Claim7 := { stood := { row := scanQuotesUptoRow, standIns := [], harness := (true, "3db04343e5b2dbca6d7dc4fb8eeb503bf1870080bc36fcb4e2d7a60b58f3cb71"), looks := true }, kinds := [], alts := [], laidByText := true, laidKinds := [.data], laidTests := true, laidLooks := .later }
def ScanQuotesUptoCardSaid : Prop := Claim7.holds Tryd.pinned (.plain (OpenSpec.upto scanQuotesSpec)) scanQuotesUptoCard

/-- THE SECOND FORM's CARD OF 'sigillaw4.ScanUnquotes'. -/
def scanUnquotesUptoCard : Claim7 := { stood := { row := scanUnquotesUptoRow, standIns := [], harness := (true, "3db04343e5b2dbca6d7dc4fb8eeb503bf1870080bc36fcb4e2d7a60b58f3cb71"), looks := true }, kinds := [], alts := [], laidByText := true, laidKinds := [.data, .data, .data, .data, .sentinel, .sentinel], laidTests := true, laidLooks := .later }
def ScanUnquotesUptoCardSaid : Prop := Claim7.holds Tryd.pinned (.plain (OpenSpec.upto scanUnquotesSpec)) scanUnquotesUptoCard

/-- THE SECOND FORM's CARD OF 'sigillaw4.ScanPlaces'. -/
def scanPlacesUptoCard : Claim7 := { stood := { row := scanPlacesUptoRow, standIns := [], harness := (true, "3db04343e5b2dbca6d7dc4fb8eeb503bf1870080bc36fcb4e2d7a60b58f3cb71"), looks := true }, kinds := [], alts := [], laidByText := true, laidKinds := [.data, .data, .data, .data, .sentinel, .sentinel], laidTests := true, laidLooks := .later }
def ScanPlacesUptoCardSaid : Prop := Claim7.holds Tryd.pinned (.plain (OpenSpec.upto scanPlacesSpec)) scanPlacesUptoCard
end Rows
end Go.Proofs.YtokiplfdhoealaaDoor
