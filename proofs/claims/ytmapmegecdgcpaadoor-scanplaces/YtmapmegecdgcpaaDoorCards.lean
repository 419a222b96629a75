/-
  DERIVED. GIVEN WITH THE SEED: THE CARDS: each row of YtmapmegecdgcpaaDoorRows.lean that lists a variable, with what it lists TIED to the program's text (the seventh form; the later family's looks); each row that meets fmt, with fmt's text TOLD by the authors' own Lean function (tested against real Go, not proved from fmt's source: count such statements apart). THE CARD IS WHAT COUNTS. Prove the row's statement (the work); the ties are given (YtmapmegecdgcpaaDoorTie.lean); close each card by the builder's one call (the guide's Derived/Test/ToyasCard.lean, 'card_holds'). Laid BY PROGRAM, IN A SANDBOX (cutbox-door.mjs). By AI agents, Wed Nov 11 2026. No macro, syntax, notation, axiom, sorry.
-/
import Derived.Test.YtmapmegecdgcpaaDoorRows
import GoSem.ClaimSeven
namespace Go.Proofs.YtmapmegecdgcpaaDoor
namespace Rows

/-- THE TIED CARD OF 'sigillaw4.ScanPlaces'. -/
def scanPlacesCard : Claim7 := { stood := { row := scanPlacesRow, standIns := [], harness := (true, "461ee65dbd297bf3c577f8e22d13012258d5a7c9e54408d83604f6ea4ae1cc6d"), looks := true }, kinds := [], alts := [], laidByText := true, laidKinds := [.data, .data, .data, .data, .sentinel, .sentinel], laidTests := true, laidLooks := .later }
def ScanPlacesCardSaid : Prop := Claim7.holds Tryd.pinned (.plain (OpenSpec.ofChange scanPlacesSpec)) scanPlacesCard

/-- THE TIED CARD OF 'sigillaw4.ScanBook'. -/
def scanBookCard : Claim7 := { stood := { row := scanBookRow, standIns := [], harness := (true, "461ee65dbd297bf3c577f8e22d13012258d5a7c9e54408d83604f6ea4ae1cc6d"), looks := true }, kinds := [], alts := [], laidByText := true, laidKinds := [.data, .data, .data, .data, .sentinel, .sentinel], laidTests := true, laidLooks := .later }
def ScanBookCardSaid : Prop := Claim7.holds Tryd.pinned (.plain (OpenSpec.ofChange scanBookSpec)) scanBookCard

/-- THE TIED CARD OF 'sigillaw4.ScanBack'. -/
def scanBackCard : Claim7 := { stood := { row := scanBackRow, standIns := [], harness := (true, "461ee65dbd297bf3c577f8e22d13012258d5a7c9e54408d83604f6ea4ae1cc6d"), looks := true }, kinds := [], alts := [], laidByText := true, laidKinds := [.data, .data, .data, .data, .sentinel, .sentinel], laidTests := true, laidLooks := .later }
def ScanBackCardSaid : Prop := Claim7.holds Tryd.pinned (.plain (OpenSpec.ofChange scanBackSpec)) scanBackCard

/-- THE TIED CARD OF 'sigillaw4.ScanTokens'. -/
def scanTokensCard : Claim7 := { stood := { row := scanTokensRow, standIns := [], harness := (true, "461ee65dbd297bf3c577f8e22d13012258d5a7c9e54408d83604f6ea4ae1cc6d"), looks := true }, kinds := [], alts := [], laidByText := true, laidKinds := [.data, .data, .data, .data, .sentinel, .sentinel], laidTests := true, laidLooks := .later }
def ScanTokensCardSaid : Prop := Claim7.holds Tryd.pinned (.plain (OpenSpec.ofChange scanTokensSpec)) scanTokensCard

/-- THE TIED CARD OF 'sigillaw4.ScanMany'. -/
def scanManyCard : Claim7 := { stood := { row := scanManyRow, standIns := [], harness := (true, "461ee65dbd297bf3c577f8e22d13012258d5a7c9e54408d83604f6ea4ae1cc6d"), looks := true }, kinds := [], alts := [], laidByText := true, laidKinds := [.data, .data, .data, .data, .sentinel, .sentinel], laidTests := true, laidLooks := .later }
def ScanManyCardSaid : Prop := Claim7.holds Tryd.pinned (.plain (OpenSpec.ofChange scanManySpec)) scanManyCard

/-- THE SECOND FORM's CARD OF 'sigillaw4.ScanPlaces'. -/
def scanPlacesUptoCard : Claim7 := { stood := { row := scanPlacesUptoRow, standIns := [], harness := (true, "461ee65dbd297bf3c577f8e22d13012258d5a7c9e54408d83604f6ea4ae1cc6d"), looks := true }, kinds := [], alts := [], laidByText := true, laidKinds := [.data, .data, .data, .data, .sentinel, .sentinel], laidTests := true, laidLooks := .later }
def ScanPlacesUptoCardSaid : Prop := Claim7.holds Tryd.pinned (.plain (OpenSpec.upto scanPlacesSpec)) scanPlacesUptoCard

/-- THE SECOND FORM's CARD OF 'sigillaw4.ScanBook'. -/
def scanBookUptoCard : Claim7 := { stood := { row := scanBookUptoRow, standIns := [], harness := (true, "461ee65dbd297bf3c577f8e22d13012258d5a7c9e54408d83604f6ea4ae1cc6d"), looks := true }, kinds := [], alts := [], laidByText := true, laidKinds := [.data, .data, .data, .data, .sentinel, .sentinel], laidTests := true, laidLooks := .later }
def ScanBookUptoCardSaid : Prop := Claim7.holds Tryd.pinned (.plain (OpenSpec.upto scanBookSpec)) scanBookUptoCard

/-- THE SECOND FORM's CARD OF 'sigillaw4.ScanBack'. -/
def scanBackUptoCard : Claim7 := { stood := { row := scanBackUptoRow, standIns := [], harness := (true, "461ee65dbd297bf3c577f8e22d13012258d5a7c9e54408d83604f6ea4ae1cc6d"), looks := true }, kinds := [], alts := [], laidByText := true, laidKinds := [.data, .data, .data, .data, .sentinel, .sentinel], laidTests := true, laidLooks := .later }
def ScanBackUptoCardSaid : Prop := Claim7.holds Tryd.pinned (.plain (OpenSpec.upto scanBackSpec)) scanBackUptoCard

/-- THE SECOND FORM's CARD OF 'sigillaw4.ScanTokens'. -/
def scanTokensUptoCard : Claim7 := { stood := { row := scanTokensUptoRow, standIns := [], harness := (true, "461ee65dbd297bf3c577f8e22d13012258d5a7c9e54408d83604f6ea4ae1cc6d"), looks := true }, kinds := [], alts := [], laidByText := true, laidKinds := [.data, .data, .data, .data, .sentinel, .sentinel], laidTests := true, laidLooks := .later }
def ScanTokensUptoCardSaid : Prop := Claim7.holds Tryd.pinned (.plain (OpenSpec.upto scanTokensSpec)) scanTokensUptoCard

/-- THE SECOND FORM's CARD OF 'sigillaw4.ScanMany'. -/
def scanManyUptoCard : Claim7 := { stood := { row := scanManyUptoRow, standIns := [], harness := (true, "461ee65dbd297bf3c577f8e22d13012258d5a7c9e54408d83604f6ea4ae1cc6d"), looks := true }, kinds := [], alts := [], laidByText := true, laidKinds := [.data, .data, .data, .data, .sentinel, .sentinel], laidTests := true, laidLooks := .later }
def ScanManyUptoCardSaid : Prop := Claim7.holds Tryd.pinned (.plain (OpenSpec.upto scanManySpec)) scanManyUptoCard
end Rows
end Go.Proofs.YtmapmegecdgcpaaDoor
