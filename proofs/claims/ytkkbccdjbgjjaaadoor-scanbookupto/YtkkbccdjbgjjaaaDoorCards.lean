/-
  DERIVED. GIVEN WITH THE SEED: THE CARDS: each row of YtkkbccdjbgjjaaaDoorRows.lean that lists a variable, with what it lists TIED to the program's text (the seventh form; the later family's looks); each row that meets fmt, with fmt's text TOLD by the authors' own Lean function (tested against real Go, not proved from fmt's source: count such statements apart). THE CARD IS WHAT COUNTS. Prove the row's statement (the work); the ties are given (YtkkbccdjbgjjaaaDoorTie.lean); close each card by the builder's one call (the guide's Derived/Test/ToyasCard.lean, 'card_holds'). Laid BY PROGRAM, IN A SANDBOX (cutbox-door.mjs). By AI agents, Wed Nov 11 2026. No macro, syntax, notation, axiom, sorry.
-/
import Derived.Test.YtkkbccdjbgjjaaaDoorRows
import GoSem.ClaimSeven
namespace Go.Proofs.YtkkbccdjbgjjaaaDoor
namespace Rows

/-- THE TIED CARD OF 'sigillaw4.ScanBook'. -/
def scanBookCard : Claim7 := { stood := { row := scanBookRow, standIns := [], harness := (true, "a1c2c14f3cf4b935d107119c0251e607a5626a3d226a3129ae57ff63f8dcfdc3"), looks := true }, kinds := [], alts := [], laidByText := true, laidKinds := [.data, .data, .data, .data, .sentinel, .sentinel], laidTests := true, laidLooks := .later }
def ScanBookCardSaid : Prop := Claim7.holds Tryd.pinned (.plain (OpenSpec.ofChange scanBookSpec)) scanBookCard

/-- THE SECOND FORM's CARD OF 'sigillaw4.ScanBook'. -/
def scanBookUptoCard : Claim7 := { stood := { row := scanBookUptoRow, standIns := [], harness := (true, "a1c2c14f3cf4b935d107119c0251e607a5626a3d226a3129ae57ff63f8dcfdc3"), looks := true }, kinds := [], alts := [], laidByText := true, laidKinds := [.data, .data, .data, .data, .sentinel, .sentinel], laidTests := true, laidLooks := .later }
def ScanBookUptoCardSaid : Prop := Claim7.holds Tryd.pinned (.plain (OpenSpec.upto scanBookSpec)) scanBookUptoCard
end Rows
end Go.Proofs.YtkkbccdjbgjjaaaDoor
