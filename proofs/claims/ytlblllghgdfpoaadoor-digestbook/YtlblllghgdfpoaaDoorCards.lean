/-
  DERIVED. GIVEN WITH THE SEED: THE CARDS: each row of YtlblllghgdfpoaaDoorRows.lean that lists a variable, with what it lists TIED to the program's text (the seventh form; the later family's looks); each row that meets fmt, with fmt's text TOLD by the authors' own Lean function (tested against real Go, not proved from fmt's source: count such statements apart). THE CARD IS WHAT COUNTS. Prove the row's statement (the work); the ties are given (YtlblllghgdfpoaaDoorTie.lean); close each card by the builder's one call (the guide's Derived/Test/ToyasCard.lean, 'card_holds'). Laid BY PROGRAM, IN A SANDBOX (cutbox-door.mjs). By AI agents, Wed Nov 11 2026. No macro, syntax, notation, axiom, sorry.
-/
import Derived.Test.YtlblllghgdfpoaaDoorRows
import GoSem.ClaimSeven
namespace Go.Proofs.YtlblllghgdfpoaaDoor
namespace Rows

/-- THE TIED CARD OF 'sigillaw3.DigestBook'. -/
def digestBookCard : Claim7 := { stood := { row := digestBookRow, standIns := [], harness := (true, "f25a3f3c062757f26b5650ab2e286ba14729554e7d348f9f3da5946d528dc33a"), looks := false }, kinds := [], alts := [], laidByText := true, laidKinds := [.data, .data, .data], laidTests := true, laidLooks := .later }
def DigestBookCardSaid : Prop := Claim7.holds Tryd.pinned (.plain (OpenSpec.ofChange digestBookSpec)) digestBookCard

/-- THE SECOND FORM's CARD OF 'sigillaw3.DigestBook'. -/
def digestBookUptoCard : Claim7 := { stood := { row := digestBookUptoRow, standIns := [], harness := (true, "f25a3f3c062757f26b5650ab2e286ba14729554e7d348f9f3da5946d528dc33a"), looks := false }, kinds := [], alts := [], laidByText := true, laidKinds := [.data, .data, .data], laidTests := true, laidLooks := .later }
def DigestBookUptoCardSaid : Prop := Claim7.holds Tryd.pinned (.plain (OpenSpec.upto digestBookSpec)) digestBookUptoCard
end Rows
end Go.Proofs.YtlblllghgdfpoaaDoor
