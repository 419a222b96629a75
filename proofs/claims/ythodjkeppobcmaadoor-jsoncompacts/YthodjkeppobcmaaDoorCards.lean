/-
  DERIVED. GIVEN WITH THE SEED: THE CARDS: each row of YthodjkeppobcmaaDoorRows.lean that lists a variable, with what it lists TIED to the program's text (the seventh form; the later family's looks); each row that meets fmt, with fmt's text TOLD by the authors' own Lean function (tested against real Go, not proved from fmt's source: count such statements apart). THE CARD IS WHAT COUNTS. Prove the row's statement (the work); the ties are given (YthodjkeppobcmaaDoorTie.lean); close each card by the builder's one call (the guide's Derived/Test/ToyasCard.lean, 'card_holds'). Laid BY PROGRAM, IN A SANDBOX (cutbox-door.mjs). By AI agents, Wed Nov 11 2026. No macro, syntax, notation, axiom, sorry.
-/
import Derived.Test.YthodjkeppobcmaaDoorRows
import GoSem.ClaimSeven
namespace Go.Proofs.YthodjkeppobcmaaDoor
namespace Rows

/-- THE TIED CARD OF 'sigillaw12.JsonCompacts'. -/
def jsonCompactsCard : Claim7 := { stood := { row := jsonCompactsRow, standIns := [], harness := (true, "590419b6540b489ae3f2a87d6f3bfcca036275d777a107002fa064853a78b0d0"), looks := true }, kinds := [], alts := [], laidByText := true, laidKinds := [.data, .data, .data, .data, .sentinel, .sentinel], laidTests := true, laidLooks := .later }
def JsonCompactsCardSaid : Prop := Claim7.holds Tryd.pinned (.plain (OpenSpec.ofChange jsonCompactsSpec)) jsonCompactsCard

/-- THE SECOND FORM's CARD OF 'sigillaw12.JsonCompacts'. -/
def jsonCompactsUptoCard : Claim7 := { stood := { row := jsonCompactsUptoRow, standIns := [], harness := (true, "590419b6540b489ae3f2a87d6f3bfcca036275d777a107002fa064853a78b0d0"), looks := true }, kinds := [], alts := [], laidByText := true, laidKinds := [.data, .data, .data, .data, .sentinel, .sentinel], laidTests := true, laidLooks := .later }
def JsonCompactsUptoCardSaid : Prop := Claim7.holds Tryd.pinned (.plain (OpenSpec.upto jsonCompactsSpec)) jsonCompactsUptoCard
end Rows
end Go.Proofs.YthodjkeppobcmaaDoor
