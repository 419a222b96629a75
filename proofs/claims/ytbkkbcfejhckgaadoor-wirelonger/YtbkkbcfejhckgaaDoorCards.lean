/-
  DERIVED. GIVEN WITH THE SEED: THE CARDS: each row of YtbkkbcfejhckgaaDoorRows.lean that lists a variable, with what it lists TIED to the program's text (the seventh form; the later family's looks); each row that meets fmt, with fmt's text TOLD by the authors' own Lean function (tested against real Go, not proved from fmt's source: count such statements apart). THE CARD IS WHAT COUNTS. Prove the row's statement (the work); the ties are given (YtbkkbcfejhckgaaDoorTie.lean); close each card by the builder's one call (the guide's Derived/Test/ToyasCard.lean, 'card_holds'). Laid BY PROGRAM, IN A SANDBOX (cutbox-door.mjs). By AI agents, Wed Nov 11 2026. No macro, syntax, notation, axiom, sorry.
-/
import Derived.Test.YtbkkbcfejhckgaaDoorRows
import GoSem.ClaimSeven
namespace Go.Proofs.YtbkkbcfejhckgaaDoor
namespace Rows

/-- THE TIED CARD OF 'sigillaw2.WireLonger'. -/
def wireLongerCard : Claim7 := { stood := { row := wireLongerRow, standIns := [], harness := (true, "85e9d80390cff68937d1fd2fb620352e3501beca820cc50f4bd3fc3c7d40bc63"), looks := false }, kinds := [], alts := [], laidByText := true, laidKinds := [.data], laidTests := true, laidLooks := .later }
def WireLongerCardSaid : Prop := Claim7.holds Tryd.pinned (.plain (OpenSpec.ofChange wireLongerSpec)) wireLongerCard

/-- THE SECOND FORM's CARD OF 'sigillaw2.WireLonger'. -/
def wireLongerUptoCard : Claim7 := { stood := { row := wireLongerUptoRow, standIns := [], harness := (true, "85e9d80390cff68937d1fd2fb620352e3501beca820cc50f4bd3fc3c7d40bc63"), looks := false }, kinds := [], alts := [], laidByText := true, laidKinds := [.data], laidTests := true, laidLooks := .later }
def WireLongerUptoCardSaid : Prop := Claim7.holds Tryd.pinned (.plain (OpenSpec.upto wireLongerSpec)) wireLongerUptoCard
end Rows
end Go.Proofs.YtbkkbcfejhckgaaDoor
