/-
  DERIVED. GIVEN WITH THE SEED: THE CARDS: each row of YtdmpknekmdniaaaDoorRows.lean that lists a variable, with what it lists TIED to the program's text (the seventh form; the later family's looks); each row that meets fmt, with fmt's text TOLD by the authors' own Lean function (tested against real Go, not proved from fmt's source: count such statements apart). THE CARD IS WHAT COUNTS. Prove the row's statement (the work); the ties are given (YtdmpknekmdniaaaDoorTie.lean); close each card by the builder's one call (the guide's Derived/Test/ToyasCard.lean, 'card_holds'). Laid BY PROGRAM, IN A SANDBOX (cutbox-door.mjs). By AI agents, Wed Nov 11 2026. No macro, syntax, notation, axiom, sorry.
-/
import Derived.Test.YtdmpknekmdniaaaDoorRows
import GoSem.ClaimSeven
namespace Go.Proofs.YtdmpknekmdniaaaDoor
namespace Rows

/-- THE TIED CARD OF 'sigillaw2.WireZigs'. -/
def wireZigsCard : Claim7 := { stood := { row := wireZigsRow, standIns := [], harness := (true, "59dabed945423ae1d77749bb6d36de8906fcb0d5179882f358f477e04b932129"), looks := false }, kinds := [], alts := [], laidByText := true, laidKinds := [.data], laidTests := true, laidLooks := .later }
def WireZigsCardSaid : Prop := Claim7.holds Tryd.pinned (.plain (OpenSpec.ofChange wireZigsSpec)) wireZigsCard

/-- THE TIED CARD OF 'sigillaw2.WireForms'. -/
def wireFormsCard : Claim7 := { stood := { row := wireFormsRow, standIns := [], harness := (true, "59dabed945423ae1d77749bb6d36de8906fcb0d5179882f358f477e04b932129"), looks := false }, kinds := [], alts := [], laidByText := true, laidKinds := [.data], laidTests := true, laidLooks := .later }
def WireFormsCardSaid : Prop := Claim7.holds Tryd.pinned (.plain (OpenSpec.ofChange wireFormsSpec)) wireFormsCard

/-- THE TIED CARD OF 'sigillaw2.WireLonger'. -/
def wireLongerCard : Claim7 := { stood := { row := wireLongerRow, standIns := [], harness := (true, "59dabed945423ae1d77749bb6d36de8906fcb0d5179882f358f477e04b932129"), looks := false }, kinds := [], alts := [], laidByText := true, laidKinds := [.data], laidTests := true, laidLooks := .later }
def WireLongerCardSaid : Prop := Claim7.holds Tryd.pinned (.plain (OpenSpec.ofChange wireLongerSpec)) wireLongerCard

/-- THE TIED CARD OF 'sigillaw2.WireSame'. -/
def wireSameCard : Claim7 := { stood := { row := wireSameRow, standIns := [], harness := (true, "59dabed945423ae1d77749bb6d36de8906fcb0d5179882f358f477e04b932129"), looks := false }, kinds := [], alts := [], laidByText := true, laidKinds := [.data], laidTests := true, laidLooks := .later }
def WireSameCardSaid : Prop := Claim7.holds Tryd.pinned (.plain (OpenSpec.ofChange wireSameSpec)) wireSameCard

/-- THE TIED CARD OF 'sigillaw2.WireFronts'. -/
def wireFrontsCard : Claim7 := { stood := { row := wireFrontsRow, standIns := [], harness := (true, "59dabed945423ae1d77749bb6d36de8906fcb0d5179882f358f477e04b932129"), looks := false }, kinds := [], alts := [], laidByText := true, laidKinds := [.data], laidTests := true, laidLooks := .later }
def WireFrontsCardSaid : Prop := Claim7.holds Tryd.pinned (.plain (OpenSpec.ofChange wireFrontsSpec)) wireFrontsCard

/-- THE TIED CARD OF 'sigillaw2.WireTexts'. -/
def wireTextsCard : Claim7 := { stood := { row := wireTextsRow, standIns := [], harness := (true, "59dabed945423ae1d77749bb6d36de8906fcb0d5179882f358f477e04b932129"), looks := false }, kinds := [], alts := [], laidByText := true, laidKinds := [.data], laidTests := true, laidLooks := .later }
def WireTextsCardSaid : Prop := Claim7.holds Tryd.pinned (.plain (OpenSpec.ofChange wireTextsSpec)) wireTextsCard

/-- THE SECOND FORM's CARD OF 'sigillaw2.WireZigs'. -/
def wireZigsUptoCard : Claim7 := { stood := { row := wireZigsUptoRow, standIns := [], harness := (true, "59dabed945423ae1d77749bb6d36de8906fcb0d5179882f358f477e04b932129"), looks := false }, kinds := [], alts := [], laidByText := true, laidKinds := [.data], laidTests := true, laidLooks := .later }
def WireZigsUptoCardSaid : Prop := Claim7.holds Tryd.pinned (.plain (OpenSpec.upto wireZigsSpec)) wireZigsUptoCard

/-- THE SECOND FORM's CARD OF 'sigillaw2.WireForms'. -/
def wireFormsUptoCard : Claim7 := { stood := { row := wireFormsUptoRow, standIns := [], harness := (true, "59dabed945423ae1d77749bb6d36de8906fcb0d5179882f358f477e04b932129"), looks := false }, kinds := [], alts := [], laidByText := true, laidKinds := [.data], laidTests := true, laidLooks := .later }
def WireFormsUptoCardSaid : Prop := Claim7.holds Tryd.pinned (.plain (OpenSpec.upto wireFormsSpec)) wireFormsUptoCard

/-- THE SECOND FORM's CARD OF 'sigillaw2.WireLonger'. -/
def wireLongerUptoCard : Claim7 := { stood := { row := wireLongerUptoRow, standIns := [], harness := (true, "59dabed945423ae1d77749bb6d36de8906fcb0d5179882f358f477e04b932129"), looks := false }, kinds := [], alts := [], laidByText := true, laidKinds := [.data], laidTests := true, laidLooks := .later }
def WireLongerUptoCardSaid : Prop := Claim7.holds Tryd.pinned (.plain (OpenSpec.upto wireLongerSpec)) wireLongerUptoCard

/-- THE SECOND FORM's CARD OF 'sigillaw2.WireSame'. -/
def wireSameUptoCard : Claim7 := { stood := { row := wireSameUptoRow, standIns := [], harness := (true, "59dabed945423ae1d77749bb6d36de8906fcb0d5179882f358f477e04b932129"), looks := false }, kinds := [], alts := [], laidByText := true, laidKinds := [.data], laidTests := true, laidLooks := .later }
def WireSameUptoCardSaid : Prop := Claim7.holds Tryd.pinned (.plain (OpenSpec.upto wireSameSpec)) wireSameUptoCard

/-- THE SECOND FORM's CARD OF 'sigillaw2.WireFronts'. -/
def wireFrontsUptoCard : Claim7 := { stood := { row := wireFrontsUptoRow, standIns := [], harness := (true, "59dabed945423ae1d77749bb6d36de8906fcb0d5179882f358f477e04b932129"), looks := false }, kinds := [], alts := [], laidByText := true, laidKinds := [.data], laidTests := true, laidLooks := .later }
def WireFrontsUptoCardSaid : Prop := Claim7.holds Tryd.pinned (.plain (OpenSpec.upto wireFrontsSpec)) wireFrontsUptoCard

/-- THE SECOND FORM's CARD OF 'sigillaw2.WireTexts'. -/
def wireTextsUptoCard : Claim7 := { stood := { row := wireTextsUptoRow, standIns := [], harness := (true, "59dabed945423ae1d77749bb6d36de8906fcb0d5179882f358f477e04b932129"), looks := false }, kinds := [], alts := [], laidByText := true, laidKinds := [.data], laidTests := true, laidLooks := .later }
def WireTextsUptoCardSaid : Prop := Claim7.holds Tryd.pinned (.plain (OpenSpec.upto wireTextsSpec)) wireTextsUptoCard
end Rows
end Go.Proofs.YtdmpknekmdniaaaDoor
