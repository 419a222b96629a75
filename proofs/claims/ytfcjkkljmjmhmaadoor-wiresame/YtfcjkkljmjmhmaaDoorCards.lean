/-
  DERIVED. GIVEN WITH THE SEED: THE CARDS: each row of YtfcjkkljmjmhmaaDoorRows.lean that lists a variable, with what it lists TIED to the program's text (the seventh form; the later family's looks); each row that meets fmt, with fmt's text TOLD by the authors' own Lean function (tested against real Go, not proved from fmt's source: count such statements apart). THE CARD IS WHAT COUNTS. Prove the row's statement (the work); the ties are given (YtfcjkkljmjmhmaaDoorTie.lean); close each card by the builder's one call (the guide's Derived/Test/ToyasCard.lean, 'card_holds'). Laid BY PROGRAM, IN A SANDBOX (cutbox-door.mjs). By AI agents, Wed Nov 11 2026. No macro, syntax, notation, axiom, sorry.
-/
import Derived.Test.YtfcjkkljmjmhmaaDoorRows
import GoSem.ClaimSeven
namespace Go.Proofs.YtfcjkkljmjmhmaaDoor
namespace Rows

/-- THE TIED CARD OF 'sigillaw2.WireLonger'. -/
def wireLongerCard : Claim7 := { stood := { row := wireLongerRow, standIns := [], harness := (true, "caac01fc1b2041e31813a28a407d6d34e9c4d4815cc83a79786f5417f0d1dd62"), looks := false }, kinds := [], alts := [], laidByText := true, laidKinds := [.data], laidTests := true, laidLooks := .later }
def WireLongerCardSaid : Prop := Claim7.holds Tryd.pinned (.plain (OpenSpec.ofChange wireLongerSpec)) wireLongerCard

/-- THE TIED CARD OF 'sigillaw2.WireSame'. -/
def wireSameCard : Claim7 := { stood := { row := wireSameRow, standIns := [], harness := (true, "caac01fc1b2041e31813a28a407d6d34e9c4d4815cc83a79786f5417f0d1dd62"), looks := false }, kinds := [], alts := [], laidByText := true, laidKinds := [.data], laidTests := true, laidLooks := .later }
def WireSameCardSaid : Prop := Claim7.holds Tryd.pinned (.plain (OpenSpec.ofChange wireSameSpec)) wireSameCard

/-- THE TIED CARD OF 'sigillaw2.WireFronts'. -/
def wireFrontsCard : Claim7 := { stood := { row := wireFrontsRow, standIns := [], harness := (true, "caac01fc1b2041e31813a28a407d6d34e9c4d4815cc83a79786f5417f0d1dd62"), looks := false }, kinds := [], alts := [], laidByText := true, laidKinds := [.data], laidTests := true, laidLooks := .later }
def WireFrontsCardSaid : Prop := Claim7.holds Tryd.pinned (.plain (OpenSpec.ofChange wireFrontsSpec)) wireFrontsCard

/-- THE TIED CARD OF 'sigillaw2.WireOwn'. -/
def wireOwnCard : Claim7 := { stood := { row := wireOwnRow, standIns := [], harness := (true, "caac01fc1b2041e31813a28a407d6d34e9c4d4815cc83a79786f5417f0d1dd62"), looks := false }, kinds := [], alts := [], laidByText := true, laidKinds := [.data], laidTests := true, laidLooks := .later }
def WireOwnCardSaid : Prop := Claim7.holds Tryd.pinned (.plain (OpenSpec.ofChange wireOwnSpec)) wireOwnCard

/-- THE TIED CARD OF 'sigillaw2.WireSplits'. -/
def wireSplitsCard : Claim7 := { stood := { row := wireSplitsRow, standIns := [], harness := (true, "caac01fc1b2041e31813a28a407d6d34e9c4d4815cc83a79786f5417f0d1dd62"), looks := false }, kinds := [], alts := [], laidByText := true, laidKinds := [.data], laidTests := true, laidLooks := .later }
def WireSplitsCardSaid : Prop := Claim7.holds Tryd.pinned (.plain (OpenSpec.ofChange wireSplitsSpec)) wireSplitsCard

/-- THE TIED CARD OF 'sigillaw2.WireReads'. -/
def wireReadsCard : Claim7 := { stood := { row := wireReadsRow, standIns := [], harness := (true, "caac01fc1b2041e31813a28a407d6d34e9c4d4815cc83a79786f5417f0d1dd62"), looks := false }, kinds := [], alts := [], laidByText := true, laidKinds := [.data], laidTests := true, laidLooks := .later }
def WireReadsCardSaid : Prop := Claim7.holds Tryd.pinned (.plain (OpenSpec.ofChange wireReadsSpec)) wireReadsCard

/-- THE SECOND FORM's CARD OF 'sigillaw2.WireLonger'. -/
def wireLongerUptoCard : Claim7 := { stood := { row := wireLongerUptoRow, standIns := [], harness := (true, "caac01fc1b2041e31813a28a407d6d34e9c4d4815cc83a79786f5417f0d1dd62"), looks := false }, kinds := [], alts := [], laidByText := true, laidKinds := [.data], laidTests := true, laidLooks := .later }
def WireLongerUptoCardSaid : Prop := Claim7.holds Tryd.pinned (.plain (OpenSpec.upto wireLongerSpec)) wireLongerUptoCard

/-- THE SECOND FORM's CARD OF 'sigillaw2.WireSame'. -/
def wireSameUptoCard : Claim7 := { stood := { row := wireSameUptoRow, standIns := [], harness := (true, "caac01fc1b2041e31813a28a407d6d34e9c4d4815cc83a79786f5417f0d1dd62"), looks := false }, kinds := [], alts := [], laidByText := true, laidKinds := [.data], laidTests := true, laidLooks := .later }
def WireSameUptoCardSaid : Prop := Claim7.holds Tryd.pinned (.plain (OpenSpec.upto wireSameSpec)) wireSameUptoCard

/-- THE SECOND FORM's CARD OF 'sigillaw2.WireFronts'. -/
def wireFrontsUptoCard : Claim7 := { stood := { row := wireFrontsUptoRow, standIns := [], harness := (true, "caac01fc1b2041e31813a28a407d6d34e9c4d4815cc83a79786f5417f0d1dd62"), looks := false }, kinds := [], alts := [], laidByText := true, laidKinds := [.data], laidTests := true, laidLooks := .later }
def WireFrontsUptoCardSaid : Prop := Claim7.holds Tryd.pinned (.plain (OpenSpec.upto wireFrontsSpec)) wireFrontsUptoCard

/-- THE SECOND FORM's CARD OF 'sigillaw2.WireOwn'. -/
def wireOwnUptoCard : Claim7 := { stood := { row := wireOwnUptoRow, standIns := [], harness := (true, "caac01fc1b2041e31813a28a407d6d34e9c4d4815cc83a79786f5417f0d1dd62"), looks := false }, kinds := [], alts := [], laidByText := true, laidKinds := [.data], laidTests := true, laidLooks := .later }
def WireOwnUptoCardSaid : Prop := Claim7.holds Tryd.pinned (.plain (OpenSpec.upto wireOwnSpec)) wireOwnUptoCard

/-- THE SECOND FORM's CARD OF 'sigillaw2.WireSplits'. -/
def wireSplitsUptoCard : Claim7 := { stood := { row := wireSplitsUptoRow, standIns := [], harness := (true, "caac01fc1b2041e31813a28a407d6d34e9c4d4815cc83a79786f5417f0d1dd62"), looks := false }, kinds := [], alts := [], laidByText := true, laidKinds := [.data], laidTests := true, laidLooks := .later }
def WireSplitsUptoCardSaid : Prop := Claim7.holds Tryd.pinned (.plain (OpenSpec.upto wireSplitsSpec)) wireSplitsUptoCard

/-- THE SECOND FORM's CARD OF 'sigillaw2.WireReads'. -/
def wireReadsUptoCard : Claim7 := { stood := { row := wireReadsUptoRow, standIns := [], harness := (true, "caac01fc1b2041e31813a28a407d6d34e9c4d4815cc83a79786f5417f0d1dd62"), looks := false }, kinds := [], alts := [], laidByText := true, laidKinds := [.data], laidTests := true, laidLooks := .later }
def WireReadsUptoCardSaid : Prop := Claim7.holds Tryd.pinned (.plain (OpenSpec.upto wireReadsSpec)) wireReadsUptoCard
end Rows
end Go.Proofs.YtfcjkkljmjmhmaaDoor
