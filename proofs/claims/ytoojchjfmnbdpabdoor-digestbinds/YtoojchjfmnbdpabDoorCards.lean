/-
  DERIVED. GIVEN WITH THE SEED: THE CARDS: each row of YtoojchjfmnbdpabDoorRows.lean that lists a variable, with what it lists TIED to the program's text (the seventh form; the later family's looks); each row that meets fmt, with fmt's text TOLD by the authors' own Lean function (tested against real Go, not proved from fmt's source: count such statements apart). THE CARD IS WHAT COUNTS. Prove the row's statement (the work); the ties are given (YtoojchjfmnbdpabDoorTie.lean); close each card by the builder's one call (the guide's Derived/Test/ToyasCard.lean, 'card_holds'). Laid BY PROGRAM, IN A SANDBOX (cutbox-door.mjs). By AI agents, Wed Nov 11 2026. No macro, syntax, notation, axiom, sorry.
-/
import Derived.Test.YtoojchjfmnbdpabDoorRows
import GoSem.ClaimSeven
namespace Go.Proofs.YtoojchjfmnbdpabDoor
namespace Rows

/-- THE TIED CARD OF 'sigillaw3.DigestStreams'. -/
def digestStreamsCard : Claim7 := { stood := { row := digestStreamsRow, standIns := [], harness := (true, "fc0a28d78d6f105d57d8885e155da0deb791d8b5fad30c2374ca444ce4c90039"), looks := false }, kinds := [], alts := [], laidByText := true, laidKinds := [.data, .data, .data], laidTests := true, laidLooks := .later }
def DigestStreamsCardSaid : Prop := Claim7.holds Tryd.pinned (.plain (OpenSpec.ofChange digestStreamsSpec)) digestStreamsCard

/-- THE TIED CARD OF 'sigillaw3.DigestOpens'. -/
def digestOpensCard : Claim7 := { stood := { row := digestOpensRow, standIns := [], harness := (true, "fc0a28d78d6f105d57d8885e155da0deb791d8b5fad30c2374ca444ce4c90039"), looks := false }, kinds := [], alts := [], laidByText := true, laidKinds := [.data, .data], laidTests := true, laidLooks := .later }
def DigestOpensCardSaid : Prop := Claim7.holds Tryd.pinned (.plain (OpenSpec.ofChange digestOpensSpec)) digestOpensCard

/-- THE TIED CARD OF 'sigillaw3.DigestBinds'. -/
def digestBindsCard : Claim7 := { stood := { row := digestBindsRow, standIns := [], harness := (true, "fc0a28d78d6f105d57d8885e155da0deb791d8b5fad30c2374ca444ce4c90039"), looks := false }, kinds := [], alts := [], laidByText := true, laidKinds := [.data, .data], laidTests := true, laidLooks := .later }
def DigestBindsCardSaid : Prop := Claim7.holds Tryd.pinned (.plain (OpenSpec.ofChange digestBindsSpec)) digestBindsCard

/-- THE TIED CARD OF 'sigillaw3.DigestDomains'. -/
def digestDomainsCard : Claim7 := { stood := { row := digestDomainsRow, standIns := [], harness := (true, "fc0a28d78d6f105d57d8885e155da0deb791d8b5fad30c2374ca444ce4c90039"), looks := false }, kinds := [], alts := [], laidByText := true, laidKinds := [.data, .data, .data], laidTests := true, laidLooks := .later }
def DigestDomainsCardSaid : Prop := Claim7.holds Tryd.pinned (.plain (OpenSpec.ofChange digestDomainsSpec)) digestDomainsCard

/-- THE TIED CARD OF 'sigillaw3.DigestRoots'. -/
def digestRootsCard : Claim7 := { stood := { row := digestRootsRow, standIns := [], harness := (true, "fc0a28d78d6f105d57d8885e155da0deb791d8b5fad30c2374ca444ce4c90039"), looks := false }, kinds := [], alts := [], laidByText := true, laidKinds := [.data, .data, .data], laidTests := true, laidLooks := .later }
def DigestRootsCardSaid : Prop := Claim7.holds Tryd.pinned (.plain (OpenSpec.ofChange digestRootsSpec)) digestRootsCard

/-- THE TIED CARD OF 'sigillaw3.DigestRebuilds'. -/
def digestRebuildsCard : Claim7 := { stood := { row := digestRebuildsRow, standIns := [], harness := (true, "fc0a28d78d6f105d57d8885e155da0deb791d8b5fad30c2374ca444ce4c90039"), looks := false }, kinds := [], alts := [], laidByText := true, laidKinds := [.data, .data, .data], laidTests := true, laidLooks := .later }
def DigestRebuildsCardSaid : Prop := Claim7.holds Tryd.pinned (.plain (OpenSpec.ofChange digestRebuildsSpec)) digestRebuildsCard

/-- THE SECOND FORM's CARD OF 'sigillaw3.DigestStreams'. -/
def digestStreamsUptoCard : Claim7 := { stood := { row := digestStreamsUptoRow, standIns := [], harness := (true, "fc0a28d78d6f105d57d8885e155da0deb791d8b5fad30c2374ca444ce4c90039"), looks := false }, kinds := [], alts := [], laidByText := true, laidKinds := [.data, .data, .data], laidTests := true, laidLooks := .later }
def DigestStreamsUptoCardSaid : Prop := Claim7.holds Tryd.pinned (.plain (OpenSpec.upto digestStreamsSpec)) digestStreamsUptoCard

/-- THE SECOND FORM's CARD OF 'sigillaw3.DigestOpens'. -/
def digestOpensUptoCard : Claim7 := { stood := { row := digestOpensUptoRow, standIns := [], harness := (true, "fc0a28d78d6f105d57d8885e155da0deb791d8b5fad30c2374ca444ce4c90039"), looks := false }, kinds := [], alts := [], laidByText := true, laidKinds := [.data, .data], laidTests := true, laidLooks := .later }
def DigestOpensUptoCardSaid : Prop := Claim7.holds Tryd.pinned (.plain (OpenSpec.upto digestOpensSpec)) digestOpensUptoCard

/-- THE SECOND FORM's CARD OF 'sigillaw3.DigestBinds'. -/
def digestBindsUptoCard : Claim7 := { stood := { row := digestBindsUptoRow, standIns := [], harness := (true, "fc0a28d78d6f105d57d8885e155da0deb791d8b5fad30c2374ca444ce4c90039"), looks := false }, kinds := [], alts := [], laidByText := true, laidKinds := [.data, .data], laidTests := true, laidLooks := .later }
def DigestBindsUptoCardSaid : Prop := Claim7.holds Tryd.pinned (.plain (OpenSpec.upto digestBindsSpec)) digestBindsUptoCard

/-- THE SECOND FORM's CARD OF 'sigillaw3.DigestDomains'. -/
def digestDomainsUptoCard : Claim7 := { stood := { row := digestDomainsUptoRow, standIns := [], harness := (true, "fc0a28d78d6f105d57d8885e155da0deb791d8b5fad30c2374ca444ce4c90039"), looks := false }, kinds := [], alts := [], laidByText := true, laidKinds := [.data, .data, .data], laidTests := true, laidLooks := .later }
def DigestDomainsUptoCardSaid : Prop := Claim7.holds Tryd.pinned (.plain (OpenSpec.upto digestDomainsSpec)) digestDomainsUptoCard

/-- THE SECOND FORM's CARD OF 'sigillaw3.DigestRoots'. -/
def digestRootsUptoCard : Claim7 := { stood := { row := digestRootsUptoRow, standIns := [], harness := (true, "fc0a28d78d6f105d57d8885e155da0deb791d8b5fad30c2374ca444ce4c90039"), looks := false }, kinds := [], alts := [], laidByText := true, laidKinds := [.data, .data, .data], laidTests := true, laidLooks := .later }
def DigestRootsUptoCardSaid : Prop := Claim7.holds Tryd.pinned (.plain (OpenSpec.upto digestRootsSpec)) digestRootsUptoCard

/-- THE SECOND FORM's CARD OF 'sigillaw3.DigestRebuilds'. -/
def digestRebuildsUptoCard : Claim7 := { stood := { row := digestRebuildsUptoRow, standIns := [], harness := (true, "fc0a28d78d6f105d57d8885e155da0deb791d8b5fad30c2374ca444ce4c90039"), looks := false }, kinds := [], alts := [], laidByText := true, laidKinds := [.data, .data, .data], laidTests := true, laidLooks := .later }
def DigestRebuildsUptoCardSaid : Prop := Claim7.holds Tryd.pinned (.plain (OpenSpec.upto digestRebuildsSpec)) digestRebuildsUptoCard
end Rows
end Go.Proofs.YtoojchjfmnbdpabDoor
