/-
  DERIVED. GIVEN WITH THE SEED: THE CARDS: each row of YtoclbmdnndaccaaDoorRows.lean that lists a variable, with what it lists TIED to the program's text (the seventh form; the later family's looks); each row that meets fmt, with fmt's text TOLD by the authors' own Lean function (tested against real Go, not proved from fmt's source: count such statements apart). THE CARD IS WHAT COUNTS. Prove the row's statement (the work); the ties are given (YtoclbmdnndaccaaDoorTie.lean); close each card by the builder's one call (the guide's Derived/Test/ToyasCard.lean, 'card_holds'). Laid BY PROGRAM, IN A SANDBOX (cutbox-door.mjs). By AI agents, Wed Nov 11 2026. No macro, syntax, notation, axiom, sorry.
-/
import Derived.Test.YtoclbmdnndaccaaDoorRows
import GoSem.ClaimSeven
namespace Go.Proofs.YtoclbmdnndaccaaDoor
namespace Rows

/-- THE TIED CARD OF 'sigillaw3.DigestBursts'. -/
def digestBurstsCard : Claim7 := { stood := { row := digestBurstsRow, standIns := [], harness := (true, "006377bda4d87d639380f9bb03f8f15198f6097ae85713d2fe1af7c0171080a5"), looks := false }, kinds := [], alts := [], laidByText := true, laidKinds := [.data], laidTests := true, laidLooks := .later }
def DigestBurstsCardSaid : Prop := Claim7.holds Tryd.pinned (.plain (OpenSpec.ofChange digestBurstsSpec)) digestBurstsCard

/-- THE TIED CARD OF 'sigillaw3.DigestMixes'. -/
def digestMixesCard : Claim7 := { stood := { row := digestMixesRow, standIns := [], harness := (true, "006377bda4d87d639380f9bb03f8f15198f6097ae85713d2fe1af7c0171080a5"), looks := false }, kinds := [], alts := [], laidByText := true, laidKinds := [.data], laidTests := true, laidLooks := .later }
def DigestMixesCardSaid : Prop := Claim7.holds Tryd.pinned (.plain (OpenSpec.ofChange digestMixesSpec)) digestMixesCard

/-- THE TIED CARD OF 'sigillaw3.DigestCrcs'. -/
def digestCrcsCard : Claim7 := { stood := { row := digestCrcsRow, standIns := [], harness := (true, "006377bda4d87d639380f9bb03f8f15198f6097ae85713d2fe1af7c0171080a5"), looks := false }, kinds := [], alts := [], laidByText := true, laidKinds := [.data], laidTests := true, laidLooks := .later }
def DigestCrcsCardSaid : Prop := Claim7.holds Tryd.pinned (.plain (OpenSpec.ofChange digestCrcsSpec)) digestCrcsCard

/-- THE SECOND FORM's CARD OF 'sigillaw3.DigestBursts'. -/
def digestBurstsUptoCard : Claim7 := { stood := { row := digestBurstsUptoRow, standIns := [], harness := (true, "006377bda4d87d639380f9bb03f8f15198f6097ae85713d2fe1af7c0171080a5"), looks := false }, kinds := [], alts := [], laidByText := true, laidKinds := [.data], laidTests := true, laidLooks := .later }
def DigestBurstsUptoCardSaid : Prop := Claim7.holds Tryd.pinned (.plain (OpenSpec.upto digestBurstsSpec)) digestBurstsUptoCard

/-- THE SECOND FORM's CARD OF 'sigillaw3.DigestMixes'. -/
def digestMixesUptoCard : Claim7 := { stood := { row := digestMixesUptoRow, standIns := [], harness := (true, "006377bda4d87d639380f9bb03f8f15198f6097ae85713d2fe1af7c0171080a5"), looks := false }, kinds := [], alts := [], laidByText := true, laidKinds := [.data], laidTests := true, laidLooks := .later }
def DigestMixesUptoCardSaid : Prop := Claim7.holds Tryd.pinned (.plain (OpenSpec.upto digestMixesSpec)) digestMixesUptoCard

/-- THE SECOND FORM's CARD OF 'sigillaw3.DigestCrcs'. -/
def digestCrcsUptoCard : Claim7 := { stood := { row := digestCrcsUptoRow, standIns := [], harness := (true, "006377bda4d87d639380f9bb03f8f15198f6097ae85713d2fe1af7c0171080a5"), looks := false }, kinds := [], alts := [], laidByText := true, laidKinds := [.data], laidTests := true, laidLooks := .later }
def DigestCrcsUptoCardSaid : Prop := Claim7.holds Tryd.pinned (.plain (OpenSpec.upto digestCrcsSpec)) digestCrcsUptoCard
end Rows
end Go.Proofs.YtoclbmdnndaccaaDoor
