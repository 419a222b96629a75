/-
  DERIVED. GIVEN WITH THE SEED: THE CARDS: each row of YtmlphohdcejniaaGreatDoorRows.lean that lists a variable, with what it lists TIED to the program's text (the seventh form; the later family's looks); each row that meets fmt, with fmt's text TOLD by the authors' own Lean function (tested against real Go, not proved from fmt's source: count such statements apart). THE CARD IS WHAT COUNTS. Prove the row's statement (the work); the ties are given (YtmlphohdcejniaaGreatDoorTie.lean); close each card by the builder's one call (the guide's Derived/Test/ToyasCard.lean, 'card_holds'). Laid BY PROGRAM, IN A SANDBOX (cutbox-door.mjs). By AI agents, Wed Nov 11 2026. No macro, syntax, notation, axiom, sorry.
-/
import Derived.Test.YtmlphohdcejniaaGreatDoorRows
import GoSem.ClaimSeven
namespace Go.Proofs.YtmlphohdcejniaaGreatDoor
namespace Rows

/-- THE TIED CARD OF 'sigillaw5.ParseBack'. -/
def parseBackCard : Claim7 := { stood := { row := parseBackRow, standIns := [], harness := (true, "8fa7fec1cb12cc432e7db79f632b4d27a9f76342d85de445f15e6b4c5dc8a715"), looks := true }, kinds := [], alts := [], laidByText := true, laidKinds := [.data, .data, .data, .data, .data, .sentinel, .sentinel, .pinned], laidTests := true, laidLooks := .later }
def ParseBackCardSaid : Prop := Claim7.holds Tryz.pinned (.plain (OpenSpec.ofChange parseBackSpec)) parseBackCard

/-- THE TIED CARD OF 'sigillaw5.ParseFronts'. -/
def parseFrontsCard : Claim7 := { stood := { row := parseFrontsRow, standIns := [], harness := (true, "8fa7fec1cb12cc432e7db79f632b4d27a9f76342d85de445f15e6b4c5dc8a715"), looks := true }, kinds := [], alts := [], laidByText := true, laidKinds := [.data, .data, .data, .data, .data, .sentinel, .sentinel, .pinned], laidTests := true, laidLooks := .later }
def ParseFrontsCardSaid : Prop := Claim7.holds Tryz.pinned (.plain (OpenSpec.ofChange parseFrontsSpec)) parseFrontsCard

/-- THE TIED CARD OF 'sigillaw5.ParseOwn'. -/
def parseOwnCard : Claim7 := { stood := { row := parseOwnRow, standIns := [], harness := (true, "8fa7fec1cb12cc432e7db79f632b4d27a9f76342d85de445f15e6b4c5dc8a715"), looks := true }, kinds := [], alts := [], laidByText := true, laidKinds := [.data, .data, .data, .data, .data, .sentinel, .sentinel, .pinned], laidTests := true, laidLooks := .later }
def ParseOwnCardSaid : Prop := Claim7.holds Tryz.pinned (.plain (OpenSpec.ofChange parseOwnSpec)) parseOwnCard

/-- THE SECOND FORM's CARD OF 'sigillaw5.ParseBack'. -/
def parseBackUptoCard : Claim7 := { stood := { row := parseBackUptoRow, standIns := [], harness := (true, "8fa7fec1cb12cc432e7db79f632b4d27a9f76342d85de445f15e6b4c5dc8a715"), looks := true }, kinds := [], alts := [], laidByText := true, laidKinds := [.data, .data, .data, .data, .data, .sentinel, .sentinel, .pinned], laidTests := true, laidLooks := .later }
def ParseBackUptoCardSaid : Prop := Claim7.holds Tryz.pinned (.plain (OpenSpec.upto parseBackSpec)) parseBackUptoCard

/-- THE SECOND FORM's CARD OF 'sigillaw5.ParseFronts'. -/
def parseFrontsUptoCard : Claim7 := { stood := { row := parseFrontsUptoRow, standIns := [], harness := (true, "8fa7fec1cb12cc432e7db79f632b4d27a9f76342d85de445f15e6b4c5dc8a715"), looks := true }, kinds := [], alts := [], laidByText := true, laidKinds := [.data, .data, .data, .data, .data, .sentinel, .sentinel, .pinned], laidTests := true, laidLooks := .later }
def ParseFrontsUptoCardSaid : Prop := Claim7.holds Tryz.pinned (.plain (OpenSpec.upto parseFrontsSpec)) parseFrontsUptoCard

/-- THE SECOND FORM's CARD OF 'sigillaw5.ParseOwn'. -/
def parseOwnUptoCard : Claim7 := { stood := { row := parseOwnUptoRow, standIns := [], harness := (true, "8fa7fec1cb12cc432e7db79f632b4d27a9f76342d85de445f15e6b4c5dc8a715"), looks := true }, kinds := [], alts := [], laidByText := true, laidKinds := [.data, .data, .data, .data, .data, .sentinel, .sentinel, .pinned], laidTests := true, laidLooks := .later }
def ParseOwnUptoCardSaid : Prop := Claim7.holds Tryz.pinned (.plain (OpenSpec.upto parseOwnSpec)) parseOwnUptoCard
end Rows
end Go.Proofs.YtmlphohdcejniaaGreatDoor
