/-
  DERIVED. GIVEN WITH THE SEED: THE CARDS: each row of YtghioefalckgoaaGreatDoorRows.lean that lists a variable, with what it lists TIED to the program's text (the seventh form; the later family's looks); each row that meets fmt, with fmt's text TOLD by the authors' own Lean function (tested against real Go, not proved from fmt's source: count such statements apart). THE CARD IS WHAT COUNTS. Prove the row's statement (the work); the ties are given (YtghioefalckgoaaGreatDoorTie.lean); close each card by the builder's one call (the guide's Derived/Test/ToyasCard.lean, 'card_holds'). Laid BY PROGRAM, IN A SANDBOX (cutbox-door.mjs). By AI agents, Wed Nov 11 2026. No macro, syntax, notation, axiom, sorry.
-/
import Derived.Test.YtghioefalckgoaaGreatDoorRows
import GoSem.ClaimSeven
namespace Go.Proofs.YtghioefalckgoaaGreatDoor
namespace Rows

/-- THE TIED CARD OF 'sigillaw6.PrintShuffled'. -/
def printShuffledCard : Claim7 := { stood := { row := printShuffledRow, standIns := [], harness := (true, "2acd6aebabba23b06e231f725bcb23548753fbb4341fb41d29d6468408d69c46"), looks := true }, kinds := [], alts := [], laidByText := true, laidKinds := [.data, .data, .data, .data, .data, .sentinel, .sentinel, .pinned], laidTests := true, laidLooks := .later }
def PrintShuffledCardSaid : Prop := Claim7.holds Tryz.pinned (.plain (OpenSpec.ofChange printShuffledSpec)) printShuffledCard

/-- THE TIED CARD OF 'sigillaw6.PrintBook'. -/
def printBookCard : Claim7 := { stood := { row := printBookRow, standIns := [], harness := (true, "2acd6aebabba23b06e231f725bcb23548753fbb4341fb41d29d6468408d69c46"), looks := true }, kinds := [], alts := [], laidByText := true, laidKinds := [.data, .data, .data, .data, .data, .sentinel, .sentinel, .pinned], laidTests := true, laidLooks := .later }
def PrintBookCardSaid : Prop := Claim7.holds Tryz.pinned (.plain (OpenSpec.ofChange printBookSpec)) printBookCard

/-- THE TIED CARD OF 'sigillaw6.PrintSorts'. -/
def printSortsCard : Claim7 := { stood := { row := printSortsRow, standIns := [], harness := (true, "2acd6aebabba23b06e231f725bcb23548753fbb4341fb41d29d6468408d69c46"), looks := true }, kinds := [], alts := [], laidByText := true, laidKinds := [.data, .data, .data, .data, .data, .sentinel, .sentinel, .pinned], laidTests := true, laidLooks := .later }
def PrintSortsCardSaid : Prop := Claim7.holds Tryz.pinned (.plain (OpenSpec.ofChange printSortsSpec)) printSortsCard

/-- THE SECOND FORM's CARD OF 'sigillaw6.PrintShuffled'. -/
def printShuffledUptoCard : Claim7 := { stood := { row := printShuffledUptoRow, standIns := [], harness := (true, "2acd6aebabba23b06e231f725bcb23548753fbb4341fb41d29d6468408d69c46"), looks := true }, kinds := [], alts := [], laidByText := true, laidKinds := [.data, .data, .data, .data, .data, .sentinel, .sentinel, .pinned], laidTests := true, laidLooks := .later }
def PrintShuffledUptoCardSaid : Prop := Claim7.holds Tryz.pinned (.plain (OpenSpec.upto printShuffledSpec)) printShuffledUptoCard

/-- THE SECOND FORM's CARD OF 'sigillaw6.PrintBook'. -/
def printBookUptoCard : Claim7 := { stood := { row := printBookUptoRow, standIns := [], harness := (true, "2acd6aebabba23b06e231f725bcb23548753fbb4341fb41d29d6468408d69c46"), looks := true }, kinds := [], alts := [], laidByText := true, laidKinds := [.data, .data, .data, .data, .data, .sentinel, .sentinel, .pinned], laidTests := true, laidLooks := .later }
def PrintBookUptoCardSaid : Prop := Claim7.holds Tryz.pinned (.plain (OpenSpec.upto printBookSpec)) printBookUptoCard

/-- THE SECOND FORM's CARD OF 'sigillaw6.PrintSorts'. -/
def printSortsUptoCard : Claim7 := { stood := { row := printSortsUptoRow, standIns := [], harness := (true, "2acd6aebabba23b06e231f725bcb23548753fbb4341fb41d29d6468408d69c46"), looks := true }, kinds := [], alts := [], laidByText := true, laidKinds := [.data, .data, .data, .data, .data, .sentinel, .sentinel, .pinned], laidTests := true, laidLooks := .later }
def PrintSortsUptoCardSaid : Prop := Claim7.holds Tryz.pinned (.plain (OpenSpec.upto printSortsSpec)) printSortsUptoCard
end Rows
end Go.Proofs.YtghioefalckgoaaGreatDoor
