/-
  DERIVED. GIVEN WITH THE SEED: THE CARDS: each row of YtadmamfekodkaaaDoorRows.lean that lists a variable, with what it lists TIED to the program's text (the seventh form; the later family's looks); each row that meets fmt, with fmt's text TOLD by the authors' own Lean function (tested against real Go, not proved from fmt's source: count such statements apart). THE CARD IS WHAT COUNTS. Prove the row's statement (the work); the ties are given (YtadmamfekodkaaaDoorTie.lean); close each card by the builder's one call (the guide's Derived/Test/ToyasCard.lean, 'card_holds'). Laid BY PROGRAM, IN A SANDBOX (cutbox-door.mjs). By AI agents, Wed Nov 11 2026. No macro, syntax, notation, axiom, sorry.
-/
import Derived.Test.YtadmamfekodkaaaDoorRows
import GoSem.ClaimSeven
namespace Go.Proofs.YtadmamfekodkaaaDoor
namespace Rows

/-- THE TIED CARD OF 'sigillaw20.ShellWords'. -/
def shellWordsCard : Claim7 := { stood := { row := shellWordsRow, standIns := [], harness := (true, "3f4b8dfc5d1e115225e8d2ffa09b53a478b220c5783a33861046570aa79b5ef1"), looks := true }, kinds := [], alts := [], laidByText := true, laidKinds := [.data, .data, .data, .sentinel, .sentinel], laidTests := true, laidLooks := .later }
def ShellWordsCardSaid : Prop := Claim7.holds Tryd.pinned (.plain (OpenSpec.ofChange shellWordsSpec)) shellWordsCard

/-- THE TIED CARD OF 'sigillaw20.ShellQuotes'. -/
def shellQuotesCard : Claim7 := { stood := { row := shellQuotesRow, standIns := [], harness := (true, "3f4b8dfc5d1e115225e8d2ffa09b53a478b220c5783a33861046570aa79b5ef1"), looks := true }, kinds := [], alts := [], laidByText := true, laidKinds := [.data, .data, .data, .sentinel, .sentinel], laidTests := true, laidLooks := .later }
def ShellQuotesCardSaid : Prop := Claim7.holds Tryd.pinned (.plain (OpenSpec.ofChange shellQuotesSpec)) shellQuotesCard

/-- THE TIED CARD OF 'sigillaw20.ShellJoins'. -/
def shellJoinsCard : Claim7 := { stood := { row := shellJoinsRow, standIns := [], harness := (true, "3f4b8dfc5d1e115225e8d2ffa09b53a478b220c5783a33861046570aa79b5ef1"), looks := true }, kinds := [], alts := [], laidByText := true, laidKinds := [.data, .data, .data, .sentinel, .sentinel], laidTests := true, laidLooks := .later }
def ShellJoinsCardSaid : Prop := Claim7.holds Tryd.pinned (.plain (OpenSpec.ofChange shellJoinsSpec)) shellJoinsCard

/-- THE TIED CARD OF 'sigillaw20.ShellOwn'. -/
def shellOwnCard : Claim7 := { stood := { row := shellOwnRow, standIns := [], harness := (true, "3f4b8dfc5d1e115225e8d2ffa09b53a478b220c5783a33861046570aa79b5ef1"), looks := true }, kinds := [], alts := [], laidByText := true, laidKinds := [.data, .data, .data, .sentinel, .sentinel], laidTests := true, laidLooks := .later }
def ShellOwnCardSaid : Prop := Claim7.holds Tryd.pinned (.plain (OpenSpec.ofChange shellOwnSpec)) shellOwnCard

/-- THE SECOND FORM's CARD OF 'sigillaw20.ShellWords'. -/
def shellWordsUptoCard : Claim7 := { stood := { row := shellWordsUptoRow, standIns := [], harness := (true, "3f4b8dfc5d1e115225e8d2ffa09b53a478b220c5783a33861046570aa79b5ef1"), looks := true }, kinds := [], alts := [], laidByText := true, laidKinds := [.data, .data, .data, .sentinel, .sentinel], laidTests := true, laidLooks := .later }
def ShellWordsUptoCardSaid : Prop := Claim7.holds Tryd.pinned (.plain (OpenSpec.upto shellWordsSpec)) shellWordsUptoCard

/-- THE SECOND FORM's CARD OF 'sigillaw20.ShellQuotes'. -/
def shellQuotesUptoCard : Claim7 := { stood := { row := shellQuotesUptoRow, standIns := [], harness := (true, "3f4b8dfc5d1e115225e8d2ffa09b53a478b220c5783a33861046570aa79b5ef1"), looks := true }, kinds := [], alts := [], laidByText := true, laidKinds := [.data, .data, .data, .sentinel, .sentinel], laidTests := true, laidLooks := .later }
def ShellQuotesUptoCardSaid : Prop := Claim7.holds Tryd.pinned (.plain (OpenSpec.upto shellQuotesSpec)) shellQuotesUptoCard

/-- THE SECOND FORM's CARD OF 'sigillaw20.ShellJoins'. -/
def shellJoinsUptoCard : Claim7 := { stood := { row := shellJoinsUptoRow, standIns := [], harness := (true, "3f4b8dfc5d1e115225e8d2ffa09b53a478b220c5783a33861046570aa79b5ef1"), looks := true }, kinds := [], alts := [], laidByText := true, laidKinds := [.data, .data, .data, .sentinel, .sentinel], laidTests := true, laidLooks := .later }
def ShellJoinsUptoCardSaid : Prop := Claim7.holds Tryd.pinned (.plain (OpenSpec.upto shellJoinsSpec)) shellJoinsUptoCard

/-- THE SECOND FORM's CARD OF 'sigillaw20.ShellOwn'. -/
def shellOwnUptoCard : Claim7 := { stood := { row := shellOwnUptoRow, standIns := [], harness := (true, "3f4b8dfc5d1e115225e8d2ffa09b53a478b220c5783a33861046570aa79b5ef1"), looks := true }, kinds := [], alts := [], laidByText := true, laidKinds := [.data, .data, .data, .sentinel, .sentinel], laidTests := true, laidLooks := .later }
def ShellOwnUptoCardSaid : Prop := Claim7.holds Tryd.pinned (.plain (OpenSpec.upto shellOwnSpec)) shellOwnUptoCard
end Rows
end Go.Proofs.YtadmamfekodkaaaDoor
