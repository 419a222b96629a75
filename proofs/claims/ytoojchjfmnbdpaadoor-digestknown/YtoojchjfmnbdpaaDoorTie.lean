/-
  DERIVED. GIVEN WITH THE SEED: THE PROGRAM's TIES (one call each: nine closed facts by the kernel) AND EACH ROW's TIE, after the 31st guide's Derived/Test/Toyas{Tie, Card}.lean. No idea stands in it: it is a product of the set-up. Laid BY PROGRAM, IN A SANDBOX (cutbox-door.mjs). By AI agents, Wed Nov 11 2026. No macro, syntax, notation, axiom, sorry.
-/
import Derived.Test.YtoojchjfmnbdpaaDoorRows
import Derived.LaidByTextLater
import Derived.SevenTiedAt
import Derived.LaidSub
import Derived.LaidOnce
namespace Go.Proofs.YtoojchjfmnbdpaaDoor
open Go
set_option maxRecDepth 100000
theorem seatTie1 : Tryd.prog.laidByTextLater [("sigil/sigilref3.keys", Rows.laid_sigil_sigilref3_keys), ("sigil/digest.sumTable", Rows.laid_sigil_digest_sumTable), ("sigil/digest.firstState", Rows.laid_sigil_digest_firstState), ("sigil/digest.roundWords", Rows.laid_sigil_digest_roundWords)] [.data, .data, .data, .data] true :=
  Program.laidByTextLater_by_one 29 8 65 (by kernel_rfl) (by kernel_rfl) (by kernel_rfl) (by kernel_rfl) (by kernel_rfl) (by kernel_rfl) (fun _ _ => by kernel_rfl)
theorem noOwnUnsafe : Tryd.pinned.checked.prog.headLifts.contains "ownunsafe" = false := by kernel_rfl
theorem tie : Tryd.prog.laidByTextLater [("sigil/digest.sumTable", Rows.laid_sigil_digest_sumTable), ("sigil/digest.firstState", Rows.laid_sigil_digest_firstState), ("sigil/digest.roundWords", Rows.laid_sigil_digest_roundWords)] [.data, .data, .data] true :=
  Program.laidByTextLater.sub seatTie1 ["sigil/digest.sumTable", "sigil/digest.firstState", "sigil/digest.roundWords"] (by kernel_rfl) (by kernel_rfl)
theorem digestKnown_row_tie : Rows.digestKnownRow.laidByTextAt .later Tryd.pinned [.data, .data, .data] true :=
  OpenClaim.laidByTextAt_later rfl rfl tie noOwnUnsafe
theorem tie2 : Tryd.prog.laidByTextLater [("sigil/digest.firstState", Rows.laid_sigil_digest_firstState), ("sigil/digest.roundWords", Rows.laid_sigil_digest_roundWords)] [.data, .data] true :=
  Program.laidByTextLater.sub seatTie1 ["sigil/digest.firstState", "sigil/digest.roundWords"] (by kernel_rfl) (by kernel_rfl)
theorem digestPieces_row_tie : Rows.digestPiecesRow.laidByTextAt .later Tryd.pinned [.data, .data] true :=
  OpenClaim.laidByTextAt_later rfl rfl tie2 noOwnUnsafe
theorem digestApart_row_tie : Rows.digestApartRow.laidByTextAt .later Tryd.pinned [.data, .data] true :=
  OpenClaim.laidByTextAt_later rfl rfl tie2 noOwnUnsafe
theorem tie3 : Tryd.prog.laidByTextLater [("sigil/sigilref3.keys", Rows.laid_sigil_sigilref3_keys), ("sigil/digest.firstState", Rows.laid_sigil_digest_firstState), ("sigil/digest.roundWords", Rows.laid_sigil_digest_roundWords)] [.data, .data, .data] true :=
  Program.laidByTextLater.sub seatTie1 ["sigil/sigilref3.keys", "sigil/digest.firstState", "sigil/digest.roundWords"] (by kernel_rfl) (by kernel_rfl)
theorem digestSums_row_tie : Rows.digestSumsRow.laidByTextAt .later Tryd.pinned [.data, .data, .data] true :=
  OpenClaim.laidByTextAt_later rfl rfl tie3 noOwnUnsafe
theorem digestKnownUpto_row_tie : Rows.digestKnownUptoRow.laidByTextAt .later Tryd.pinned [.data, .data, .data] true :=
  OpenClaim.laidByTextAt_later rfl rfl tie noOwnUnsafe
theorem digestPiecesUpto_row_tie : Rows.digestPiecesUptoRow.laidByTextAt .later Tryd.pinned [.data, .data] true :=
  OpenClaim.laidByTextAt_later rfl rfl tie2 noOwnUnsafe
theorem digestApartUpto_row_tie : Rows.digestApartUptoRow.laidByTextAt .later Tryd.pinned [.data, .data] true :=
  OpenClaim.laidByTextAt_later rfl rfl tie2 noOwnUnsafe
theorem digestSumsUpto_row_tie : Rows.digestSumsUptoRow.laidByTextAt .later Tryd.pinned [.data, .data, .data] true :=
  OpenClaim.laidByTextAt_later rfl rfl tie3 noOwnUnsafe
end Go.Proofs.YtoojchjfmnbdpaaDoor
