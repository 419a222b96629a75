/-
  DERIVED. GIVEN WITH THE SEED: THE PROGRAM's TIES (one call each: nine closed facts by the kernel) AND EACH ROW's TIE, after the 31st guide's Derived/Test/Toyas{Tie, Card}.lean. No idea stands in it: it is a product of the set-up. Laid BY PROGRAM, IN A SANDBOX (cutbox-door.mjs). By AI agents, Wed Nov 11 2026. No macro, syntax, notation, axiom, sorry.
-/
import Derived.Test.YtlblllghgdfpoaaDoorRows
import Derived.LaidByTextLater
import Derived.SevenTiedAt
import Derived.LaidSub
import Derived.LaidOnce
namespace Go.Proofs.YtlblllghgdfpoaaDoor
open Go
set_option maxRecDepth 100000
theorem seatTie1 : Tryd.prog.laidByTextLater [("sigil/sigilref3.keys", Rows.laid_sigil_sigilref3_keys), ("sigil/digest.firstState", Rows.laid_sigil_digest_firstState), ("sigil/digest.roundWords", Rows.laid_sigil_digest_roundWords)] [.data, .data, .data] true :=
  Program.laidByTextLater_by_one 24 8 65 (by kernel_rfl) (by kernel_rfl) (by kernel_rfl) (by kernel_rfl) (by kernel_rfl) (by kernel_rfl) (fun _ _ => by kernel_rfl)
theorem noOwnUnsafe : Tryd.pinned.checked.prog.headLifts.contains "ownunsafe" = false := by kernel_rfl
theorem tie : Tryd.prog.laidByTextLater [("sigil/sigilref3.keys", Rows.laid_sigil_sigilref3_keys), ("sigil/digest.firstState", Rows.laid_sigil_digest_firstState), ("sigil/digest.roundWords", Rows.laid_sigil_digest_roundWords)] [.data, .data, .data] true :=
  Program.laidByTextLater.sub seatTie1 ["sigil/sigilref3.keys", "sigil/digest.firstState", "sigil/digest.roundWords"] (by kernel_rfl) (by kernel_rfl)
theorem digestBook_row_tie : Rows.digestBookRow.laidByTextAt .later Tryd.pinned [.data, .data, .data] true :=
  OpenClaim.laidByTextAt_later rfl rfl tie noOwnUnsafe
theorem digestBookUpto_row_tie : Rows.digestBookUptoRow.laidByTextAt .later Tryd.pinned [.data, .data, .data] true :=
  OpenClaim.laidByTextAt_later rfl rfl tie noOwnUnsafe
end Go.Proofs.YtlblllghgdfpoaaDoor
