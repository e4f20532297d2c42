/-
  DERIVED. GIVEN WITH THE SEED: THE PROGRAM's TIES (one call each: nine closed facts by the kernel) AND EACH ROW's TIE, after the 31st guide's Derived/Test/Toyas{Tie, Card}.lean. No idea stands in it: it is a product of the set-up. Laid BY PROGRAM, IN A SANDBOX (cutbox-door.mjs). By AI agents, Wed Nov 11 2026. No macro, syntax, notation, axiom, sorry.
-/
import Derived.Test.YtcmldhjicjmmgaaGreatDoorRows
import Derived.LaidByTextLater
import Derived.SevenTiedAt
import Derived.LaidSub
import Derived.LaidOnce
namespace Go.Proofs.YtcmldhjicjmmgaaGreatDoor
open Go
set_option maxRecDepth 100000
theorem seatTie1 : Tryz.prog.laidByTextLater [("errors.errorType", Rows.laid_errors_errorType), ("unicode.White_Space", Rows.laid_unicode_White_Space), ("strings.asciiSpace", Rows.laid_strings_asciiSpace), ("detent/inner.errHalt", Rows.laid_detent_inner_errHalt)] [.handle, .listed, .data, .sentinel] true :=
  Program.laidByTextLater_by_one 59 8 257 (by kernel_rfl) (by kernel_rfl) (by kernel_rfl) (by kernel_rfl) (by kernel_rfl) (by kernel_rfl) (fun _ _ => by kernel_rfl)
theorem noOwnUnsafe : Tryz.pinned.checked.prog.headLifts.contains "ownunsafe" = false := by kernel_rfl
theorem tie : Tryz.prog.laidByTextLater [("errors.errorType", Rows.laid_errors_errorType), ("unicode.White_Space", Rows.laid_unicode_White_Space), ("strings.asciiSpace", Rows.laid_strings_asciiSpace), ("detent/inner.errHalt", Rows.laid_detent_inner_errHalt)] [.handle, .listed, .data, .sentinel] true :=
  Program.laidByTextLater.sub seatTie1 ["errors.errorType", "unicode.White_Space", "strings.asciiSpace", "detent/inner.errHalt"] (by kernel_rfl) (by kernel_rfl)
theorem innerCatches_row_tie : Rows.innerCatchesRow.laidByTextAt .later Tryz.pinned [.handle, .listed, .data, .sentinel] true :=
  OpenClaim.laidByTextAt_later rfl rfl tie noOwnUnsafe
theorem innerLoops_row_tie : Rows.innerLoopsRow.laidByTextAt .later Tryz.pinned [.handle, .listed, .data, .sentinel] true :=
  OpenClaim.laidByTextAt_later rfl rfl tie noOwnUnsafe
theorem innerDoes_row_tie : Rows.innerDoesRow.laidByTextAt .later Tryz.pinned [.handle, .listed, .data, .sentinel] true :=
  OpenClaim.laidByTextAt_later rfl rfl tie noOwnUnsafe
theorem innerStates_row_tie : Rows.innerStatesRow.laidByTextAt .later Tryz.pinned [.handle, .listed, .data, .sentinel] true :=
  OpenClaim.laidByTextAt_later rfl rfl tie noOwnUnsafe
theorem innerCatchesUpto_row_tie : Rows.innerCatchesUptoRow.laidByTextAt .later Tryz.pinned [.handle, .listed, .data, .sentinel] true :=
  OpenClaim.laidByTextAt_later rfl rfl tie noOwnUnsafe
theorem innerLoopsUpto_row_tie : Rows.innerLoopsUptoRow.laidByTextAt .later Tryz.pinned [.handle, .listed, .data, .sentinel] true :=
  OpenClaim.laidByTextAt_later rfl rfl tie noOwnUnsafe
theorem innerDoesUpto_row_tie : Rows.innerDoesUptoRow.laidByTextAt .later Tryz.pinned [.handle, .listed, .data, .sentinel] true :=
  OpenClaim.laidByTextAt_later rfl rfl tie noOwnUnsafe
theorem innerStatesUpto_row_tie : Rows.innerStatesUptoRow.laidByTextAt .later Tryz.pinned [.handle, .listed, .data, .sentinel] true :=
  OpenClaim.laidByTextAt_later rfl rfl tie noOwnUnsafe
end Go.Proofs.YtcmldhjicjmmgaaGreatDoor
