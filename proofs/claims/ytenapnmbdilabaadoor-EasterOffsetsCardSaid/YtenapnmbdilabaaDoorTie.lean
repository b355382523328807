/-
  DERIVED. GIVEN WITH THE SEED: THE PROGRAM's TIES (one call each: nine closed facts by the kernel) AND EACH ROW's TIE, after the 31st guide's Derived/Test/Toyas{Tie, Card}.lean. No idea stands in it: it is a product of the set-up. Laid BY PROGRAM, IN A SANDBOX (cutbox-door.mjs). By AI agents, Wed Nov 11 2026. No macro, syntax, notation, axiom, sorry.
-/
import Derived.Test.YtenapnmbdilabaaDoorRows
import Derived.LaidByTextLater
import Derived.SevenTiedAt
import Derived.LaidSub
import Derived.LaidOnce
namespace Go.Proofs.YtenapnmbdilabaaDoor
open Go
set_option maxRecDepth 100000
theorem seatTie1 : Tryd.prog.laidByTextLater [("computus/gregorian.lengths", Rows.laid_computus_gregorian_lengths), ("computus/gregorian.groups", Rows.laid_computus_gregorian_groups), ("computus/julian.lengths", Rows.laid_computus_julian_lengths), ("computus/label.lengths", Rows.laid_computus_label_lengths), ("computus/label.beginnings", Rows.laid_computus_label_beginnings)] [.data, .data, .data, .data, .data] true :=
  Program.laidByTextLater_by_one 51 8 27 (by kernel_rfl) (by kernel_rfl) (by kernel_rfl) (by kernel_rfl) (by kernel_rfl) (by kernel_rfl) (fun _ _ => by kernel_rfl)
theorem noOwnUnsafe : Tryd.pinned.checked.prog.headLifts.contains "ownunsafe" = false := by kernel_rfl
theorem tie : Tryd.prog.laidByTextLater [("computus/gregorian.lengths", Rows.laid_computus_gregorian_lengths), ("computus/gregorian.groups", Rows.laid_computus_gregorian_groups), ("computus/julian.lengths", Rows.laid_computus_julian_lengths), ("computus/label.lengths", Rows.laid_computus_label_lengths), ("computus/label.beginnings", Rows.laid_computus_label_beginnings)] [.data, .data, .data, .data, .data] true :=
  Program.laidByTextLater.sub seatTie1 ["computus/gregorian.lengths", "computus/gregorian.groups", "computus/julian.lengths", "computus/label.lengths", "computus/label.beginnings"] (by kernel_rfl) (by kernel_rfl)
theorem easterOffsets_row_tie : Rows.easterOffsetsRow.laidByTextAt .later Tryd.pinned [.data, .data, .data, .data, .data] true :=
  OpenClaim.laidByTextAt_later rfl rfl tie noOwnUnsafe
theorem easterNextYear_row_tie : Rows.easterNextYearRow.laidByTextAt .later Tryd.pinned [.data, .data, .data, .data, .data] true :=
  OpenClaim.laidByTextAt_later rfl rfl tie noOwnUnsafe
theorem easterOffsetsUpto_row_tie : Rows.easterOffsetsUptoRow.laidByTextAt .later Tryd.pinned [.data, .data, .data, .data, .data] true :=
  OpenClaim.laidByTextAt_later rfl rfl tie noOwnUnsafe
theorem easterNextYearUpto_row_tie : Rows.easterNextYearUptoRow.laidByTextAt .later Tryd.pinned [.data, .data, .data, .data, .data] true :=
  OpenClaim.laidByTextAt_later rfl rfl tie noOwnUnsafe
end Go.Proofs.YtenapnmbdilabaaDoor
