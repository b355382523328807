/-
  DERIVED. GIVEN WITH THE SEED: THE PROGRAM's TIES (one call each: nine closed facts by the kernel) AND EACH ROW's TIE, after the 31st guide's Derived/Test/Toyas{Tie, Card}.lean. No idea stands in it: it is a product of the set-up. Laid BY PROGRAM, IN A SANDBOX (cutbox-door.mjs). By AI agents, Wed Nov 11 2026. No macro, syntax, notation, axiom, sorry.
-/
import Derived.Test.YtnfeihbkemgecaaDoorRows
import Derived.LaidByTextLater
import Derived.SevenTiedAt
import Derived.LaidSub
import Derived.LaidOnce
namespace Go.Proofs.YtnfeihbkemgecaaDoor
open Go
set_option maxRecDepth 100000
theorem seatTie1 : Tryd.prog.laidByTextLater [("computus/gregorian.lengths", Rows.laid_computus_gregorian_lengths), ("computus/gregorian.groups", Rows.laid_computus_gregorian_groups), ("computus/julian.lengths", Rows.laid_computus_julian_lengths), ("computus/label.lengths", Rows.laid_computus_label_lengths), ("computus/label.beginnings", Rows.laid_computus_label_beginnings)] [.data, .data, .data, .data, .data] true :=
  Program.laidByTextLater_by_one 51 8 27 (by kernel_rfl) (by kernel_rfl) (by kernel_rfl) (by kernel_rfl) (by kernel_rfl) (by kernel_rfl) (fun _ _ => by kernel_rfl)
theorem noOwnUnsafe : Tryd.pinned.checked.prog.headLifts.contains "ownunsafe" = false := by kernel_rfl
theorem tie : Tryd.prog.laidByTextLater [("computus/gregorian.lengths", Rows.laid_computus_gregorian_lengths), ("computus/gregorian.groups", Rows.laid_computus_gregorian_groups), ("computus/julian.lengths", Rows.laid_computus_julian_lengths), ("computus/label.lengths", Rows.laid_computus_label_lengths), ("computus/label.beginnings", Rows.laid_computus_label_beginnings)] [.data, .data, .data, .data, .data] true :=
  Program.laidByTextLater.sub seatTie1 ["computus/gregorian.lengths", "computus/gregorian.groups", "computus/julian.lengths", "computus/label.lengths", "computus/label.beginnings"] (by kernel_rfl) (by kernel_rfl)
theorem orthodoxIsSameDay_row_tie : Rows.orthodoxIsSameDayRow.laidByTextAt .later Tryd.pinned [.data, .data, .data, .data, .data] true :=
  OpenClaim.laidByTextAt_later rfl rfl tie noOwnUnsafe
theorem orthodoxGap_row_tie : Rows.orthodoxGapRow.laidByTextAt .later Tryd.pinned [.data, .data, .data, .data, .data] true :=
  OpenClaim.laidByTextAt_later rfl rfl tie noOwnUnsafe
theorem orthodoxDelay_row_tie : Rows.orthodoxDelayRow.laidByTextAt .later Tryd.pinned [.data, .data, .data, .data, .data] true :=
  OpenClaim.laidByTextAt_later rfl rfl tie noOwnUnsafe
theorem orthodoxCentury_row_tie : Rows.orthodoxCenturyRow.laidByTextAt .later Tryd.pinned [.data, .data, .data, .data, .data] true :=
  OpenClaim.laidByTextAt_later rfl rfl tie noOwnUnsafe
theorem orthodoxIsSameDayUpto_row_tie : Rows.orthodoxIsSameDayUptoRow.laidByTextAt .later Tryd.pinned [.data, .data, .data, .data, .data] true :=
  OpenClaim.laidByTextAt_later rfl rfl tie noOwnUnsafe
theorem orthodoxGapUpto_row_tie : Rows.orthodoxGapUptoRow.laidByTextAt .later Tryd.pinned [.data, .data, .data, .data, .data] true :=
  OpenClaim.laidByTextAt_later rfl rfl tie noOwnUnsafe
theorem orthodoxDelayUpto_row_tie : Rows.orthodoxDelayUptoRow.laidByTextAt .later Tryd.pinned [.data, .data, .data, .data, .data] true :=
  OpenClaim.laidByTextAt_later rfl rfl tie noOwnUnsafe
theorem orthodoxCenturyUpto_row_tie : Rows.orthodoxCenturyUptoRow.laidByTextAt .later Tryd.pinned [.data, .data, .data, .data, .data] true :=
  OpenClaim.laidByTextAt_later rfl rfl tie noOwnUnsafe
end Go.Proofs.YtnfeihbkemgecaaDoor
