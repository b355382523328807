/-
  DERIVED. GIVEN WITH THE SEED: THE PROGRAM's TIES (one call each: nine closed facts by the kernel) AND EACH ROW's TIE, after the 31st guide's Derived/Test/Toyas{Tie, Card}.lean. No idea stands in it: it is a product of the set-up. Laid BY PROGRAM, IN A SANDBOX (cutbox-door.mjs). By AI agents, Wed Nov 11 2026. No macro, syntax, notation, axiom, sorry.
-/
import Derived.Test.YtclnpnkjldddcaaDoorRows
import Derived.LaidByTextLater
import Derived.SevenTiedAt
import Derived.LaidSub
import Derived.LaidOnce
namespace Go.Proofs.YtclnpnkjldddcaaDoor
open Go
set_option maxRecDepth 100000
theorem seatTie1 : Tryd.prog.laidByTextLater [("computus/gregorian.lengths", Rows.laid_computus_gregorian_lengths), ("computus/gregorian.groups", Rows.laid_computus_gregorian_groups), ("computus/julian.lengths", Rows.laid_computus_julian_lengths)] [.data, .data, .data] true :=
  Program.laidByTextLater_by_one 28 8 13 (by kernel_rfl) (by kernel_rfl) (by kernel_rfl) (by kernel_rfl) (by kernel_rfl) (by kernel_rfl) (fun _ _ => by kernel_rfl)
theorem noOwnUnsafe : Tryd.pinned.checked.prog.headLifts.contains "ownunsafe" = false := by kernel_rfl
theorem tie : Tryd.prog.laidByTextLater [("computus/gregorian.lengths", Rows.laid_computus_gregorian_lengths), ("computus/gregorian.groups", Rows.laid_computus_gregorian_groups), ("computus/julian.lengths", Rows.laid_computus_julian_lengths)] [.data, .data, .data] true :=
  Program.laidByTextLater.sub seatTie1 ["computus/gregorian.lengths", "computus/gregorian.groups", "computus/julian.lengths"] (by kernel_rfl) (by kernel_rfl)
theorem goldenMatchesReference_row_tie : Rows.goldenMatchesReferenceRow.laidByTextAt .later Tryd.pinned [.data, .data, .data] true :=
  OpenClaim.laidByTextAt_later rfl rfl tie noOwnUnsafe
theorem goldenCycle_row_tie : Rows.goldenCycleRow.laidByTextAt .later Tryd.pinned [.data, .data, .data] true :=
  OpenClaim.laidByTextAt_later rfl rfl tie noOwnUnsafe
theorem goldenCorrections_row_tie : Rows.goldenCorrectionsRow.laidByTextAt .later Tryd.pinned [.data, .data, .data] true :=
  OpenClaim.laidByTextAt_later rfl rfl tie noOwnUnsafe
theorem goldenLetters_row_tie : Rows.goldenLettersRow.laidByTextAt .later Tryd.pinned [.data, .data, .data] true :=
  OpenClaim.laidByTextAt_later rfl rfl tie noOwnUnsafe
theorem goldenRepeats_row_tie : Rows.goldenRepeatsRow.laidByTextAt .later Tryd.pinned [.data, .data, .data] true :=
  OpenClaim.laidByTextAt_later rfl rfl tie noOwnUnsafe
theorem goldenMatchesReferenceUpto_row_tie : Rows.goldenMatchesReferenceUptoRow.laidByTextAt .later Tryd.pinned [.data, .data, .data] true :=
  OpenClaim.laidByTextAt_later rfl rfl tie noOwnUnsafe
theorem goldenCycleUpto_row_tie : Rows.goldenCycleUptoRow.laidByTextAt .later Tryd.pinned [.data, .data, .data] true :=
  OpenClaim.laidByTextAt_later rfl rfl tie noOwnUnsafe
theorem goldenCorrectionsUpto_row_tie : Rows.goldenCorrectionsUptoRow.laidByTextAt .later Tryd.pinned [.data, .data, .data] true :=
  OpenClaim.laidByTextAt_later rfl rfl tie noOwnUnsafe
theorem goldenLettersUpto_row_tie : Rows.goldenLettersUptoRow.laidByTextAt .later Tryd.pinned [.data, .data, .data] true :=
  OpenClaim.laidByTextAt_later rfl rfl tie noOwnUnsafe
theorem goldenRepeatsUpto_row_tie : Rows.goldenRepeatsUptoRow.laidByTextAt .later Tryd.pinned [.data, .data, .data] true :=
  OpenClaim.laidByTextAt_later rfl rfl tie noOwnUnsafe
end Go.Proofs.YtclnpnkjldddcaaDoor
