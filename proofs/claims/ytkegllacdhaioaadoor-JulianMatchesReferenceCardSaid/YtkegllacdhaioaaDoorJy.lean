/- What the rows' condition gives: the table of lengths of the Julian months reads as the program's text lays it; and a start that meets it. -/
import Derived.Test.YtkegllacdhaioaaDoorRows
import Derived.Test.YtkegllacdhaioaaDoorJa
import Derived.LaidMore
import Derived.Stop.Joined
import Derived.Lib.LaidTab
namespace Go.Proofs.YtkegllacdhaioaaDoor
theorem own : ownKnob Tryd.prog.godebug = none := by kernel_rfl
theorem gLen : Tryd.prog.globalNamed "computus/julian.lengths" = some 0 := by kernel_rfl
theorem tLen : (Tryd.prog.globals[0]?).map (·.type) = some 46 := by kernel_rfl
theorem cells46 : Tryd.prog.cellsOf 46 = 12 := by kernel_rfl
theorem cells3 : Tryd.prog.cellsOf 3 = 1 := by kernel_rfl
abbrev laidL : List (String × DataW Unit) := [("computus/julian.lengths", Rows.laid_computus_julian_lengths)]
theorem door_met (os : Os) (args : Array Value) : laidMetH Tryd.prog laidL ((World.doorLaid Tryd.prog 400 os).forCall (fun _ _ => 0) ⟨#[], args, []⟩).memory :=
  laidMetH_of_parts3 (fuel := 8) (laidMet_of_run' 8 (by kernel_rfl) (by kernel_rfl)) (by kernel_rfl) (by kernel_rfl)
theorem laid_facts {W : World} (h : laidMetH Tryd.prog laidL W) : Tab W := by
  rw [MakeChecks.laidMetH_plain _ _ _ (by kernel_rfl)] at h
  have hT : Lib.TabIs Tryd.prog W "computus/julian.lengths" .i64 lens := Lib.tabIs_of_head gLen tLen Tryd.underlying46 Tryd.underlying3 cells3 cells46 h
  exact fun i hi => hT.cell gLen i hi
end Go.Proofs.YtkegllacdhaioaaDoor
