/- What the rows' condition gives at this seat: the tables of both calendars, the tables of package label; and a start that meets it. -/
import Derived.Test.YtnfeihbkemgecaaDoorRows
import Derived.Test.YtnfeihbkemgecaaDoorKy
import Derived.Test.YtnfeihbkemgecaaDoorKc
import Derived.LaidMore
import Derived.Stop.Joined
namespace Go.Proofs.YtnfeihbkemgecaaDoor
theorem own : ownKnob Tryd.prog.godebug = none := by kernel_rfl
abbrev laidL : List (String × DataW Unit) := [("computus/gregorian.lengths", Rows.laid_computus_gregorian_lengths), ("computus/gregorian.groups", Rows.laid_computus_gregorian_groups), ("computus/julian.lengths", Rows.laid_computus_julian_lengths), ("computus/label.lengths", Rows.laid_computus_label_lengths), ("computus/label.beginnings", Rows.laid_computus_label_beginnings)]
theorem door_met (os : Os) (args : Array Value) : laidMetH Tryd.prog laidL ((World.doorLaid Tryd.prog 400 os).forCall (fun _ _ => 0) ⟨#[], args, []⟩).memory :=
  laidMetH_of_parts3 (fuel := 8) (laidMet_of_run' 8 (by kernel_rfl) (by kernel_rfl)) (by kernel_rfl) (by kernel_rfl)
theorem laid_facts {W : World} (h : laidMetH Tryd.prog laidL W) : CTab W ∧ LTab W := by
  rw [MakeChecks.laidMetH_plain _ _ _ (by kernel_rfl)] at h
  exact ⟨⟨jtab_of h (.tail _ (.tail _ (.head _))), gtab_of h (.head _) (.tail _ (.head _))⟩, ltab_of h (.tail _ (.tail _ (.tail _ (.head _)))) (.tail _ (.tail _ (.tail _ (.tail _ (.head _)))))⟩
end Go.Proofs.YtnfeihbkemgecaaDoor
