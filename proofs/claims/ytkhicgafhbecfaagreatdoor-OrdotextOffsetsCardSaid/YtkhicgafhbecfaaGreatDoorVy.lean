/- What the rows' condition gives at this seat: the tables that package cattext reads; and a start that meets it. -/
import Derived.Test.YtkhicgafhbecfaaGreatDoorRows
import Derived.Test.YtkhicgafhbecfaaGreatDoorYy
import Derived.LaidMore
import Derived.Stop.Joined
namespace Go.Proofs.YtkhicgafhbecfaaGreatDoor
theorem own : ownKnob Tryz.prog.godebug = none := by kernel_rfl
abbrev laidL : List (String × DataW Unit) := [("math/bits.deBruijn32tab", Rows.laid_math_bits_deBruijn32tab), ("math/bits.deBruijn64tab", Rows.laid_math_bits_deBruijn64tab), ("internal/strconv.uint64pow10", Rows.laid_internal_strconv_uint64pow10), ("computus/weekday.names", Rows.laid_computus_weekday_names), ("strconv.ErrRange", Rows.laid_strconv_ErrRange), ("strconv.ErrSyntax", Rows.laid_strconv_ErrSyntax)]
theorem door_met (os : Os) (args : Array Value) : laidMetH Tryz.prog laidL ((World.doorLaid Tryz.prog 400 os).forCall (fun _ _ => 0) ⟨#[], args, []⟩).memory :=
  laidMetH_of_parts3 (fuel := 8) (laidMet_of_run' 8 (by kernel_rfl) (by kernel_rfl)) (by kernel_rfl) (by kernel_rfl)
theorem laid_facts {W : World} (h : laidMetH Tryz.prog laidL W) : T26 W := by
  rw [MakeChecks.laidMetH_plain _ _ _ (by kernel_rfl)] at h
  exact t26_of h (.tail _ (.tail _ (.tail _ (.head _)))) (.tail _ (.tail _ (.head _)))
end Go.Proofs.YtkhicgafhbecfaaGreatDoor
