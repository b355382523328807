/- What earlier stages proved: Wo. -/
import Derived.Test.YtnaglaecoephnaaKa
namespace Go.Proofs.Ytnaglaecoephnaa
open Go.RowKit

theorem rof_any (n : Int) (w : World) (hn : inR n = true) :
    Calls Try.prog 42 #[.int .i64 n] w fun e w' => e = .returned (.int .i64 (n % 7)) ∧ w = w' := by
  have H := fun w => rmod_any n 7 w hn (by decide) (spl_pos n 7 (by omega))
  rw [Int.fmod_eq_emod_of_nonneg _ (by omega)] at H
  clear hn
  generalize n % 7 = r at *
  go_enter Try.func42, Try.ntmps42
  go_wp2_with (go_at_call 48; refine (H _).mono ?_; rintro e w' ⟨rfl, rfl⟩)
  go_ret
  exact ⟨rfl, rfl⟩
end Go.Proofs.Ytnaglaecoephnaa
