/- The contracts of package weekday's Of and of its reference's. -/
import Derived.Test.YtclnpnkjldddcaaDoorRa
import Derived.Test.YtclnpnkjldddcaaDoorMo
namespace Go.Proofs.YtclnpnkjldddcaaDoor
open Go.RowKit

theorem of_any (n : Int) (w : World) (hn : inR n = true) :
    Calls Tryd.prog 60 #[.int .i64 n] w fun e w' => e = .returned (.int .i64 (n % 7)) ∧ Below w.heap.size w w' := by
  have H := fun w => mod_pos n 7 w hn (by decide) (by omega)
  clear hn
  generalize n % 7 = r at *
  go_enter Tryd.func60, Tryd.ntmps60
  go_wp2_with fail
  refine (H _).mono ?_
  rintro e w1 ⟨rfl, hb1⟩
  go_wp2_with fail
  go_ret
  exact ⟨rfl, hb1⟩
theorem rof_any (n : Int) (w : World) (hn : inR n = true) :
    Calls Tryd.prog 25 #[.int .i64 n] w fun e w' => e = .returned (.int .i64 (n % 7)) ∧ w = w' := by
  have H := fun w => rmod_any n 7 w hn (by decide) (spl_pos n 7 (by omega))
  rw [Int.fmod_eq_emod_of_nonneg _ (by omega)] at H
  clear hn
  generalize n % 7 = r at *
  go_enter Tryd.func25, Tryd.ntmps25
  go_wp2_with (go_at_call 41; refine (H _).mono ?_; rintro e w' ⟨rfl, rfl⟩)
  go_ret
  exact ⟨rfl, rfl⟩
end Go.Proofs.YtclnpnkjldddcaaDoor
