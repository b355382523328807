/- The contract of intmath's Clamp. -/
import Derived.Test.YtclnpnkjldddcaaDoorMe
namespace Go.Proofs.YtclnpnkjldddcaaDoor
open Go.RowKit

theorem clamp_any (n l h : Int) (w : World) :
    Calls Tryd.prog 76 #[.int .i64 n, .int .i64 l, .int .i64 h] w fun e w' => e = .returned (.int .i64 (clampI n l h)) ∧ w = w' := by
  by_cases h1 : n < l
  · go_enter Tryd.func76, Tryd.ntmps76
    go_wp2
    go_ret
    exact ⟨ret_int (clamp_lo h1), rfl⟩
  · have h1 : l ≤ n := by omega
    by_cases h2 : h < n
    · go_enter Tryd.func76, Tryd.ntmps76
      go_wp2
      go_ret
      exact ⟨ret_int (clamp_hi h1 h2), rfl⟩
    · have h2 : n ≤ h := by omega
      go_enter Tryd.func76, Tryd.ntmps76
      go_wp2
      go_ret
      exact ⟨ret_int (clamp_in h1 h2), rfl⟩


end Go.Proofs.YtclnpnkjldddcaaDoor
