/- The contracts of roundedUp and quotientFits: called with any two numbers (the divisor not 0 for the first), each returns what the plain functions rup and fits say, and leaves memory as it was. -/
import Derived.Test.YtphiidmcfagemaaRows
import Derived.WalkKit
import Derived.WalkLawsBesides
import Derived.Test.YtphiidmcfagemaaN
namespace Go.Proofs.Ytphiidmcfagemaa
open Go.RowKit

theorem ret_bool {a b : Bool} (h : a = b) : Ending.returned (.bool a) = .returned (.bool b) := by rw [h]
theorem ret_ib {a b : Int} {c d : Bool} (h : a = b) (g : c = d) : Ending.returned (.tuple #[.int .i64 a, .bool c]) = .returned (.tuple #[.int .i64 b, .bool d]) := by rw [h, g]

theorem rup_any (a b : Int) (w : World) (hb : ¬ b = 0) :
    Calls Try.prog 23 #[.int .i64 a, .int .i64 b] w fun e w' => e = .returned (.bool (rup a b)) ∧ w = w' := by
  cases h1 : (a.tmod b != 0)
  all_goals
    go_enter Try.func23, Try.ntmps23
    go_wp2
    go_ret
    exact ⟨ret_bool (by simp only [rup, h1]; simp [bne]), rfl⟩

theorem fits_any (a b : Int) (w : World) :
    Calls Try.prog 26 #[.int .i64 a, .int .i64 b] w fun e w' => e = .returned (.bool (fits a b)) ∧ w = w' := by
  cases h1 : (a != -9223372036854775808)
  all_goals
    go_enter Try.func26, Try.ntmps26
    go_wp2
    go_ret
    exact ⟨ret_bool (by simp only [fits, h1]; simp [bne]), rfl⟩
end Go.Proofs.Ytphiidmcfagemaa
