/- What earlier stages proved: Da Dd. -/
import Derived.Test.YtnofmlkjagdklaaKc
import Derived.Test.YtnofmlkjagdklaaKa
import Derived.Test.YtnofmlkjagdklaaKr
import Derived.Test.YtnofmlkjagdklaaKw
namespace Go.Proofs.Ytnofmlkjagdklaa

def inG (y : Int) : Bool := decide (1583 ≤ y) && decide (y ≤ 1000000000)
theorem inG_iff {y : Int} : inG y = true ↔ 1583 ≤ y ∧ y ≤ 1000000000 := by simp [inG]
def gold (y : Int) : Int := y % 19 + 1
def cent (y : Int) : Int := y / 100 + 1
def solr (y : Int) : Int := 3 * cent y / 4 - 12
def lunr (y : Int) : Int := (8 * cent y + 5) / 25 - 5
/-- 0 in range, 1 outside. -/
def eB (b : Bool) : Int := if b = true then 0 else 1
theorem cent_bd {y : Int} (h1 : 1 ≤ y) (h2 : y ≤ 1000000000) : 1 ≤ cent y ∧ cent y ≤ 10000001 := by unfold cent; omega
theorem gold_bd (y : Int) : 1 ≤ gold y ∧ gold y ≤ 19 := by unfold gold; omega
theorem solr_bd {y : Int} (h1 : 1583 ≤ y) (h2 : y ≤ 1000000000) : 0 ≤ solr y ∧ solr y ≤ 10000000 := by unfold solr cent; omega
theorem lunr_bd {y : Int} (h1 : 1583 ≤ y) (h2 : y ≤ 1000000000) : 0 ≤ lunr y ∧ lunr y ≤ 10000000 := by unfold lunr cent; omega

end Go.Proofs.Ytnofmlkjagdklaa

namespace Go.Proofs.Ytnofmlkjagdklaa
open Go.RowKit

theorem rgre_any (y : Int) (w : World) : Calls Try.prog 25 #[.int .i64 y] w fun e w' => e = .returned (.bool (inG y)) ∧ w = w' := by
  cases h0 : decide (1583 ≤ y)
  all_goals
    go_enter Try.func25, Try.ntmps25
    go_wp2
    go_ret
    exact ⟨ret_bool (by simp [inG, h0]), rfl⟩
theorem td_nn {a b : Int} (h : 0 ≤ a) : a.tdiv b = a / b := Int.tdiv_eq_ediv_of_nonneg h
theorem rgold_any (y : Int) (w : World) (h1 : 1 ≤ y) (h2 : y ≤ 1000000000) : Calls Try.prog 80 #[.int .i64 y] w fun e w' => e = .returned (.int .i64 (gold y)) ∧ w = w' := by
  have hv := Lib.hid (show y - 19 * (y / 19) + 1 = gold y by unfold gold; omega)
  have q1 : 0 ≤ y / 19 := by omega
  have q2 : 19 * (y / 19) ≤ y := by omega
  generalize gold y = R at *
  go_enter Try.func80, Try.ntmps80
  go_wp2
  go_ret
  exact ⟨ret_int hv.out, rfl⟩
theorem rcent_any (y : Int) (w : World) (h1 : 1 ≤ y) (h2 : y ≤ 1000000000) : Calls Try.prog 84 #[.int .i64 y] w fun e w' => e = .returned (.int .i64 (cent y)) ∧ w = w' := by
  have hv := Lib.hid (show y / 100 + 1 = cent y from rfl)
  have q1 : 0 ≤ y / 100 := by omega
  have q2 : y / 100 ≤ 10000000 := by omega
  generalize cent y = R at *
  go_enter Try.func84, Try.ntmps84
  go_wp2
  go_ret
  exact ⟨ret_int hv.out, rfl⟩
theorem rsolr_any (y : Int) (w : World) (h1 : 1 ≤ y) (h2 : y ≤ 1000000000) : Calls Try.prog 83 #[.int .i64 y] w fun e w' => e = .returned (.int .i64 (solr y)) ∧ w = w' := by
  have HC := fun w => rcent_any y w h1 h2
  obtain ⟨c1, c2⟩ := cent_bd h1 h2
  have e := td_nn (b := 4) (show 0 ≤ 3 * cent y by omega)
  have hv := Lib.hid (show 3 * cent y / 4 - 12 = solr y from rfl)
  have q1 : 0 ≤ 3 * cent y / 4 := by omega
  have q2 : 3 * cent y / 4 ≤ 10000000 := by omega
  generalize solr y = R at *
  rw [← e] at hv q1 q2
  clear e
  generalize hq : (3 * cent y).tdiv 4 = q at *
  generalize cent y = c at *
  go_enter Try.func83, Try.ntmps83
  go_wp2_with (go_at_call 84; refine (HC _).mono ?_; rintro e w' ⟨rfl, rfl⟩)
  go_ret
  exact ⟨ret_int hv.out, rfl⟩
theorem rlunr_any (y : Int) (w : World) (h1 : 1 ≤ y) (h2 : y ≤ 1000000000) : Calls Try.prog 82 #[.int .i64 y] w fun e w' => e = .returned (.int .i64 (lunr y)) ∧ w = w' := by
  have HC := fun w => rcent_any y w h1 h2
  obtain ⟨c1, c2⟩ := cent_bd h1 h2
  have e := td_nn (b := 25) (show 0 ≤ 8 * cent y + 5 by omega)
  have hv := Lib.hid (show (8 * cent y + 5) / 25 - 5 = lunr y from rfl)
  have q1 : 0 ≤ (8 * cent y + 5) / 25 := by omega
  have q2 : (8 * cent y + 5) / 25 ≤ 10000000 := by omega
  generalize lunr y = R at *
  rw [← e] at hv q1 q2
  clear e
  generalize hq : (8 * cent y + 5).tdiv 25 = q at *
  generalize cent y = c at *
  go_enter Try.func82, Try.ntmps82
  go_wp2_with (go_at_call 84; refine (HC _).mono ?_; rintro e w' ⟨rfl, rfl⟩)
  go_ret
  exact ⟨ret_int hv.out, rfl⟩
section
variable (c y f : Int) (w : World)
end
end Go.Proofs.Ytnofmlkjagdklaa
