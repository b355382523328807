/- What earlier stages proved: Da Db Dc Dd. -/
import Derived.Test.YtkhicgafhbecfaaGreatDoorKc
import Derived.Test.YtkhicgafhbecfaaGreatDoorKa
import Derived.Test.YtkhicgafhbecfaaGreatDoorKr
import Derived.Test.YtkhicgafhbecfaaGreatDoorKw
namespace Go.Proofs.YtkhicgafhbecfaaGreatDoor

def inG (y : Int) : Bool := decide (1583 ≤ y) && decide (y ≤ 1000000000)
theorem inG_iff {y : Int} : inG y = true ↔ 1583 ≤ y ∧ y ≤ 1000000000 := by simp [inG]
def gold (y : Int) : Int := y % 19 + 1
def cent (y : Int) : Int := y / 100 + 1
def solr (y : Int) : Int := 3 * cent y / 4 - 12
def lunr (y : Int) : Int := (8 * cent y + 5) / 25 - 5
/-- 0 in range, 1 outside. -/
def eB (b : Bool) : Int := if b = true then 0 else 1
def vB (b : Bool) (n : Int) : Int := if b = true then n else 0
theorem cent_bd {y : Int} (h1 : 1 ≤ y) (h2 : y ≤ 1000000000) : 1 ≤ cent y ∧ cent y ≤ 10000001 := by unfold cent; omega
theorem gold_bd (y : Int) : 1 ≤ gold y ∧ gold y ≤ 19 := by unfold gold; omega
theorem solr_bd {y : Int} (h1 : 1583 ≤ y) (h2 : y ≤ 1000000000) : 0 ≤ solr y ∧ solr y ≤ 10000000 := by unfold solr cent; omega
theorem lunr_bd {y : Int} (h1 : 1583 ≤ y) (h2 : y ≤ 1000000000) : 0 ≤ lunr y ∧ lunr y ≤ 10000000 := by unfold lunr cent; omega

/-- The first Sunday of a year whose first day has number f. -/
def letA (f : Int) : Int := (0 - f % 7) % 7 + 1
def letB (l : Bool) (a : Int) : Int := if l = true then 1 + (a - 2) % 7 else a
def lA (c y : Int) : Int := if yE c y = 0 then letA ((calOf c).fst y) else 0
def lB (c y : Int) : Int := if yE c y = 0 then letB ((calOf c).lp y) (letA ((calOf c).fst y)) else 0
theorem letA_bd (f : Int) : 1 ≤ letA f ∧ letA f ≤ 7 := by unfold letA; omega
theorem letB_bd {l : Bool} {a : Int} (h1 : 1 ≤ a) (h2 : a ≤ 7) : 1 ≤ letB l a ∧ letB l a ≤ 7 := by unfold letB; split <;> omega
theorem letA_mod (f : Int) : (f + letA f - 1) % 7 = 0 := by unfold letA; omega
/-- The next Sunday's way: the least a from 1 on with f + a - 1 a Sunday. -/
theorem letA_first {f k : Int} (h1 : 1 ≤ k) (h2 : k < letA f) : ¬ (f + k - 1) % 7 = 0 := by unfold letA at h2; omega
theorem letB_seven {a : Int} (h1 : 1 ≤ a) (h2 : a ≤ 7) : letB true a = if a - 1 = 0 then 7 else a - 1 := by
  unfold letB; rw [if_pos rfl]; split <;> omega
theorem letA_same {f g : Int} (h : (g - f) % 7 = 0) : letA g = letA f := by unfold letA; omega
end Go.Proofs.YtkhicgafhbecfaaGreatDoor

namespace Go.Proofs.YtkhicgafhbecfaaGreatDoor
open Go.RowKit

theorem vB_no {b : Bool} (h : ¬ b = true) (n : Int) : vB b n = 0 ∧ eB b = 1 := by cases b <;> simp_all [vB, eB]
theorem vB_yes {b : Bool} (h : b = true) (n : Int) : vB b n = n ∧ eB b = 0 := by subst h; exact ⟨rfl, rfl⟩
end Go.Proofs.YtkhicgafhbecfaaGreatDoor

namespace Go.Proofs.YtkhicgafhbecfaaGreatDoor
open Go.RowKit

abbrev letv (a b e : Int) : Value := .tuple #[.int .i64 a, .int .i64 b, .int .i64 e]
section
variable (c y f s n k a b : Int) (w : World)
end
end Go.Proofs.YtkhicgafhbecfaaGreatDoor

namespace Go.Proofs.YtkhicgafhbecfaaGreatDoor
open Go.RowKit

theorem td_nn {a b : Int} (h : 0 ≤ a) : a.tdiv b = a / b := Int.tdiv_eq_ediv_of_nonneg h
section
variable (c y f : Int) (w : World)
end
end Go.Proofs.YtkhicgafhbecfaaGreatDoor
