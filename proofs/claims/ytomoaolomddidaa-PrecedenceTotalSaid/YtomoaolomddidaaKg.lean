/- What earlier stages proved: Ga. -/
import Derived.Test.YtomoaolomddidaaRows
import Derived.Test.YtomoaolomddidaaKa
import Derived.IntWalk
namespace Go.Proofs.Ytomoaolomddidaa
open Go.RowKit

def glp (y : Int) : Bool := (decide (y % 4 = 0) && !decide (y % 100 = 0)) || decide (y % 400 = 0)
theorem glp_iff {y : Int} : glp y = true ↔ (y % 4 = 0 ∧ ¬ y % 100 = 0) ∨ y % 400 = 0 := by simp [glp]
theorem glp_if (y : Int) : l01 (glp y) = if (y % 4 = 0 ∧ ¬ y % 100 = 0) ∨ y % 400 = 0 then 1 else 0 := by
  by_cases h : (y % 4 = 0 ∧ ¬ y % 100 = 0) ∨ y % 400 = 0
  · rw [glp_iff.2 h, if_pos h]; rfl
  · rw [if_neg h]
    cases g : glp y with
    | false => rfl
    | true => exact absurd (glp_iff.1 g) h
def gfst (y : Int) : Int := 1 + (y - 1) * 365 + ((y - 1) / 4 - (y - 1) / 100 + (y - 1) / 400)
theorem gstep (y : Int) : gfst (y + 1) = gfst y + 365 + l01 (glp y) := by
  rw [glp_if]; unfold gfst
  split <;> omega
def greg : Cal := ⟨glp, gfst, fun y _ => gstep y⟩
end Go.Proofs.Ytomoaolomddidaa
