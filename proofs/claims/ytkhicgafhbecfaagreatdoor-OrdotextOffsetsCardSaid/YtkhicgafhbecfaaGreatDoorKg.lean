/- What earlier stages proved: Ga Gb Gc. -/
import Derived.Test.YtkhicgafhbecfaaGreatDoorKa
import Derived.Laws.Rows
namespace Go.Proofs.YtkhicgafhbecfaaGreatDoor
open Go.RowKit

def glp (y : Int) : Bool := (decide (y % 4 = 0) && !decide (y % 100 = 0)) || decide (y % 400 = 0)
theorem glp_iff {y : Int} : glp y = true ↔ (y % 4 = 0 ∧ ¬ y % 100 = 0) ∨ y % 400 = 0 := by simp [glp]
theorem glp_if (y : Int) : l01 (glp y) = if (y % 4 = 0 ∧ ¬ y % 100 = 0) ∨ y % 400 = 0 then 1 else 0 := by
  by_cases h : (y % 4 = 0 ∧ ¬ y % 100 = 0) ∨ y % 400 = 0
  · rw [glp_iff.2 h, if_pos h]; rfl
  · rw [if_neg h]
    cases g : glp y with
    | false => rfl
    | true => exact absurd (glp_iff.1 g) h
def gfst (y : Int) : Int := 1 + (y - 1) * 365 + ((y - 1) / 4 - (y - 1) / 100 + (y - 1) / 400)
theorem gstep (y : Int) : gfst (y + 1) = gfst y + 365 + l01 (glp y) := by
  rw [glp_if]; unfold gfst
  split <;> omega
def greg : Cal := ⟨glp, gfst, fun y _ => gstep y⟩
theorem gfst_le {a b : Int} (h1 : 1 ≤ a) (h : a ≤ b) : gfst a ≤ gfst b := greg.fst_mono a b h1 h

theorem tm0 (y c : Int) : (y.tmod c == 0) = decide (y % c = 0) := by
  rw [Bool.eq_iff_iff, beq_iff_eq, decide_eq_true_iff]
  exact ⟨fun h => Int.emod_eq_zero_of_dvd (Int.dvd_of_tmod_eq_zero h), fun h => Int.tmod_eq_zero_of_dvd (Int.dvd_of_emod_eq_zero h)⟩
theorem tm1 (y c : Int) : (y.tmod c != 0) = !decide (y % c = 0) := by rw [bne, tm0]
theorem fm0 (y c : Int) (hc : 0 ≤ c) : (y.fmod c == 0) = decide (y % c = 0) := by
  rw [Bool.eq_iff_iff, beq_iff_eq, decide_eq_true_iff, Int.fmod_eq_emod_of_nonneg _ hc]
theorem fm1 (y c : Int) (hc : 0 ≤ c) : (y.fmod c != 0) = !decide (y % c = 0) := by rw [bne, fm0 y c hc]

def grp : Array Value := #[.int .i64 400, .int .i64 146097, .int .i64 2499999, .int .i64 100, .int .i64 36524, .int .i64 3, .int .i64 4, .int .i64 1461, .int .i64 24, .int .i64 1, .int .i64 365, .int .i64 3]
end Go.Proofs.YtkhicgafhbecfaaGreatDoor

namespace Go.Proofs.YtkhicgafhbecfaaGreatDoor
open Go.RowKit

/-- the year by its place in 400, 100, 4 and 1 years -/
theorem year_parts (y : Int) (h1 : 1 ≤ y) (h2 : y ≤ 1000000000) : ∃ a b c e : Int, y = 1 + a * 400 + b * 100 + c * 4 + e ∧ (0 ≤ a ∧ a ≤ 2499999) ∧ (0 ≤ b ∧ b ≤ 3) ∧ (0 ≤ c ∧ c ≤ 24) ∧ (0 ≤ e ∧ e ≤ 3) ∧
    l01 (glp y) = (if e = 3 ∧ (¬ c = 24 ∨ b = 3) then 1 else 0) ∧ gfst y = 1 + a * 146097 + b * 36524 + c * 1461 + e * 365 := by
  refine ⟨(y - 1) / 400, (y - 1) % 400 / 100, (y - 1) % 100 / 4, (y - 1) % 4, by omega, by omega, by omega, by omega, by omega, ?_, by unfold gfst; omega⟩
  rw [glp_if]
  split <;> split <;> omega
end Go.Proofs.YtkhicgafhbecfaaGreatDoor

namespace Go.Proofs.YtkhicgafhbecfaaGreatDoor
open Go.RowKit

theorem gvld_not1 {y m d : Int} (h : inY y = false) : greg.vld y m d = false := by
  cases g : greg.vld y m d with
  | false => rfl
  | true => have := greg.vld_iff.1 g; rw [inY_iff.2 ⟨this.1, this.2.1⟩] at h; cases h
theorem gvld_not2 {y m d : Int} (h : ¬ 1 ≤ d) : greg.vld y m d = false := by
  cases g : greg.vld y m d with
  | false => rfl
  | true => have := greg.vld_iff.1 g; omega
theorem gvld_is {y m d : Int} (h : inY y = true) (h1 : 1 ≤ d) : decide (d ≤ dim (glp y) m) = greg.vld y m d := by
  rw [inY_iff] at h
  rw [Bool.eq_iff_iff, decide_eq_true_iff, greg.vld_iff]
  exact ⟨fun g => ⟨h.1, h.2, h1, g⟩, fun g => g.2.2.2⟩

end Go.Proofs.YtkhicgafhbecfaaGreatDoor
