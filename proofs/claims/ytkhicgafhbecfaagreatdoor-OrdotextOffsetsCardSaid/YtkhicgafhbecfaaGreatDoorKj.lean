/- What earlier stages proved: Ja Jc Jf. -/
import Derived.Test.YtkhicgafhbecfaaGreatDoorKa
namespace Go.Proofs.YtkhicgafhbecfaaGreatDoor
open Go.RowKit

def jlp (y : Int) : Bool := decide (y % 4 = 0)
def jfst (y : Int) : Int := -1 + (y - 1) * 365 + (y - 1) / 4
def jul : Cal := ⟨jlp, jfst, fun y _ => by
  unfold jfst jlp
  by_cases h : y % 4 = 0
  · rw [decide_eq_true h]; simp only [l01]; omega
  · rw [decide_eq_false h]; simp only [l01]; omega⟩
theorem jlp_tmod (y : Int) : (y.tmod 4 == 0) = jlp y := by
  unfold jlp; rw [Bool.eq_iff_iff, beq_iff_eq, decide_eq_true_iff]
  exact ⟨fun h => by have := Int.dvd_of_tmod_eq_zero h; omega, fun h => Int.tmod_eq_zero_of_dvd (by omega)⟩
theorem jlp_fmod (y : Int) : (y.fmod 4 == 0) = jlp y := by
  unfold jlp; rw [Bool.eq_iff_iff, beq_iff_eq, decide_eq_true_iff, Int.fmod_eq_emod_of_nonneg _ (by omega)]
end Go.Proofs.YtkhicgafhbecfaaGreatDoor

namespace Go.Proofs.YtkhicgafhbecfaaGreatDoor
open Go.RowKit

theorem vld_not1 {y m d : Int} (h : inY y = false) : jul.vld y m d = false := by
  cases g : jul.vld y m d with
  | false => rfl
  | true => have := jul.vld_iff.1 g; rw [inY_iff.2 ⟨this.1, this.2.1⟩] at h; cases h
theorem vld_not2 {y m d : Int} (h : ¬ 1 ≤ d) : jul.vld y m d = false := by
  cases g : jul.vld y m d with
  | false => rfl
  | true => have := jul.vld_iff.1 g; omega
theorem vld_is {y m d : Int} (h : inY y = true) (h1 : 1 ≤ d) : decide (d ≤ dim (jlp y) m) = jul.vld y m d := by
  rw [inY_iff] at h
  rw [Bool.eq_iff_iff, decide_eq_true_iff, jul.vld_iff]
  exact ⟨fun g => ⟨h.1, h.2, h1, g⟩, fun g => g.2.2.2⟩

end Go.Proofs.YtkhicgafhbecfaaGreatDoor

namespace Go.Proofs.YtkhicgafhbecfaaGreatDoor
open Go.RowKit

theorem jfst_le {a b : Int} (h1 : 1 ≤ a) (h : a ≤ b) : jfst a ≤ jfst b := jul.fst_mono a b h1 h

end Go.Proofs.YtkhicgafhbecfaaGreatDoor
