/- When a wrapped sum, difference, product or quotient is the exact one. -/
import Derived.Test.YtclnpnkjldddcaaDoorM
import Derived.IntWalk
namespace Go.Proofs.YtclnpnkjldddcaaDoor
open Go.RowKit

theorem fits_iff {a b : Int} : fits a b = true ↔ ¬ (a = -9223372036854775808 ∧ b = -1) := by
  simp [fits]; omega

theorem fits_false {a b : Int} : fits a b = false ↔ (a = -9223372036854775808 ∧ b = -1) := by
  simp [fits]

theorem nat_tdiv_le (a b : Int) : (a.tdiv b).natAbs ≤ a.natAbs := by
  rw [Int.natAbs_tdiv]; exact Nat.div_le_self _ _

theorem tdiv_in (a b : Int) (ha : inR a = true) (hb : b ≠ 0) (hf : fits a b = true) : inR (a.tdiv b) = true := by
  rw [inR_iff] at ha ⊢
  rw [fits_iff] at hf
  have h1 := nat_tdiv_le a b
  have e := tm_eq a b
  obtain ⟨h2, h3⟩ := tm_bd a b hb
  by_cases h : a.tdiv b = 9223372036854775808
  · rw [h] at e
    omega
  · omega

theorem tdiv_dec (a b : Int) (ha : inR a = true) (hb : b ≠ 0) (hr : rup a b = true) : inR (a.tdiv b - 1) = true := by
  rw [inR_iff] at ha ⊢
  have h1 := nat_tdiv_le a b
  have e := tm_eq a b
  obtain ⟨h2, h3⟩ := tm_bd a b hb
  have hm : a.tmod b ≠ 0 := by
    intro h; simp [rup, h] at hr
  by_cases h : a.tdiv b = -9223372036854775808
  · rw [h] at e
    omega
  · by_cases h' : a.tdiv b = 9223372036854775808
    · rw [h'] at e
      omega
    · omega

theorem wrap64_of (x : Int) (h : inR x = true) : wrap64 x = x := IntWalk.wrap64_in x (inR_iff.1 h)

theorem fits_of_rup (a b : Int) (h : rup a b = true) : fits a b = true := by
  rw [fits_iff]
  rintro ⟨rfl, rfl⟩
  revert h
  decide

/- Div's value, as the walk has it: the floored quotient -/
theorem div_val_yes (a b : Int) (ha : inR a = true) (hb : b ≠ 0) (hr : rup a b = true) : wrap64 (wrap64 (a.tdiv b) - 1) = a.fdiv b := by
  rw [wrap64_of _ (tdiv_in a b ha hb (fits_of_rup a b hr)), wrap64_of _ (tdiv_dec a b ha hb hr), (rup_true a b hb hr).1]
theorem div_val_no (a b : Int) (ha : inR a = true) (hb : b ≠ 0) (hf : fits a b = true) (hr : rup a b = false) : wrap64 (a.tdiv b) = a.fdiv b := by
  rw [wrap64_of _ (tdiv_in a b ha hb hf), (rup_false a b hb hr).1]
theorem mod_val_yes (a b : Int) (_ha : inR a = true) (hbr : inR b = true) (hb : b ≠ 0) (hr : rup a b = true) : wrap64 (a.tmod b + b) = a.fmod b := by
  have h := (rup_true a b hb hr).2
  have h2 := fm_bd a b hb
  rw [inR_iff] at hbr
  rw [← h, wrap64_of _ (inR_iff.2 (by omega))]
theorem mod_val_no (a b : Int) (hb : b ≠ 0) (hr : rup a b = false) : a.tmod b = a.fmod b := (rup_false a b hb hr).2.symm

/- sums and differences -/
theorem add_ok (a b : Int) (ha : inR a = true) (hb : inR b = true) : ((decide (wrap64 (a + b) < a)) == decide (b < 0)) = inR (a + b) := by
  rw [inR_iff] at ha hb
  rw [Bool.eq_iff_iff, inR_iff]
  unfold wrap64
  by_cases h : b < 0 <;> simp [h] <;> omega
theorem sub_ok (a b : Int) (ha : inR a = true) (hb : inR b = true) : ((decide (wrap64 (a - b) < a)) == decide (0 < b)) = inR (a - b) := by
  rw [inR_iff] at ha hb
  rw [Bool.eq_iff_iff, inR_iff]
  unfold wrap64
  by_cases h : 0 < b <;> simp [h] <;> omega

/- products -/
theorem wrap64_mod (x : Int) : ∃ k : Int, wrap64 x = x + 18446744073709551616 * k := by
  refine ⟨-((x + 9223372036854775808) / 18446744073709551616), ?_⟩
  unfold wrap64
  omega

theorem mul_ok (a b : Int) (ha : inR a = true) (hb : inR b = true) (h0 : a ≠ 0) : (fits (wrap64 (a * b)) a && (wrap64 (a * b)).tdiv a == b) = inR (a * b) := by
  rw [Bool.eq_iff_iff, Bool.and_eq_true, beq_iff_eq]
  constructor
  · rintro ⟨-, h⟩
    obtain ⟨k, hk⟩ := wrap64_mod (a * b)
    have e := tm_eq (wrap64 (a * b)) a
    rw [h] at e
    obtain ⟨h1, h2⟩ := tm_bd (wrap64 (a * b)) a h0
    rw [inR_iff] at ha
    have hw : inR (wrap64 (a * b)) = true := by rw [inR_iff]; unfold wrap64; omega
    have : k = 0 := by
      rcases Int.lt_or_le (wrap64 (a * b)) 0 with hl | hl
      · have := h2 hl; omega
      · have := h1 hl; omega
    subst this
    rw [hk] at hw
    simpa using hw
  · intro h
    rw [wrap64_of _ h]
    refine ⟨?_, Int.mul_tdiv_cancel_left b h0⟩
    rw [fits_iff]
    rintro ⟨e, rfl⟩
    rw [inR_iff] at hb
    omega
end Go.Proofs.YtclnpnkjldddcaaDoor
