/- The integer arithmetic behind the walks of package intmath: floored and truncated division, and when a wrapped result is the exact one. -/
namespace Go.Proofs.YtclnpnkjldddcaaDoor

def inR (x : Int) : Bool := decide (-9223372036854775808 ≤ x) && decide (x ≤ 9223372036854775807)
def rup (a b : Int) : Bool := a.tmod b != 0 && (decide (a < 0) != decide (b < 0))
def fits (a b : Int) : Bool := a != -9223372036854775808 || b != -1
def spl (a b : Int) : Bool := b != 0 && fits a b
def ifb (c : Bool) (n : Int) : Int := match c with | true => n | false => 0

theorem ifb_false (n : Int) : ifb false n = 0 := rfl
theorem ifb_true (n : Int) : ifb true n = n := rfl

theorem inR_iff {x : Int} : inR x = true ↔ -9223372036854775808 ≤ x ∧ x ≤ 9223372036854775807 := by simp [inR]

theorem tm_eq (a b : Int) : b * a.tdiv b + a.tmod b = a := Int.mul_tdiv_add_tmod a b
theorem fm_eq (a b : Int) : b * a.fdiv b + a.fmod b = a := Int.mul_fdiv_add_fmod a b

/- the remainder of truncated division: less than the divisor, with the sign of the dividend -/
theorem tm_bd (a b : Int) (hb : b ≠ 0) : (0 ≤ a → 0 ≤ a.tmod b ∧ a.tmod b < b.natAbs) ∧ (a < 0 → a.tmod b ≤ 0 ∧ -(b.natAbs : Int) < a.tmod b) := by
  constructor
  · intro h
    refine ⟨Int.tmod_nonneg b h, ?_⟩
    have := Int.tmod_lt_of_pos
    have h1 : a.tmod b = a.tmod b.natAbs := by
      rcases Int.natAbs_eq b with e | e
      · rw [← e]
      · conv => lhs; rw [e]
        rw [Int.tmod_neg]
    rw [h1]
    exact Int.tmod_lt_of_pos _ (by omega)
  · intro h
    have h1 : a.tmod b = a.tmod b.natAbs := by
      rcases Int.natAbs_eq b with e | e
      · rw [← e]
      · conv => lhs; rw [e]
        rw [Int.tmod_neg]
    have h2 : a.tmod b.natAbs = -((-a).tmod b.natAbs) := by rw [Int.neg_tmod]; omega
    have h3 := Int.tmod_nonneg (b.natAbs : Int) (a := -a) (by omega)
    have h4 := Int.tmod_lt_of_pos (-a) (b := (b.natAbs : Int)) (by omega)
    rw [h1, h2]
    omega

/- uniqueness of the floored quotient -/
theorem fdiv_unique (a b q r : Int) (h : b * q + r = a) (hr : (0 < b ∧ 0 ≤ r ∧ r < b) ∨ (b < 0 ∧ r ≤ 0 ∧ b < r)) : a.fdiv b = q ∧ a.fmod b = r := by
  have e : a.fdiv b = q := by
    rcases hr with ⟨h0, h1, h2⟩ | ⟨h0, h1, h2⟩
    · rw [Int.fdiv_eq_ediv_of_nonneg _ (by omega), ← h, Int.add_comm, Int.add_mul_ediv_left _ _ (by omega), Int.ediv_eq_zero_of_lt h1 h2]; omega
    · have : a.fdiv b = (-a).fdiv (-b) := by rw [Int.neg_fdiv_neg]
      rw [this, Int.fdiv_eq_ediv_of_nonneg _ (by omega)]
      have h' : -a = -r + (-b) * q := by rw [← h, Int.neg_mul]; omega
      rw [h', Int.add_mul_ediv_left _ _ (by omega), Int.ediv_eq_zero_of_lt (by omega) (by omega)]; omega
  refine ⟨e, ?_⟩
  have := fm_eq a b
  rw [e] at this
  omega

theorem fm_bd (a b : Int) (hb : b ≠ 0) : (0 < b ∧ 0 ≤ a.fmod b ∧ a.fmod b < b) ∨ (b < 0 ∧ a.fmod b ≤ 0 ∧ b < a.fmod b) := by
  rcases Int.lt_trichotomy b 0 with h | h | h
  · right
    have h1 : a.fmod b = -((-a).fmod (-b)) := by rw [Int.neg_fmod_neg]; omega
    have h2 := Int.fmod_nonneg_of_pos (-a) (b := -b) (by omega)
    have h3 := Int.fmod_lt_of_pos (-a) (b := -b) (by omega)
    omega
  · exact absurd h hb
  · left
    exact ⟨h, Int.fmod_nonneg_of_pos a h, Int.fmod_lt_of_pos a h⟩

theorem rup_true (a b : Int) (hb : b ≠ 0) (h : rup a b = true) : a.fdiv b = a.tdiv b - 1 ∧ a.fmod b = a.tmod b + b := by
  have e := tm_eq a b
  obtain ⟨h1, h2⟩ := tm_bd a b hb
  refine fdiv_unique a b _ _ (by rw [Int.mul_sub, Int.mul_one]; omega) ?_
  simp [rup] at h
  by_cases ha : a < 0 <;> by_cases hb' : b < 0 <;> simp [ha, hb'] at h <;> omega

theorem rup_false (a b : Int) (hb : b ≠ 0) (h : rup a b = false) : a.fdiv b = a.tdiv b ∧ a.fmod b = a.tmod b := by
  have e := tm_eq a b
  obtain ⟨h1, h2⟩ := tm_bd a b hb
  refine fdiv_unique a b _ _ e ?_
  simp [rup] at h
  by_cases ha : a < 0 <;> by_cases hb' : b < 0 <;> simp [ha, hb'] at h <;> omega
end Go.Proofs.YtclnpnkjldddcaaDoor
