/- The contract of the reference's Muls, for any two 64-bit integers: true exactly if the product is in range. -/
import Derived.Test.YtphiidmcfagemaaF
namespace Go.Proofs.Ytphiidmcfagemaa
open Go.RowKit

def MulsIs (a b : Int) (c : Bool) : Prop := ∀ w : World, Calls Try.prog 19 #[.int .i64 a, .int .i64 b] w fun e w' => e = .returned (.bool c) ∧ w = w'

theorem m_z1 (b : Int) : MulsIs (0) (b) (true) := by
  intro w
  go_enter Try.func19, Try.ntmps19
  go_wp2
  go_ret
  exact ⟨rfl, rfl⟩

theorem m_z2 (a : Int) (e1 : (a == 0) = false) : MulsIs (a) (0) (true) := by
  intro w
  go_enter Try.func19, Try.ntmps19
  go_wp2
  go_ret
  exact ⟨rfl, rfl⟩

theorem m_pp (a b : Int) (h1 : 0 < a) (h2 : 0 < b) (e1 : (a == 0) = false) (e2 : (b == 0) = false)(e3 : (a == -1) = false) (e4 : (b == -1) = false)(e5 : (decide (a < 0) == decide (b < 0)) = true) : MulsIs (a) (b) (decide (a ≤ 9223372036854775807 / b)) := by
  intro w
  go_enter Try.func19, Try.ntmps19
  go_wp2
  go_ret
  exact ⟨rfl, rfl⟩

theorem m_nn (a b : Int) (h1 : a ≤ -2) (h2 : b ≤ -2)(e1 : (a == 0) = false) (e2 : (b == 0) = false)(e3 : (a == -1) = false) (e4 : (b == -1) = false)(e5 : (decide (a < 0) == decide (b < 0)) = true) : MulsIs (a) (b) (decide (wrap64 (Int.tdiv 9223372036854775807 b) ≤ a)) := by
  intro w
  go_enter Try.func19, Try.ntmps19
  go_wp2
  go_ret
  exact ⟨rfl, rfl⟩

theorem m_np (a b : Int) (h1 : a ≤ -2) (h2 : 0 < b)(e1 : (a == 0) = false) (e2 : (b == 0) = false)(e3 : (a == -1) = false) (e4 : (b == -1) = false)(e5 : (decide (a < 0) == decide (b < 0)) = false) : MulsIs (a) (b) (decide (wrap64 (-Int.tdiv 9223372036854775808 b) ≤ a)) := by
  intro w
  go_enter Try.func19, Try.ntmps19
  go_wp2
  go_ret
  exact ⟨rfl, rfl⟩

theorem m_pn (a b : Int) (h1 : 0 < a) (_h2 : b ≤ -2)(e1 : (a == 0) = false) (e2 : (b == 0) = false)(e3 : (a == -1) = false) (e4 : (b == -1) = false)(e5 : (decide (a < 0) == decide (b < 0)) = false) : MulsIs (a) (b) (decide (wrap64 (-Int.tdiv 9223372036854775808 a) ≤ b)) := by
  intro w
  go_enter Try.func19, Try.ntmps19
  go_wp2
  go_ret
  exact ⟨rfl, rfl⟩

theorem m_m1 (b : Int) (h2 : -9223372036854775808 < b) (e2 : (b == 0) = false) : MulsIs (-1) (b) (true) := by
  intro w
  go_enter Try.func19, Try.ntmps19
  go_wp2
  go_ret
  exact ⟨rfl, rfl⟩

theorem m_m2 (a : Int) (h2 : -9223372036854775808 < a) (e1 : (a == 0) = false) (e3 : (a == -1) = false) : MulsIs (a) (-1) (true) := by
  intro w
  go_enter Try.func19, Try.ntmps19
  go_wp2
  go_ret
  exact ⟨rfl, rfl⟩

theorem m_m3  : MulsIs (-1) (-9223372036854775808) (false) := by
  intro w
  go_enter Try.func19, Try.ntmps19
  go_wp2
  go_ret
  exact ⟨rfl, rfl⟩

theorem m_m4  : MulsIs (-9223372036854775808) (-1) (false) := by
  intro w
  go_enter Try.func19, Try.ntmps19
  go_wp2
  go_ret
  exact ⟨rfl, rfl⟩

theorem mx_div (c : Int) (hc : 0 < c) : 0 ≤ 9223372036854775807 / c ∧ 9223372036854775807 / c ≤ 9223372036854775807 :=
  ⟨Int.ediv_nonneg (by omega) (by omega), Int.ediv_le_self _ (by omega)⟩
theorem mn_div (c : Int) (hc : 0 < c) : 0 ≤ 9223372036854775808 / c ∧ 9223372036854775808 / c ≤ 9223372036854775808 :=
  ⟨Int.ediv_nonneg (by omega) (by omega), Int.ediv_le_self _ (by omega)⟩

theorem v_pp (a b : Int) (h1 : 0 < a) (h2 : 0 < b) : decide (a ≤ 9223372036854775807 / b) = inR (a * b) := by
  have hp := Int.mul_pos h1 h2
  rw [Bool.eq_iff_iff, inR_iff, decide_eq_true_iff, Int.le_ediv_iff_mul_le h2]
  omega
theorem v_nn (a b : Int) (h1 : a ≤ -2) (h2 : b ≤ -2) : decide (wrap64 (Int.tdiv 9223372036854775807 b) ≤ a) = inR (a * b) := by
  have e : Int.tdiv 9223372036854775807 b = -(9223372036854775807 / -b) := by
    have : b = -(-b) := by omega
    conv => lhs; rw [this, Int.tdiv_neg, Int.tdiv_eq_ediv_of_nonneg (by omega)]
  have hd := mx_div (-b) (by omega)
  have hp : 0 < a * b := Int.mul_pos_of_neg_of_neg (by omega) (by omega)
  have hq : (-a) * (-b) = a * b := Int.neg_mul_neg a b
  have hk := Int.le_ediv_iff_mul_le (a := -a) (b := 9223372036854775807) (c := -b) (by omega)
  rw [hq] at hk
  rw [e, IntWalk.wrap64_in _ (by omega), Bool.eq_iff_iff, inR_iff, decide_eq_true_iff]
  omega
theorem v_np (a b : Int) (h1 : a ≤ -2) (h2 : 0 < b) : decide (wrap64 (-Int.tdiv 9223372036854775808 b) ≤ a) = inR (a * b) := by
  have hd := mn_div b h2
  have hp : a * b < 0 := Int.mul_neg_of_neg_of_pos (by omega) h2
  have hq : (-a) * b = -(a * b) := Int.neg_mul a b
  have hk := Int.le_ediv_iff_mul_le (a := -a) (b := 9223372036854775808) (c := b) h2
  rw [hq] at hk
  rw [Int.tdiv_eq_ediv_of_nonneg (by omega), IntWalk.wrap64_in _ (by omega), Bool.eq_iff_iff, inR_iff, decide_eq_true_iff]
  omega

theorem beq_no {a k : Int} (h : a ≠ k) : (a == k) = false := by simpa using h

theorem muls_any (a b : Int) (ha : inR a = true) (hb : inR b = true) : MulsIs a b (inR (a * b)) := by
  by_cases h1 : a = 0
  · subst h1
    have e : inR (0 * b) = true := by rw [Int.zero_mul]; rfl
    rw [e]; exact m_z1 b
  by_cases h2 : b = 0
  · subst h2
    have e : inR (a * 0) = true := by rw [Int.mul_zero]; rfl
    rw [e]; exact m_z2 a (beq_no h1)
  rw [inR_iff] at ha hb
  by_cases h3 : a = -1
  · subst h3
    by_cases h4 : b = -9223372036854775808
    · subst h4
      exact m_m3
    · have e : inR (-1 * b) = true := by rw [inR_iff]; omega
      rw [e]; exact m_m1 b (by omega) (beq_no h2)
  by_cases h4 : b = -1
  · subst h4
    by_cases h5 : a = -9223372036854775808
    · subst h5
      exact m_m4
    · have e : inR (a * -1) = true := by rw [inR_iff]; omega
      rw [e]; exact m_m2 a (by omega) (beq_no h1) (beq_no h3)
  rcases Int.lt_or_le a 0 with ga | ga <;> rcases Int.lt_or_le b 0 with gb | gb
  · rw [← v_nn a b (by omega) (by omega)]
    exact m_nn a b (by omega) (by omega) (beq_no h1) (beq_no h2) (beq_no h3) (beq_no h4) (by simp [ga, gb])
  · rw [← v_np a b (by omega) (by omega)]
    exact m_np a b (by omega) (by omega) (beq_no h1) (beq_no h2) (beq_no h3) (beq_no h4) (by simp [ga]; omega)
  · rw [Int.mul_comm, ← v_np b a (by omega) (by omega)]
    exact m_pn a b (by omega) (by omega) (beq_no h1) (beq_no h2) (beq_no h3) (beq_no h4) (by simp [gb]; omega)
  · rw [← v_pp a b (by omega) (by omega)]
    exact m_pp a b (by omega) (by omega) (beq_no h1) (beq_no h2) (beq_no h3) (beq_no h4) (by rw [decide_eq_false (by omega), decide_eq_false (by omega)]; rfl)
end Go.Proofs.Ytphiidmcfagemaa
