/- The contracts of the reference's Div and Mod (package computusref01), for any two 64-bit integers that have a floored quotient. -/
import Derived.Test.YtclnpnkjldddcaaDoorRows
import Derived.Test.YtclnpnkjldddcaaDoorMe
import Derived.Test.YtclnpnkjldddcaaDoorN
namespace Go.Proofs.YtclnpnkjldddcaaDoor
open Go.RowKit

/-! the reference's Div and Mod, where they are asked -/
theorem rdiv_yes (a b : Int) (w : World) (hb : ¬ b = 0) (h1 : (wrap64 (wrap64 (a.tdiv b) * b) != a) = true) (h2 : (!(decide (a < 0) == decide (b < 0))) = true) :
    Calls Tryd.prog 51 #[.int .i64 a, .int .i64 b] w fun e w' => e = .returned (.int .i64 (wrap64 (wrap64 (a.tdiv b) - 1))) ∧ w = w' := by
  go_enter Tryd.func51, Tryd.ntmps51
  go_wp2
  go_ret
  exact ⟨rfl, rfl⟩
theorem rdiv_no1 (a b : Int) (w : World) (hb : ¬ b = 0) (h1 : (wrap64 (wrap64 (a.tdiv b) * b) != a) = false) :
    Calls Tryd.prog 51 #[.int .i64 a, .int .i64 b] w fun e w' => e = .returned (.int .i64 (wrap64 (a.tdiv b))) ∧ w = w' := by
  go_enter Tryd.func51, Tryd.ntmps51
  go_wp2
  go_ret
  exact ⟨rfl, rfl⟩
theorem rdiv_no2 (a b : Int) (w : World) (hb : ¬ b = 0) (h1 : (wrap64 (wrap64 (a.tdiv b) * b) != a) = true) (h2 : (!(decide (a < 0) == decide (b < 0))) = false) :
    Calls Tryd.prog 51 #[.int .i64 a, .int .i64 b] w fun e w' => e = .returned (.int .i64 (wrap64 (a.tdiv b))) ∧ w = w' := by
  go_enter Tryd.func51, Tryd.ntmps51
  go_wp2
  go_ret
  exact ⟨rfl, rfl⟩

theorem qb_eq (a b : Int) (ha : inR a = true) (hb : b ≠ 0) (hf : fits a b = true) : wrap64 (wrap64 (a.tdiv b) * b) = a - a.tmod b := by
  rw [wrap64_of _ (tdiv_in a b ha hb hf)]
  have e := tm_eq a b
  have h1 : (a.tmod b).natAbs ≤ a.natAbs := by rw [Int.natAbs_tmod]; exact Nat.mod_le _ _
  obtain ⟨h2, h3⟩ := tm_bd a b hb
  rw [Int.mul_comm] at e
  have e2 : a.tdiv b * b = a - a.tmod b := by omega
  rw [e2]
  refine wrap64_of _ ?_
  rw [inR_iff] at ha ⊢
  rcases Int.lt_or_le a 0 with h | h
  · have := h3 h; omega
  · have := h2 h; omega

theorem rdiv_any (a b : Int) (w : World) (ha : inR a = true) (hs : spl a b = true) :
    Calls Tryd.prog 51 #[.int .i64 a, .int .i64 b] w fun e w' => e = .returned (.int .i64 (a.fdiv b)) ∧ w = w' := by
  simp only [spl, Bool.and_eq_true, bne_iff_ne] at hs
  obtain ⟨hb, hf⟩ := hs
  have hq := qb_eq a b ha hb hf
  have e : (wrap64 (wrap64 (a.tdiv b) * b) != a) = (a.tmod b != 0) := by
    rw [hq, Bool.eq_iff_iff, bne_iff_ne, bne_iff_ne]; omega
  cases h1 : (wrap64 (wrap64 (a.tdiv b) * b) != a)
  · have hr : rup a b = false := by rw [rup, ← e, h1, Bool.false_and]
    rw [← div_val_no a b ha hb hf hr]
    exact rdiv_no1 a b w hb h1
  · cases h2 : (!(decide (a < 0) == decide (b < 0)))
    · have hr : rup a b = false := by rw [rup]; unfold bne; rw [h2, Bool.and_false]
      rw [← div_val_no a b ha hb hf hr]
      exact rdiv_no2 a b w hb h1 h2
    · have hr : rup a b = true := by rw [rup, ← e, h1, Bool.true_and]; exact h2
      rw [← div_val_yes a b ha hb hr]
      exact rdiv_yes a b w hb h1 h2

theorem wrap_sub (a x : Int) (h : inR (a - x) = true) : wrap64 (a - wrap64 x) = a - x := by
  rw [inR_iff] at h
  unfold wrap64
  omega

theorem rmod_any (a b : Int) (w : World) (ha : inR a = true) (hbr : inR b = true) (hs : spl a b = true) :
    Calls Tryd.prog 41 #[.int .i64 a, .int .i64 b] w fun e w' => e = .returned (.int .i64 (a.fmod b)) ∧ w = w' := by
  have H := fun w => rdiv_any a b w ha hs
  have hv : Hid (wrap64 (a - wrap64 (b * a.fdiv b)) = a.fmod b) := by
    have e := fm_eq a b
    have e2 : a - b * a.fdiv b = a.fmod b := by omega
    have hb : b ≠ 0 := by intro h; rw [h] at hs; simp [spl] at hs
    have h2 := fm_bd a b hb
    rw [inR_iff] at hbr
    show wrap64 (a - wrap64 (b * a.fdiv b)) = a.fmod b
    rw [wrap_sub _ _ (by rw [e2, inR_iff]; omega), e2]
  clear ha hbr hs
  go_enter Tryd.func41, Tryd.ntmps41
  go_wp2_with (go_at_call 51; refine (H _).mono ?_; rintro e w' ⟨rfl, rfl⟩)
  go_ret
  exact ⟨ret_int hv.out, rfl⟩
end Go.Proofs.YtclnpnkjldddcaaDoor
