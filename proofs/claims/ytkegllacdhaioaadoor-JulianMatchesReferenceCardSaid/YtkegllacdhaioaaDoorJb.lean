/- The contracts of First, splitYear and Valid of package julian, of its reference's First, Valid and Less, and of intmath's Clamp. -/
import Derived.Test.YtkegllacdhaioaaDoorJa
import Derived.Deep.QuietTactic
import Derived.BigQuiet
namespace Go.Proofs.YtkegllacdhaioaaDoor
open Go.RowKit

theorem ret_ii {a b c d : Int} (h : a = b) (g : c = d) : Ending.returned (.tuple #[.int .i64 a, .int .i64 c]) = .returned (.tuple #[.int .i64 b, .int .i64 d]) := by rw [h, g]

theorem jfirst_in (y : Int) (w : World) (h1 : 1 ≤ y) (h2 : y ≤ 1000000000) :
    Calls Tryd.prog 14 #[.int .i64 y] w fun e w' => e = .returned (.tuple #[.int .i64 (jfst y), .int .i64 0]) ∧ w = w' := by
  have H := fun w => jin_any y w
  simp only [inY_iff.2 ⟨h1, h2⟩] at H
  go_enter Tryd.func14, Tryd.ntmps14
  go_wp2_with (go_at_call 26; refine (H _).mono ?_; rintro e w' ⟨rfl, rfl⟩)
  go_ret2
  exact ⟨ret_ii (by unfold jfst; omega) rfl, rfl⟩
theorem jfirst_out (y : Int) (w : World) (h : ¬ (1 ≤ y ∧ y ≤ 1000000000)) :
    Calls Tryd.prog 14 #[.int .i64 y] w fun e w' => e = .returned (.tuple #[.int .i64 0, .int .i64 1]) ∧ w = w' := by
  have H := fun w => jin_any y w
  simp only [inY_false h] at H
  clear h
  go_enter Tryd.func14, Tryd.ntmps14
  go_wp2_with (go_at_call 26; refine (H _).mono ?_; rintro e w' ⟨rfl, rfl⟩)
  go_ret2
  exact ⟨rfl, rfl⟩
theorem rfirst_in (y : Int) (w : World) (h1 : 1 ≤ y) (h2 : y ≤ 1000000001) :
    Calls Tryd.prog 16 #[.int .i64 y] w fun e w' => e = .returned (.int .i64 (jfst y)) ∧ w = w' := by
  go_enter Tryd.func16, Tryd.ntmps16
  go_wp2
  go_ret
  exact ⟨ret_int (by unfold jfst; omega), rfl⟩

def clampI (n l h : Int) : Int := if n < l then l else if h < n then h else n
theorem clamp_lo {n l h : Int} (h1 : n < l) : l = clampI n l h := by unfold clampI; rw [if_pos h1]
theorem clamp_hi {n l h : Int} (h1 : l ≤ n) (h2 : h < n) : h = clampI n l h := by unfold clampI; rw [if_neg (by omega), if_pos h2]
theorem clamp_in {n l h : Int} (h1 : l ≤ n) (h2 : n ≤ h) : n = clampI n l h := by unfold clampI; rw [if_neg (by omega), if_neg (by omega)]
theorem clamp_any (n l h : Int) (w : World) :
    Calls Tryd.prog 28 #[.int .i64 n, .int .i64 l, .int .i64 h] w fun e w' => e = .returned (.int .i64 (clampI n l h)) ∧ w = w' := by
  by_cases h1 : n < l
  · go_enter Tryd.func28, Tryd.ntmps28
    go_wp2
    go_ret
    exact ⟨ret_int (clamp_lo h1), rfl⟩
  · have h1 : l ≤ n := by omega
    by_cases h2 : h < n
    · go_enter Tryd.func28, Tryd.ntmps28
      go_wp2
      go_ret
      exact ⟨ret_int (clamp_hi h1 h2), rfl⟩
    · have h2 : n ≤ h := by omega
      go_enter Tryd.func28, Tryd.ntmps28
      go_wp2
      go_ret
      exact ⟨ret_int (clamp_in h1 h2), rfl⟩

theorem split_any (D : Int) (w : World) (h1 : 0 ≤ D) (h2 : D ≤ 400000000000) (c : Int) (c1 : 0 ≤ c) (c2 : c ≤ 3)
    (hc : ∀ w, Calls Tryd.prog 28 #[.int .i64 (D % 1461 / 365), .int .i64 0, .int .i64 3] w fun e w' => e = .returned (.int .i64 c) ∧ w = w') :
    Calls Tryd.prog 25 #[.int .i64 D] w fun e w' => e = .returned (.tuple #[.int .i64 (1 + 4 * (D / 1461) + c), .int .i64 (D % 1461 - c * 365)]) ∧ w = w' := by
  go_enter Tryd.func25, Tryd.ntmps25
  go_wp2_with (go_at_call 28; refine (hc _).mono ?_; rintro e w' ⟨rfl, rfl⟩)
  go_ret2
  exact ⟨rfl, rfl⟩
theorem split_at (y r : Int) (w : World) (h1 : 1 ≤ y) (h2 : y ≤ 1000000000) (r1 : 0 ≤ r) (r2 : r < 365 + l01 (jlp y)) (D : Int) (hD : D = jfst y + 1 + r) :
    Calls Tryd.prog 25 #[.int .i64 D] w fun e w' => e = .returned (.tuple #[.int .i64 y, .int .i64 r]) ∧ w = w' := by
  have e0 : l01 (jlp y) = if y % 4 = 0 then 1 else 0 := by
    unfold jlp; by_cases g : y % 4 = 0
    · rw [decide_eq_true g, if_pos g]; rfl
    · rw [decide_eq_false g, if_neg g]; rfl
  have e1 : D / 1461 = (y - 1) / 4 := by unfold jfst at hD; split at e0 <;> omega
  have e2 : D % 1461 = (y - 1) % 4 * 365 + r := by unfold jfst at hD; omega
  have ec : clampI (D % 1461 / 365) 0 3 = (y - 1) % 4 := by
    rw [e2]; unfold clampI
    split at e0 <;> (repeat' split) <;> omega
  have H := split_any D w (by unfold jfst at hD; omega) (by have := l01_bd (jlp y); unfold jfst at hD; omega) ((y - 1) % 4) (by omega) (by omega) (fun w => by rw [← ec]; exact clamp_any _ _ _ w)
  have f1 : 1 + 4 * (D / 1461) + (y - 1) % 4 = y := by omega
  have f2 : D % 1461 - (y - 1) % 4 * 365 = r := by omega
  rw [f1, f2] at H
  exact H

theorem rless_any (y m d y' m' d' : Int) (w : World) :
    Calls Tryd.prog 24 #[.agg #[.int .i64 y, .int .i64 m, .int .i64 d], .agg #[.int .i64 y', .int .i64 m', .int .i64 d']] w fun e w' => e = .returned (.bool (Cal.less y m d y' m' d')) ∧ Below w.heap.size w w' := by
  cases h1 : (y != y')
  · cases h2 : (m != m')
    all_goals
      go_enter Tryd.func24, Tryd.ntmps24
      go_wp2
      go_ret
      exact ⟨ret_bool (by simp at h1 h2; unfold Cal.less; rw [Bool.eq_iff_iff, decide_eq_true_iff, decide_eq_true_iff]; omega), ((Below.refl _ _).alloc (Nat.le_refl _) _).alloc (by simp) _⟩
  · go_enter Tryd.func24, Tryd.ntmps24
    go_wp2
    go_ret
    exact ⟨ret_bool (by simp at h1; unfold Cal.less; rw [Bool.eq_iff_iff, decide_eq_true_iff, decide_eq_true_iff]; omega), ((Below.refl _ _).alloc (Nat.le_refl _) _).alloc (by simp) _⟩
end Go.Proofs.YtkegllacdhaioaaDoor
