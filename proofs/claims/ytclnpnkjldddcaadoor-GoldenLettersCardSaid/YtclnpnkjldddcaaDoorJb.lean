/- The contracts of First and splitYear of package julian and of its reference's First. -/
import Derived.Test.YtclnpnkjldddcaaDoorJa
import Derived.Test.YtclnpnkjldddcaaDoorCl
namespace Go.Proofs.YtclnpnkjldddcaaDoor
open Go.RowKit

theorem jfirst_in (y : Int) (w : World) (h1 : 1 ≤ y) (h2 : y ≤ 1000000000) :
    Calls Tryd.prog 66 #[.int .i64 y] w fun e w' => e = .returned (.tuple #[.int .i64 (jfst y), .int .i64 0]) ∧ w = w' := by
  have H := fun w => jin_any y w
  simp only [inY_iff.2 ⟨h1, h2⟩] at H
  go_enter Tryd.func66, Tryd.ntmps66
  go_wp2_with (go_at_call 74; refine (H _).mono ?_; rintro e w' ⟨rfl, rfl⟩)
  go_ret2
  exact ⟨ret_ii (by unfold jfst; omega) rfl, rfl⟩
theorem jfirst_out (y : Int) (w : World) (h : ¬ (1 ≤ y ∧ y ≤ 1000000000)) :
    Calls Tryd.prog 66 #[.int .i64 y] w fun e w' => e = .returned (.tuple #[.int .i64 0, .int .i64 1]) ∧ w = w' := by
  have H := fun w => jin_any y w
  simp only [inY_false h] at H
  clear h
  go_enter Tryd.func66, Tryd.ntmps66
  go_wp2_with (go_at_call 74; refine (H _).mono ?_; rintro e w' ⟨rfl, rfl⟩)
  go_ret2
  exact ⟨rfl, rfl⟩
theorem rfirst_in (y : Int) (w : World) (h1 : 1 ≤ y) (h2 : y ≤ 1000000001) :
    Calls Tryd.prog 48 #[.int .i64 y] w fun e w' => e = .returned (.int .i64 (jfst y)) ∧ w = w' := by
  go_enter Tryd.func48, Tryd.ntmps48
  go_wp2
  go_ret
  exact ⟨ret_int (by unfold jfst; omega), rfl⟩

theorem split_any (D : Int) (w : World) (h1 : 0 ≤ D) (h2 : D ≤ 400000000000) (c : Int) (c1 : 0 ≤ c) (c2 : c ≤ 3)
    (hc : ∀ w, Calls Tryd.prog 76 #[.int .i64 (D % 1461 / 365), .int .i64 0, .int .i64 3] w fun e w' => e = .returned (.int .i64 c) ∧ w = w') :
    Calls Tryd.prog 69 #[.int .i64 D] w fun e w' => e = .returned (.tuple #[.int .i64 (1 + 4 * (D / 1461) + c), .int .i64 (D % 1461 - c * 365)]) ∧ w = w' := by
  go_enter Tryd.func69, Tryd.ntmps69
  go_wp2_with (go_at_call 76; refine (hc _).mono ?_; rintro e w' ⟨rfl, rfl⟩)
  go_ret2
  exact ⟨rfl, rfl⟩
theorem split_at (y r : Int) (w : World) (h1 : 1 ≤ y) (h2 : y ≤ 1000000000) (r1 : 0 ≤ r) (r2 : r < 365 + l01 (jlp y)) (D : Int) (hD : D = jfst y + 1 + r) :
    Calls Tryd.prog 69 #[.int .i64 D] w fun e w' => e = .returned (.tuple #[.int .i64 y, .int .i64 r]) ∧ w = w' := by
  have e0 : l01 (jlp y) = if y % 4 = 0 then 1 else 0 := by
    unfold jlp; by_cases g : y % 4 = 0
    · rw [decide_eq_true g, if_pos g]; rfl
    · rw [decide_eq_false g, if_neg g]; rfl
  have e1 : D / 1461 = (y - 1) / 4 := by unfold jfst at hD; split at e0 <;> omega
  have e2 : D % 1461 = (y - 1) % 4 * 365 + r := by unfold jfst at hD; omega
  have ec : clampI (D % 1461 / 365) 0 3 = (y - 1) % 4 := by
    rw [e2]; unfold clampI
    split at e0 <;> (repeat' split) <;> omega
  have H := split_any D w (by unfold jfst at hD; omega) (by have := l01_bd (jlp y); unfold jfst at hD; omega) ((y - 1) % 4) (by omega) (by omega) (fun w => by rw [← ec]; exact clamp_any _ _ _ w)
  have f1 : 1 + 4 * (D / 1461) + (y - 1) % 4 = y := by omega
  have f2 : D % 1461 - (y - 1) % 4 * 365 = r := by omega
  rw [f1, f2] at H
  exact H

end Go.Proofs.YtclnpnkjldddcaaDoor
