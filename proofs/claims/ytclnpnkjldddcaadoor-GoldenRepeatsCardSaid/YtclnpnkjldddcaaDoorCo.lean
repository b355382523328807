/- What both calendars' references share: package computusref02's In and Length. -/
import Derived.Test.YtclnpnkjldddcaaDoorRa
import Derived.Test.YtclnpnkjldddcaaDoorCal
namespace Go.Proofs.YtclnpnkjldddcaaDoor
open Go.RowKit

theorem rin_any (y : Int) (w : World) :
    Calls Tryd.prog 15 #[.int .i64 y] w fun e w' => e = .returned (.bool (inY y)) ∧ w = w' := by
  cases h0 : decide (1 ≤ y)
  all_goals
    go_enter Tryd.func15, Tryd.ntmps15
    go_wp2
    go_ret
    exact ⟨ret_bool (by simp [inY, h0]), rfl⟩

theorem rlen_any (l : Bool) (m : Int) (w : World) :
    Calls Tryd.prog 40 #[.bool l, .int .i64 m] w fun e w' => e = .returned (.int .i64 (dim l m)) ∧ w = w' := by
  by_cases h : 1 ≤ m ∧ m ≤ 12
  · have h' : m = 1 ∨ m = 2 ∨ m = 3 ∨ m = 4 ∨ m = 5 ∨ m = 6 ∨ m = 7 ∨ m = 8 ∨ m = 9 ∨ m = 10 ∨ m = 11 ∨ m = 12 := by omega
    clear h
    rcases h' with rfl | rfl | rfl | rfl | rfl | rfl | rfl | rfl | rfl | rfl | rfl | rfl
    all_goals
      cases l
      all_goals
        go_enter Tryd.func40, Tryd.ntmps40
        go_wp2
        go_ret
        exact ⟨rfl, rfl⟩
  · have h0 := dim_out l m (by omega)
    have e1 : (m == 1) = false := by rw [beq_eq_false_iff_ne]; omega
    have e2 : (m == 2) = false := by rw [beq_eq_false_iff_ne]; omega
    have e3 : (m == 3) = false := by rw [beq_eq_false_iff_ne]; omega
    have e4 : (m == 4) = false := by rw [beq_eq_false_iff_ne]; omega
    have e5 : (m == 5) = false := by rw [beq_eq_false_iff_ne]; omega
    have e6 : (m == 6) = false := by rw [beq_eq_false_iff_ne]; omega
    have e7 : (m == 7) = false := by rw [beq_eq_false_iff_ne]; omega
    have e8 : (m == 8) = false := by rw [beq_eq_false_iff_ne]; omega
    have e9 : (m == 9) = false := by rw [beq_eq_false_iff_ne]; omega
    have e10 : (m == 10) = false := by rw [beq_eq_false_iff_ne]; omega
    have e11 : (m == 11) = false := by rw [beq_eq_false_iff_ne]; omega
    have e12 : (m == 12) = false := by rw [beq_eq_false_iff_ne]; omega
    have H := Lib.hid h0
    clear h0 h
    go_enter Tryd.func40, Tryd.ntmps40
    go_wp2
    go_ret
    exact ⟨ret_int H.out.symm, rfl⟩


end Go.Proofs.YtclnpnkjldddcaaDoor
