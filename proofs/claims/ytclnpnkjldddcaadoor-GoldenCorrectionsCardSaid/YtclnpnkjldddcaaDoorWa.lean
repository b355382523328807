/- The contracts of package weekday's and its reference's small functions: Of, isWeekday, check, daysUntil, fails. Each returns what the plain functions say; what was in memory is as it was. -/
import Derived.Test.YtclnpnkjldddcaaDoorWo
namespace Go.Proofs.YtclnpnkjldddcaaDoor
open Go.RowKit

def inW (w : Int) : Bool := decide (0 ≤ w) && decide (w ≤ 6)
theorem inW_iff {w : Int} : inW w = true ↔ 0 ≤ w ∧ w ≤ 6 := by simp [inW]
def inN (n : Int) : Bool := decide (-1099511627776 ≤ n) && decide (n ≤ 1099511627776)
theorem inN_iff {n : Int} : inN n = true ↔ -1099511627776 ≤ n ∧ n ≤ 1099511627776 := by simp [inN]
/-- The error of a day and a day of the week. -/
def wErr (n w : Int) : Int := if inW w = true then (if inN n = true then 0 else 1) else 3
theorem wErr_w {n w : Int} (h : inW w = false) : wErr n w = 3 := by simp [wErr, h]
theorem wErr_n {n w : Int} (h : inW w = true) (g : inN n = false) : wErr n w = 1 := by simp [wErr, h, g]
theorem wErr_0 {n w : Int} (h : inW w = true) (g : inN n = true) : wErr n w = 0 := by simp [wErr, h, g]

theorem isw_any (x : Int) (w : World) :
    Calls Tryd.prog 65 #[.int .i64 x] w fun e w' => e = .returned (.bool (inW x)) ∧ w = w' := by
  cases h0 : decide (0 ≤ x)
  all_goals
    go_enter Tryd.func65, Tryd.ntmps65
    go_wp2
    go_ret
    exact ⟨ret_bool (by simp [inW, h0]), rfl⟩
theorem until_any (a b : Int) (w : World) (h1 : -100 ≤ a) (h2 : a ≤ 100) (h3 : -100 ≤ b) (h4 : b ≤ 100) :
    Calls Tryd.prog 59 #[.int .i64 a, .int .i64 b] w fun e w' => e = .returned (.int .i64 ((b - a) % 7)) ∧ Below w.heap.size w w' := by
  have H := fun w => mod_pos (b - a) 7 w (inR_iff.2 (by omega)) (by decide) (by omega)
  generalize (b - a) % 7 = r at *
  go_enter Tryd.func59, Tryd.ntmps59
  go_wp2_with fail
  refine (H _).mono ?_
  rintro e w1 ⟨rfl, hb1⟩
  go_wp2_with fail
  go_ret
  exact ⟨rfl, hb1⟩
theorem check_any (n x : Int) (w : World) :
    Calls Tryd.prog 58 #[.int .i64 n, .int .i64 x] w fun e w' => e = .returned (.int .i64 (wErr n x)) ∧ w = w' := by
  cases hw : inW x
  · have H := fun w => isw_any x w
    rw [hw] at H
    have e := Lib.hid (wErr_w (n := n) hw)
    clear hw
    go_enter Tryd.func58, Tryd.ntmps58
    go_wp2_with (go_at_call 65; refine (H _).mono ?_; rintro e w' ⟨rfl, rfl⟩)
    go_ret
    exact ⟨ret_int e.out.symm, rfl⟩
  · have H := fun w => isw_any x w
    rw [hw] at H
    cases hn : inN n
    · have e := Lib.hid (wErr_n hw hn)
      have hn' : n < -1099511627776 ∨ 1099511627776 < n := by
        rcases Int.lt_or_le n (-1099511627776) with h | h
        · exact .inl h
        · rcases Int.lt_or_le 1099511627776 n with g | g
          · exact .inr g
          · rw [inN_iff.2 ⟨h, g⟩] at hn; cases hn
      clear hw hn
      rcases hn' with h | h
      · go_enter Tryd.func58, Tryd.ntmps58
        go_wp2_with (go_at_call 65; refine (H _).mono ?_; rintro e w' ⟨rfl, rfl⟩)
        go_ret
        exact ⟨ret_int e.out.symm, rfl⟩
      · have h2 : ¬ n < -1099511627776 := by omega
        go_enter Tryd.func58, Tryd.ntmps58
        go_wp2_with (go_at_call 65; refine (H _).mono ?_; rintro e w' ⟨rfl, rfl⟩)
        go_ret
        exact ⟨ret_int e.out.symm, rfl⟩
    · have e := Lib.hid (wErr_0 hw hn)
      obtain ⟨h1, h2⟩ := inN_iff.1 hn
      clear hw hn
      go_enter Tryd.func58, Tryd.ntmps58
      go_wp2_with (go_at_call 65; refine (H _).mono ?_; rintro e w' ⟨rfl, rfl⟩)
      go_ret
      exact ⟨ret_int e.out.symm, rfl⟩
end Go.Proofs.YtclnpnkjldddcaaDoor
