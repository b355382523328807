/- What earlier stages proved: Wo Wa Wb. -/
import Derived.Test.YtnfeihbkemgecaaDoorKa
namespace Go.Proofs.YtnfeihbkemgecaaDoor
open Go.RowKit

theorem of_any (n : Int) (w : World) (hn : inR n = true) :
    Calls Tryd.prog 45 #[.int .i64 n] w fun e w' => e = .returned (.int .i64 (n % 7)) ∧ Below w.heap.size w w' := by
  have H := fun w => mod_pos n 7 w hn (by decide) (by omega)
  clear hn
  generalize n % 7 = r at *
  go_enter Tryd.func45, Tryd.ntmps45
  go_wp2_with fail
  refine (H _).mono ?_
  rintro e w1 ⟨rfl, hb1⟩
  go_wp2_with fail
  go_ret
  exact ⟨rfl, hb1⟩
theorem rof_any (n : Int) (w : World) (hn : inR n = true) :
    Calls Tryd.prog 11 #[.int .i64 n] w fun e w' => e = .returned (.int .i64 (n % 7)) ∧ w = w' := by
  have H := fun w => rmod_any n 7 w hn (by decide) (spl_pos n 7 (by omega))
  rw [Int.fmod_eq_emod_of_nonneg _ (by omega)] at H
  clear hn
  generalize n % 7 = r at *
  go_enter Tryd.func11, Tryd.ntmps11
  go_wp2_with (go_at_call 31; refine (H _).mono ?_; rintro e w' ⟨rfl, rfl⟩)
  go_ret
  exact ⟨rfl, rfl⟩
end Go.Proofs.YtnfeihbkemgecaaDoor

namespace Go.Proofs.YtnfeihbkemgecaaDoor
open Go.RowKit

def inW (w : Int) : Bool := decide (0 ≤ w) && decide (w ≤ 6)
theorem inW_iff {w : Int} : inW w = true ↔ 0 ≤ w ∧ w ≤ 6 := by simp [inW]
def inN (n : Int) : Bool := decide (-1099511627776 ≤ n) && decide (n ≤ 1099511627776)
theorem inN_iff {n : Int} : inN n = true ↔ -1099511627776 ≤ n ∧ n ≤ 1099511627776 := by simp [inN]
/-- The error of a day and a day of the week. -/
def wErr (n w : Int) : Int := if inW w = true then (if inN n = true then 0 else 1) else 3
theorem wErr_w {n w : Int} (h : inW w = false) : wErr n w = 3 := by simp [wErr, h]
theorem wErr_n {n w : Int} (h : inW w = true) (g : inN n = false) : wErr n w = 1 := by simp [wErr, h, g]
theorem wErr_0 {n w : Int} (h : inW w = true) (g : inN n = true) : wErr n w = 0 := by simp [wErr, h, g]

theorem isw_any (x : Int) (w : World) :
    Calls Tryd.prog 58 #[.int .i64 x] w fun e w' => e = .returned (.bool (inW x)) ∧ w = w' := by
  cases h0 : decide (0 ≤ x)
  all_goals
    go_enter Tryd.func58, Tryd.ntmps58
    go_wp2
    go_ret
    exact ⟨ret_bool (by simp [inW, h0]), rfl⟩
theorem until_any (a b : Int) (w : World) (h1 : -100 ≤ a) (h2 : a ≤ 100) (h3 : -100 ≤ b) (h4 : b ≤ 100) :
    Calls Tryd.prog 44 #[.int .i64 a, .int .i64 b] w fun e w' => e = .returned (.int .i64 ((b - a) % 7)) ∧ Below w.heap.size w w' := by
  have H := fun w => mod_pos (b - a) 7 w (inR_iff.2 (by omega)) (by decide) (by omega)
  generalize (b - a) % 7 = r at *
  go_enter Tryd.func44, Tryd.ntmps44
  go_wp2_with fail
  refine (H _).mono ?_
  rintro e w1 ⟨rfl, hb1⟩
  go_wp2_with fail
  go_ret
  exact ⟨rfl, hb1⟩
theorem check_any (n x : Int) (w : World) :
    Calls Tryd.prog 43 #[.int .i64 n, .int .i64 x] w fun e w' => e = .returned (.int .i64 (wErr n x)) ∧ w = w' := by
  cases hw : inW x
  · have H := fun w => isw_any x w
    rw [hw] at H
    have e := Lib.hid (wErr_w (n := n) hw)
    clear hw
    go_enter Tryd.func43, Tryd.ntmps43
    go_wp2_with (go_at_call 58; refine (H _).mono ?_; rintro e w' ⟨rfl, rfl⟩)
    go_ret
    exact ⟨ret_int e.out.symm, rfl⟩
  · have H := fun w => isw_any x w
    rw [hw] at H
    cases hn : inN n
    · have e := Lib.hid (wErr_n hw hn)
      have hn' : n < -1099511627776 ∨ 1099511627776 < n := by
        rcases Int.lt_or_le n (-1099511627776) with h | h
        · exact .inl h
        · rcases Int.lt_or_le 1099511627776 n with g | g
          · exact .inr g
          · rw [inN_iff.2 ⟨h, g⟩] at hn; cases hn
      clear hw hn
      rcases hn' with h | h
      · go_enter Tryd.func43, Tryd.ntmps43
        go_wp2_with (go_at_call 58; refine (H _).mono ?_; rintro e w' ⟨rfl, rfl⟩)
        go_ret
        exact ⟨ret_int e.out.symm, rfl⟩
      · have h2 : ¬ n < -1099511627776 := by omega
        go_enter Tryd.func43, Tryd.ntmps43
        go_wp2_with (go_at_call 58; refine (H _).mono ?_; rintro e w' ⟨rfl, rfl⟩)
        go_ret
        exact ⟨ret_int e.out.symm, rfl⟩
    · have e := Lib.hid (wErr_0 hw hn)
      obtain ⟨h1, h2⟩ := inN_iff.1 hn
      clear hw hn
      go_enter Tryd.func43, Tryd.ntmps43
      go_wp2_with (go_at_call 58; refine (H _).mono ?_; rintro e w' ⟨rfl, rfl⟩)
      go_ret
      exact ⟨ret_int e.out.symm, rfl⟩
end Go.Proofs.YtnfeihbkemgecaaDoor

namespace Go.Proofs.YtnfeihbkemgecaaDoor
open Go.RowKit

def aft (n w : Int) : Int := n + (w - n % 7) % 7
def wOk (n w : Int) : Bool := inW w && inN n
theorem wErr_ok {n w : Int} (h : wOk n w = true) : wErr n w = 0 := by
  simp only [wOk, Bool.and_eq_true] at h; exact wErr_0 h.1 h.2
theorem wOk_iff {n w : Int} : wOk n w = true ↔ (0 ≤ w ∧ w ≤ 6) ∧ (-1099511627776 ≤ n ∧ n ≤ 1099511627776) := by
  rw [wOk, Bool.and_eq_true, inW_iff, inN_iff]
theorem aft_yes (n x : Int) (w : World) (h : wOk n x = true) :
    Calls Tryd.prog 26 #[.int .i64 n, .int .i64 x] w fun e w' => e = .returned (.tuple #[.int .i64 (aft n x), .int .i64 0]) ∧ Below w.heap.size w w' := by
  have HC := fun w => check_any n x w
  rw [wErr_ok h] at HC
  obtain ⟨⟨x1, x2⟩, n1, n2⟩ := wOk_iff.1 h
  have HO := fun w => of_any n w (inR_iff.2 (by omega))
  have HU := fun w => until_any (n % 7) x w (by omega) (by omega) (by omega) (by omega)
  have hv := Lib.hid (show n + (x - n % 7) % 7 = aft n x from rfl)
  have r1 : 0 ≤ (x - n % 7) % 7 := by omega
  have r2 : (x - n % 7) % 7 ≤ 6 := by omega
  clear h
  generalize (x - n % 7) % 7 = r at *
  generalize n % 7 = q at *
  go_enter Tryd.func26, Tryd.ntmps26
  go_wp2_with fail
  refine (HC _).mono ?_
  rintro e w' ⟨rfl, rfl⟩
  go_wp2_with fail
  refine (HO _).mono ?_
  rintro e w1 ⟨rfl, hb1⟩
  go_wp2_with fail
  refine (HU _).mono ?_
  rintro e w2 ⟨rfl, hb2⟩
  go_wp2_with fail
  go_ret2
  exact ⟨ret_ii hv.out rfl, hb1.trans (hb2.mono hb1.size)⟩
end Go.Proofs.YtnfeihbkemgecaaDoor
