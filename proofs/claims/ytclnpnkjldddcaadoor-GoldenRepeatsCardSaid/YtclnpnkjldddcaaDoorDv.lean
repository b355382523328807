/- The contract of Div: called with any two numbers (the first one a 64-bit integer), it returns the floored quotient and true where there is one, else 0 and false; what was in memory is as it was. -/
import Derived.Test.YtclnpnkjldddcaaDoorMo
namespace Go.Proofs.YtclnpnkjldddcaaDoor
open Go.RowKit


theorem clo25 (n a b : Int) (p q : Addr) (w : World) (hp : w.cell? p = some (.int .i64 a)) (hq : w.cell? q = some (.int .i64 b)) :
    Calls Tryd.prog 56 #[.int .i64 n, .pointer (some p), .pointer (some q)] w fun e w' => e = .returned (.bool (fits a b)) ∧ w = w' := by
  go_enter Tryd.func56, Tryd.ntmps56
  go_wp2_with (go_at_call 55; refine (fits_any _ _ _).mono ?_; rintro e w' ⟨rfl, rfl⟩)
  go_ret
  exact ⟨rfl, rfl⟩

theorem chk25 (n a b : Int) (p q : Addr) (w : World) (hp : w.cell? p = some (.int .i64 a)) (hq : w.cell? q = some (.int .i64 b)) :
    Calls Tryd.prog 53 #[.int .i64 n, .func (Fn.func 56) #[] #[.pointer (some p), .pointer (some q)]] w fun e w' => e = .returned (.tuple #[.int .i64 (ifb (fits a b) n), .bool (fits a b)]) ∧ w = w' := by
  cases hf : fits a b
  all_goals
    have H := clo25 n a b p q w hp hq
    rw [hf] at H
    go_enter Tryd.func53, Tryd.ntmps53
    go_wp2_with (go_at_call 56; refine H.mono ?_; rintro e w' ⟨rfl, rfl⟩)
    go_ret2
    exact ⟨rfl, rfl⟩

theorem div_yes (a b : Int) (w : World) (hb : ¬ b = 0) (hr : rup a b = true) :
    Calls Tryd.prog 43 #[.int .i64 a, .int .i64 b] w fun e w' => e = .returned (.tuple #[.int .i64 (ifb (fits a b) (wrap64 (wrap64 (a.tdiv b) - 1))), .bool (fits a b)]) ∧ Below w.heap.size w w' := by
  have hmf : ∀ (fn : Fn) (first cap : Array Value) (w : World), (Instr.makeFunc fn first cap).run Tryd.prog w = .ok (.func fn first cap) w := fun _ _ _ _ => rfl
  go_enter Tryd.func43, Tryd.ntmps43
  go_wp2_with (first | (go_at_call 52; refine (rup_any _ _ _ hb).mono ?_; rintro e w' ⟨rfl, rfl⟩) | (go_at_call 53; refine (chk25 _ a b _ _ _ (by go_simp) (by go_simp)).mono ?_; rintro e w' ⟨rfl, rfl⟩))
  go_ret2
  exact ⟨rfl, ((Below.refl _ _).alloc (Nat.le_refl _) _).alloc (by simp) _⟩

theorem div_no (a b : Int) (w : World) (hb : ¬ b = 0) (hr : rup a b = false) :
    Calls Tryd.prog 43 #[.int .i64 a, .int .i64 b] w fun e w' => e = .returned (.tuple #[.int .i64 (ifb (fits a b) (wrap64 (a.tdiv b))), .bool (fits a b)]) ∧ Below w.heap.size w w' := by
  have hmf : ∀ (fn : Fn) (first cap : Array Value) (w : World), (Instr.makeFunc fn first cap).run Tryd.prog w = .ok (.func fn first cap) w := fun _ _ _ _ => rfl
  have H := rup_any a b ((w.alloc (.cells #[.int .i64 a] 3)).alloc (.cells #[.int .i64 b] 3)) hb
  rw [hr] at H
  go_enter Tryd.func43, Tryd.ntmps43
  go_wp2_with (first | (go_at_call 52; refine H.mono ?_; rintro e w' ⟨rfl, rfl⟩) | (go_at_call 53; refine (chk25 _ a b _ _ _ (by go_simp) (by go_simp)).mono ?_; rintro e w' ⟨rfl, rfl⟩))
  go_ret2
  exact ⟨rfl, ((Below.refl _ _).alloc (Nat.le_refl _) _).alloc (by simp) _⟩

theorem div_zero (a : Int) (w : World) :
    Calls Tryd.prog 43 #[.int .i64 a, .int .i64 0] w fun e w' => e = .returned (.tuple #[.int .i64 0, .bool false]) ∧ Below w.heap.size w w' := by
  go_enter Tryd.func43, Tryd.ntmps43
  go_wp2
  go_ret2
  exact ⟨rfl, ((Below.refl _ _).alloc (Nat.le_refl _) _).alloc (by simp) _⟩

theorem div_any (a b : Int) (w : World) (ha : inR a = true) :
    Calls Tryd.prog 43 #[.int .i64 a, .int .i64 b] w fun e w' => e = .returned (.tuple #[.int .i64 (ifb (spl a b) (a.fdiv b)), .bool (spl a b)]) ∧ Below w.heap.size w w' := by
  by_cases hb : b = 0
  · subst hb
    have e : spl a 0 = false := by simp [spl]
    rw [e]
    exact div_zero a w
  · have e : spl a b = fits a b := by simp [spl, hb]
    rw [e]
    cases hr : rup a b
    · refine (div_no a b w hb hr).mono ?_
      rintro e w' ⟨rfl, h⟩
      refine ⟨?_, h⟩
      cases hf : fits a b
      · exact ret_ib (by rw [ifb_false, ifb_false]) rfl
      · exact ret_ib (by rw [ifb_true, ifb_true, div_val_no a b ha hb hf hr]) rfl
    · refine (div_yes a b w hb hr).mono ?_
      rintro e w' ⟨rfl, h⟩
      refine ⟨?_, h⟩
      cases hf : fits a b
      · exact ret_ib (by rw [ifb_false, ifb_false]) rfl
      · exact ret_ib (by rw [ifb_true, ifb_true, div_val_yes a b ha hb hr]) rfl
/-- A positive divisor: the quotient of the Euclidean division, and true. -/
theorem div_pos (a b : Int) (w : World) (ha : inR a = true) (hb : 0 < b) :
    Calls Tryd.prog 43 #[.int .i64 a, .int .i64 b] w fun e w' => e = .returned (.tuple #[.int .i64 (a / b), .bool true]) ∧ Below w.heap.size w w' := by
  have H := div_any a b w ha
  rw [spl_pos a b hb, ifb_true, Int.fdiv_eq_ediv_of_nonneg _ (by omega)] at H
  exact H
end Go.Proofs.YtclnpnkjldddcaaDoor
