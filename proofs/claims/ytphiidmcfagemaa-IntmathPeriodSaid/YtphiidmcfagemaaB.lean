/- The contract of Div: called with any two numbers (the first one a 64-bit integer), it returns the floored quotient and true where there is one, else 0 and false; what was in memory is as it was. -/
import Derived.Test.YtphiidmcfagemaaA
namespace Go.Proofs.Ytphiidmcfagemaa
open Go.RowKit


theorem clo25 (n a b : Int) (p q : Addr) (w : World) (hp : w.cell? p = some (.int .i64 a)) (hq : w.cell? q = some (.int .i64 b)) :
    Calls Try.prog 25 #[.int .i64 n, .pointer (some p), .pointer (some q)] w fun e w' => e = .returned (.bool (fits a b)) ∧ w = w' := by
  go_enter Try.func25, Try.ntmps25
  go_wp2_with (go_at_call 26; refine (fits_any _ _ _).mono ?_; rintro e w' ⟨rfl, rfl⟩)
  go_ret
  exact ⟨rfl, rfl⟩

theorem chk25 (n a b : Int) (p q : Addr) (w : World) (hp : w.cell? p = some (.int .i64 a)) (hq : w.cell? q = some (.int .i64 b)) :
    Calls Try.prog 24 #[.int .i64 n, .func (Fn.func 25) #[] #[.pointer (some p), .pointer (some q)]] w fun e w' => e = .returned (.tuple #[.int .i64 (ifb (fits a b) n), .bool (fits a b)]) ∧ w = w' := by
  cases hf : fits a b
  all_goals
    have H := clo25 n a b p q w hp hq
    rw [hf] at H
    go_enter Try.func24, Try.ntmps24
    go_wp2_with (go_at_call 25; refine H.mono ?_; rintro e w' ⟨rfl, rfl⟩)
    go_ret2
    exact ⟨rfl, rfl⟩

theorem div_yes (a b : Int) (w : World) (hb : ¬ b = 0) (hr : rup a b = true) :
    Calls Try.prog 11 #[.int .i64 a, .int .i64 b] w fun e w' => e = .returned (.tuple #[.int .i64 (ifb (fits a b) (wrap64 (wrap64 (a.tdiv b) - 1))), .bool (fits a b)]) ∧ Below w.heap.size w w' := by
  have hmf : ∀ (fn : Fn) (first cap : Array Value) (w : World), (Instr.makeFunc fn first cap).run Try.prog w = .ok (.func fn first cap) w := fun _ _ _ _ => rfl
  go_enter Try.func11, Try.ntmps11
  go_wp2_with (first | (go_at_call 23; refine (rup_any _ _ _ hb).mono ?_; rintro e w' ⟨rfl, rfl⟩) | (go_at_call 24; refine (chk25 _ a b _ _ _ (by go_simp) (by go_simp)).mono ?_; rintro e w' ⟨rfl, rfl⟩))
  go_ret2
  exact ⟨rfl, ((Below.refl _ _).alloc (Nat.le_refl _) _).alloc (by simp) _⟩

theorem div_no (a b : Int) (w : World) (hb : ¬ b = 0) (hr : rup a b = false) :
    Calls Try.prog 11 #[.int .i64 a, .int .i64 b] w fun e w' => e = .returned (.tuple #[.int .i64 (ifb (fits a b) (wrap64 (a.tdiv b))), .bool (fits a b)]) ∧ Below w.heap.size w w' := by
  have hmf : ∀ (fn : Fn) (first cap : Array Value) (w : World), (Instr.makeFunc fn first cap).run Try.prog w = .ok (.func fn first cap) w := fun _ _ _ _ => rfl
  have H := rup_any a b ((w.alloc (.cells #[.int .i64 a] 3)).alloc (.cells #[.int .i64 b] 3)) hb
  rw [hr] at H
  go_enter Try.func11, Try.ntmps11
  go_wp2_with (first | (go_at_call 23; refine H.mono ?_; rintro e w' ⟨rfl, rfl⟩) | (go_at_call 24; refine (chk25 _ a b _ _ _ (by go_simp) (by go_simp)).mono ?_; rintro e w' ⟨rfl, rfl⟩))
  go_ret2
  exact ⟨rfl, ((Below.refl _ _).alloc (Nat.le_refl _) _).alloc (by simp) _⟩

theorem div_zero (a : Int) (w : World) :
    Calls Try.prog 11 #[.int .i64 a, .int .i64 0] w fun e w' => e = .returned (.tuple #[.int .i64 0, .bool false]) ∧ Below w.heap.size w w' := by
  go_enter Try.func11, Try.ntmps11
  go_wp2
  go_ret2
  exact ⟨rfl, ((Below.refl _ _).alloc (Nat.le_refl _) _).alloc (by simp) _⟩

theorem div_any (a b : Int) (w : World) (ha : inR a = true) :
    Calls Try.prog 11 #[.int .i64 a, .int .i64 b] w fun e w' => e = .returned (.tuple #[.int .i64 (ifb (spl a b) (a.fdiv b)), .bool (spl a b)]) ∧ Below w.heap.size w w' := by
  by_cases hb : b = 0
  · subst hb
    have e : spl a 0 = false := by simp [spl]
    rw [e]
    exact div_zero a w
  · have e : spl a b = fits a b := by simp [spl, hb]
    rw [e]
    cases hr : rup a b
    · refine (div_no a b w hb hr).mono ?_
      rintro e w' ⟨rfl, h⟩
      refine ⟨?_, h⟩
      cases hf : fits a b
      · exact ret_ib (by rw [ifb_false, ifb_false]) rfl
      · exact ret_ib (by rw [ifb_true, ifb_true, div_val_no a b ha hb hf hr]) rfl
    · refine (div_yes a b w hb hr).mono ?_
      rintro e w' ⟨rfl, h⟩
      refine ⟨?_, h⟩
      cases hf : fits a b
      · exact ret_ib (by rw [ifb_false, ifb_false]) rfl
      · exact ret_ib (by rw [ifb_true, ifb_true, div_val_yes a b ha hb hr]) rfl
end Go.Proofs.Ytphiidmcfagemaa
