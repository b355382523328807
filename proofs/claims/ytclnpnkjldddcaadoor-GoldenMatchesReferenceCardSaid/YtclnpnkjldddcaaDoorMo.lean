/- The contract of intmath's Mod: called with any two 64-bit integers, it returns the floored remainder and true where the floored quotient is a 64-bit integer, else 0 and false; what was in memory is as it was. -/
import Derived.Test.YtclnpnkjldddcaaDoorMe
import Derived.Test.YtclnpnkjldddcaaDoorN
namespace Go.Proofs.YtclnpnkjldddcaaDoor
open Go.RowKit

theorem ret_ib {a b : Int} {c d : Bool} (h : a = b) (g : c = d) : Ending.returned (.tuple #[.int .i64 a, .bool c]) = .returned (.tuple #[.int .i64 b, .bool d]) := by rw [h, g]

theorem rup_any (a b : Int) (w : World) (hb : ¬ b = 0) :
    Calls Tryd.prog 52 #[.int .i64 a, .int .i64 b] w fun e w' => e = .returned (.bool (rup a b)) ∧ w = w' := by
  cases h1 : (a.tmod b != 0)
  all_goals
    go_enter Tryd.func52, Tryd.ntmps52
    go_wp2
    go_ret
    exact ⟨ret_bool (by simp only [rup, h1]; simp [bne]), rfl⟩

theorem fits_any (a b : Int) (w : World) :
    Calls Tryd.prog 55 #[.int .i64 a, .int .i64 b] w fun e w' => e = .returned (.bool (fits a b)) ∧ w = w' := by
  cases h1 : (a != -9223372036854775808)
  all_goals
    go_enter Tryd.func55, Tryd.ntmps55
    go_wp2
    go_ret
    exact ⟨ret_bool (by simp only [fits, h1]; simp [bne]), rfl⟩
theorem clo27 (n a b : Int) (p q : Addr) (w : World) (hp : w.cell? p = some (.int .i64 a)) (hq : w.cell? q = some (.int .i64 b)) :
    Calls Tryd.prog 54 #[.int .i64 n, .pointer (some p), .pointer (some q)] w fun e w' => e = .returned (.bool (fits a b)) ∧ w = w' := by
  go_enter Tryd.func54, Tryd.ntmps54
  go_wp2_with (go_at_call 55; refine (fits_any _ _ _).mono ?_; rintro e w' ⟨rfl, rfl⟩)
  go_ret
  exact ⟨rfl, rfl⟩

theorem chk27 (n a b : Int) (p q : Addr) (w : World) (hp : w.cell? p = some (.int .i64 a)) (hq : w.cell? q = some (.int .i64 b)) :
    Calls Tryd.prog 53 #[.int .i64 n, .func (Fn.func 54) #[] #[.pointer (some p), .pointer (some q)]] w fun e w' => e = .returned (.tuple #[.int .i64 (ifb (fits a b) n), .bool (fits a b)]) ∧ w = w' := by
  cases hf : fits a b
  all_goals
    have H := clo27 n a b p q w hp hq
    rw [hf] at H
    go_enter Tryd.func53, Tryd.ntmps53
    go_wp2_with (go_at_call 54; refine H.mono ?_; rintro e w' ⟨rfl, rfl⟩)
    go_ret2
    exact ⟨rfl, rfl⟩

theorem mod_yes (a b : Int) (w : World) (hb : ¬ b = 0) (hr : rup a b = true) :
    Calls Tryd.prog 42 #[.int .i64 a, .int .i64 b] w fun e w' => e = .returned (.tuple #[.int .i64 (ifb (fits a b) (wrap64 (a.tmod b + b))), .bool (fits a b)]) ∧ Below w.heap.size w w' := by
  have hmf : ∀ (fn : Fn) (first cap : Array Value) (w : World), (Instr.makeFunc fn first cap).run Tryd.prog w = .ok (.func fn first cap) w := fun _ _ _ _ => rfl
  go_enter Tryd.func42, Tryd.ntmps42
  go_wp2_with (first | (go_at_call 52; refine (rup_any _ _ _ hb).mono ?_; rintro e w' ⟨rfl, rfl⟩) | (go_at_call 53; refine (chk27 _ a b _ _ _ (by go_simp) (by go_simp)).mono ?_; rintro e w' ⟨rfl, rfl⟩))
  go_ret2
  exact ⟨rfl, ((Below.refl _ _).alloc (Nat.le_refl _) _).alloc (by simp) _⟩

theorem mod_no (a b : Int) (w : World) (hb : ¬ b = 0) (hr : rup a b = false) :
    Calls Tryd.prog 42 #[.int .i64 a, .int .i64 b] w fun e w' => e = .returned (.tuple #[.int .i64 (ifb (fits a b) (a.tmod b)), .bool (fits a b)]) ∧ Below w.heap.size w w' := by
  have hmf : ∀ (fn : Fn) (first cap : Array Value) (w : World), (Instr.makeFunc fn first cap).run Tryd.prog w = .ok (.func fn first cap) w := fun _ _ _ _ => rfl
  have H := rup_any a b ((w.alloc (.cells #[.int .i64 a] 3)).alloc (.cells #[.int .i64 b] 3)) hb
  rw [hr] at H
  go_enter Tryd.func42, Tryd.ntmps42
  go_wp2_with (first | (go_at_call 52; refine H.mono ?_; rintro e w' ⟨rfl, rfl⟩) | (go_at_call 53; refine (chk27 _ a b _ _ _ (by go_simp) (by go_simp)).mono ?_; rintro e w' ⟨rfl, rfl⟩))
  go_ret2
  exact ⟨rfl, ((Below.refl _ _).alloc (Nat.le_refl _) _).alloc (by simp) _⟩

theorem mod_zero (a : Int) (w : World) :
    Calls Tryd.prog 42 #[.int .i64 a, .int .i64 0] w fun e w' => e = .returned (.tuple #[.int .i64 0, .bool false]) ∧ Below w.heap.size w w' := by
  go_enter Tryd.func42, Tryd.ntmps42
  go_wp2
  go_ret2
  exact ⟨rfl, ((Below.refl _ _).alloc (Nat.le_refl _) _).alloc (by simp) _⟩

theorem mod_any (a b : Int) (w : World) (ha : inR a = true) (hbr : inR b = true) :
    Calls Tryd.prog 42 #[.int .i64 a, .int .i64 b] w fun e w' => e = .returned (.tuple #[.int .i64 (ifb (spl a b) (a.fmod b)), .bool (spl a b)]) ∧ Below w.heap.size w w' := by
  by_cases hb : b = 0
  · subst hb
    have e : spl a 0 = false := by simp [spl]
    rw [e]
    exact mod_zero a w
  · have e : spl a b = fits a b := by simp [spl, hb]
    rw [e]
    cases hr : rup a b
    · refine (mod_no a b w hb hr).mono ?_
      rintro e w' ⟨rfl, h⟩
      refine ⟨?_, h⟩
      cases hf : fits a b
      · exact ret_ib (by rw [ifb_false, ifb_false]) rfl
      · exact ret_ib (by rw [ifb_true, ifb_true, mod_val_no a b hb hr]) rfl
    · refine (mod_yes a b w hb hr).mono ?_
      rintro e w' ⟨rfl, h⟩
      refine ⟨?_, h⟩
      cases hf : fits a b
      · exact ret_ib (by rw [ifb_false, ifb_false]) rfl
      · exact ret_ib (by rw [ifb_true, ifb_true, mod_val_yes a b ha hbr hb hr]) rfl


theorem spl_pos (a b : Int) (hb : 0 < b) : spl a b = true := by
  have h1 : b ≠ 0 := by omega
  have h2 : b ≠ -1 := by omega
  simp [spl, fits, h1, h2]
/-- A positive divisor: the remainder of the Euclidean division, and true. -/
theorem mod_pos (a b : Int) (w : World) (ha : inR a = true) (hbr : inR b = true) (hb : 0 < b) :
    Calls Tryd.prog 42 #[.int .i64 a, .int .i64 b] w fun e w' => e = .returned (.tuple #[.int .i64 (a % b), .bool true]) ∧ Below w.heap.size w w' := by
  have H := mod_any a b w ha hbr
  rw [spl_pos a b hb, ifb_true, Int.fmod_eq_emod_of_nonneg _ (by omega)] at H
  exact H
end Go.Proofs.YtclnpnkjldddcaaDoor
