/- What earlier stages proved: M N Me Ra Cal Mo Dv Co. -/
import Derived.IntWalk
import Derived.Test.YtoockmlobpegcaaDoorRows
import Derived.WalkKit
import Derived.WalkLawsBesides
import Derived.Lib.Hide
import Derived.Below
import Derived.Deep.QuietTactic
import Derived.BigQuiet
import Derived.Deep.RegionWith
import Derived.Laws.Rows
namespace Go.Proofs.YtoockmlobpegcaaDoor

def inR (x : Int) : Bool := decide (-9223372036854775808 ≤ x) && decide (x ≤ 9223372036854775807)
def rup (a b : Int) : Bool := a.tmod b != 0 && (decide (a < 0) != decide (b < 0))
def fits (a b : Int) : Bool := a != -9223372036854775808 || b != -1
def spl (a b : Int) : Bool := b != 0 && fits a b
def ifb (c : Bool) (n : Int) : Int := match c with | true => n | false => 0

theorem ifb_false (n : Int) : ifb false n = 0 := rfl
theorem ifb_true (n : Int) : ifb true n = n := rfl

theorem inR_iff {x : Int} : inR x = true ↔ -9223372036854775808 ≤ x ∧ x ≤ 9223372036854775807 := by simp [inR]

theorem tm_eq (a b : Int) : b * a.tdiv b + a.tmod b = a := Int.mul_tdiv_add_tmod a b
theorem fm_eq (a b : Int) : b * a.fdiv b + a.fmod b = a := Int.mul_fdiv_add_fmod a b

theorem tm_bd (a b : Int) (hb : b ≠ 0) : (0 ≤ a → 0 ≤ a.tmod b ∧ a.tmod b < b.natAbs) ∧ (a < 0 → a.tmod b ≤ 0 ∧ -(b.natAbs : Int) < a.tmod b) := by
  constructor
  · intro h
    refine ⟨Int.tmod_nonneg b h, ?_⟩
    have := Int.tmod_lt_of_pos
    have h1 : a.tmod b = a.tmod b.natAbs := by
      rcases Int.natAbs_eq b with e | e
      · rw [← e]
      · conv => lhs; rw [e]
        rw [Int.tmod_neg]
    rw [h1]
    exact Int.tmod_lt_of_pos _ (by omega)
  · intro h
    have h1 : a.tmod b = a.tmod b.natAbs := by
      rcases Int.natAbs_eq b with e | e
      · rw [← e]
      · conv => lhs; rw [e]
        rw [Int.tmod_neg]
    have h2 : a.tmod b.natAbs = -((-a).tmod b.natAbs) := by rw [Int.neg_tmod]; omega
    have h3 := Int.tmod_nonneg (b.natAbs : Int) (a := -a) (by omega)
    have h4 := Int.tmod_lt_of_pos (-a) (b := (b.natAbs : Int)) (by omega)
    rw [h1, h2]
    omega

theorem fdiv_unique (a b q r : Int) (h : b * q + r = a) (hr : (0 < b ∧ 0 ≤ r ∧ r < b) ∨ (b < 0 ∧ r ≤ 0 ∧ b < r)) : a.fdiv b = q ∧ a.fmod b = r := by
  have e : a.fdiv b = q := by
    rcases hr with ⟨h0, h1, h2⟩ | ⟨h0, h1, h2⟩
    · rw [Int.fdiv_eq_ediv_of_nonneg _ (by omega), ← h, Int.add_comm, Int.add_mul_ediv_left _ _ (by omega), Int.ediv_eq_zero_of_lt h1 h2]; omega
    · have : a.fdiv b = (-a).fdiv (-b) := by rw [Int.neg_fdiv_neg]
      rw [this, Int.fdiv_eq_ediv_of_nonneg _ (by omega)]
      have h' : -a = -r + (-b) * q := by rw [← h, Int.neg_mul]; omega
      rw [h', Int.add_mul_ediv_left _ _ (by omega), Int.ediv_eq_zero_of_lt (by omega) (by omega)]; omega
  refine ⟨e, ?_⟩
  have := fm_eq a b
  rw [e] at this
  omega

theorem fm_bd (a b : Int) (hb : b ≠ 0) : (0 < b ∧ 0 ≤ a.fmod b ∧ a.fmod b < b) ∨ (b < 0 ∧ a.fmod b ≤ 0 ∧ b < a.fmod b) := by
  rcases Int.lt_trichotomy b 0 with h | h | h
  · right
    have h1 : a.fmod b = -((-a).fmod (-b)) := by rw [Int.neg_fmod_neg]; omega
    have h2 := Int.fmod_nonneg_of_pos (-a) (b := -b) (by omega)
    have h3 := Int.fmod_lt_of_pos (-a) (b := -b) (by omega)
    omega
  · exact absurd h hb
  · left
    exact ⟨h, Int.fmod_nonneg_of_pos a h, Int.fmod_lt_of_pos a h⟩

theorem rup_true (a b : Int) (hb : b ≠ 0) (h : rup a b = true) : a.fdiv b = a.tdiv b - 1 ∧ a.fmod b = a.tmod b + b := by
  have e := tm_eq a b
  obtain ⟨h1, h2⟩ := tm_bd a b hb
  refine fdiv_unique a b _ _ (by rw [Int.mul_sub, Int.mul_one]; omega) ?_
  simp [rup] at h
  by_cases ha : a < 0 <;> by_cases hb' : b < 0 <;> simp [ha, hb'] at h <;> omega

theorem rup_false (a b : Int) (hb : b ≠ 0) (h : rup a b = false) : a.fdiv b = a.tdiv b ∧ a.fmod b = a.tmod b := by
  have e := tm_eq a b
  obtain ⟨h1, h2⟩ := tm_bd a b hb
  refine fdiv_unique a b _ _ e ?_
  simp [rup] at h
  by_cases ha : a < 0 <;> by_cases hb' : b < 0 <;> simp [ha, hb'] at h <;> omega
end Go.Proofs.YtoockmlobpegcaaDoor

namespace Go.Proofs.YtoockmlobpegcaaDoor
open Go.RowKit

theorem fits_iff {a b : Int} : fits a b = true ↔ ¬ (a = -9223372036854775808 ∧ b = -1) := by
  simp [fits]; omega

theorem nat_tdiv_le (a b : Int) : (a.tdiv b).natAbs ≤ a.natAbs := by
  rw [Int.natAbs_tdiv]; exact Nat.div_le_self _ _

theorem tdiv_in (a b : Int) (ha : inR a = true) (hb : b ≠ 0) (hf : fits a b = true) : inR (a.tdiv b) = true := by
  rw [inR_iff] at ha ⊢
  rw [fits_iff] at hf
  have h1 := nat_tdiv_le a b
  have e := tm_eq a b
  obtain ⟨h2, h3⟩ := tm_bd a b hb
  by_cases h : a.tdiv b = 9223372036854775808
  · rw [h] at e
    omega
  · omega

theorem tdiv_dec (a b : Int) (ha : inR a = true) (hb : b ≠ 0) (hr : rup a b = true) : inR (a.tdiv b - 1) = true := by
  rw [inR_iff] at ha ⊢
  have h1 := nat_tdiv_le a b
  have e := tm_eq a b
  obtain ⟨h2, h3⟩ := tm_bd a b hb
  have hm : a.tmod b ≠ 0 := by
    intro h; simp [rup, h] at hr
  by_cases h : a.tdiv b = -9223372036854775808
  · rw [h] at e
    omega
  · by_cases h' : a.tdiv b = 9223372036854775808
    · rw [h'] at e
      omega
    · omega

theorem wrap64_of (x : Int) (h : inR x = true) : wrap64 x = x := IntWalk.wrap64_in x (inR_iff.1 h)

theorem fits_of_rup (a b : Int) (h : rup a b = true) : fits a b = true := by
  rw [fits_iff]
  rintro ⟨rfl, rfl⟩
  revert h
  decide

theorem div_val_yes (a b : Int) (ha : inR a = true) (hb : b ≠ 0) (hr : rup a b = true) : wrap64 (wrap64 (a.tdiv b) - 1) = a.fdiv b := by
  rw [wrap64_of _ (tdiv_in a b ha hb (fits_of_rup a b hr)), wrap64_of _ (tdiv_dec a b ha hb hr), (rup_true a b hb hr).1]
theorem div_val_no (a b : Int) (ha : inR a = true) (hb : b ≠ 0) (hf : fits a b = true) (hr : rup a b = false) : wrap64 (a.tdiv b) = a.fdiv b := by
  rw [wrap64_of _ (tdiv_in a b ha hb hf), (rup_false a b hb hr).1]
theorem mod_val_yes (a b : Int) (_ha : inR a = true) (hbr : inR b = true) (hb : b ≠ 0) (hr : rup a b = true) : wrap64 (a.tmod b + b) = a.fmod b := by
  have h := (rup_true a b hb hr).2
  have h2 := fm_bd a b hb
  rw [inR_iff] at hbr
  rw [← h, wrap64_of _ (inR_iff.2 (by omega))]
theorem mod_val_no (a b : Int) (hb : b ≠ 0) (hr : rup a b = false) : a.tmod b = a.fmod b := (rup_false a b hb hr).2.symm

end Go.Proofs.YtoockmlobpegcaaDoor

namespace Go.Proofs.YtoockmlobpegcaaDoor
open Go.RowKit

theorem ret_int {a b : Int} (h : a = b) : Ending.returned (.int .i64 a) = .returned (.int .i64 b) := by rw [h]
theorem ret_bool {a b : Bool} (h : a = b) : Ending.returned (.bool a) = .returned (.bool b) := by rw [h]
def inY (y : Int) : Bool := decide (1 ≤ y) && decide (y ≤ 1000000000)
theorem inY_iff {y : Int} : inY y = true ↔ 1 ≤ y ∧ y ≤ 1000000000 := by simp [inY]
theorem below_dn {B : Nat} {a w : World} (h : Below B a w) (n : Nat) : Below B a (w.drewN n) := ⟨h.os, h.tape, h.output, h.size, h.block⟩

theorem below_on {W w w' : World} (h : Below W.heap.size W w) (hb : Below w.heap.size w w') : Below W.heap.size W w' := h.trans (hb.mono h.size)
end Go.Proofs.YtoockmlobpegcaaDoor

namespace Go.Proofs.YtoockmlobpegcaaDoor
open Go.RowKit

theorem rdiv_yes (a b : Int) (w : World) (hb : ¬ b = 0) (h1 : (wrap64 (wrap64 (a.tdiv b) * b) != a) = true) (h2 : (!(decide (a < 0) == decide (b < 0))) = true) :
    Calls Tryd.prog 26 #[.int .i64 a, .int .i64 b] w fun e w' => e = .returned (.int .i64 (wrap64 (wrap64 (a.tdiv b) - 1))) ∧ w = w' := by
  go_enter Tryd.func26, Tryd.ntmps26
  go_wp2
  go_ret
  exact ⟨rfl, rfl⟩
theorem rdiv_no1 (a b : Int) (w : World) (hb : ¬ b = 0) (h1 : (wrap64 (wrap64 (a.tdiv b) * b) != a) = false) :
    Calls Tryd.prog 26 #[.int .i64 a, .int .i64 b] w fun e w' => e = .returned (.int .i64 (wrap64 (a.tdiv b))) ∧ w = w' := by
  go_enter Tryd.func26, Tryd.ntmps26
  go_wp2
  go_ret
  exact ⟨rfl, rfl⟩
theorem rdiv_no2 (a b : Int) (w : World) (hb : ¬ b = 0) (h1 : (wrap64 (wrap64 (a.tdiv b) * b) != a) = true) (h2 : (!(decide (a < 0) == decide (b < 0))) = false) :
    Calls Tryd.prog 26 #[.int .i64 a, .int .i64 b] w fun e w' => e = .returned (.int .i64 (wrap64 (a.tdiv b))) ∧ w = w' := by
  go_enter Tryd.func26, Tryd.ntmps26
  go_wp2
  go_ret
  exact ⟨rfl, rfl⟩

theorem qb_eq (a b : Int) (ha : inR a = true) (hb : b ≠ 0) (hf : fits a b = true) : wrap64 (wrap64 (a.tdiv b) * b) = a - a.tmod b := by
  rw [wrap64_of _ (tdiv_in a b ha hb hf)]
  have e := tm_eq a b
  have h1 : (a.tmod b).natAbs ≤ a.natAbs := by rw [Int.natAbs_tmod]; exact Nat.mod_le _ _
  obtain ⟨h2, h3⟩ := tm_bd a b hb
  rw [Int.mul_comm] at e
  have e2 : a.tdiv b * b = a - a.tmod b := by omega
  rw [e2]
  refine wrap64_of _ ?_
  rw [inR_iff] at ha ⊢
  rcases Int.lt_or_le a 0 with h | h
  · have := h3 h; omega
  · have := h2 h; omega

theorem rdiv_any (a b : Int) (w : World) (ha : inR a = true) (hs : spl a b = true) :
    Calls Tryd.prog 26 #[.int .i64 a, .int .i64 b] w fun e w' => e = .returned (.int .i64 (a.fdiv b)) ∧ w = w' := by
  simp only [spl, Bool.and_eq_true, bne_iff_ne] at hs
  obtain ⟨hb, hf⟩ := hs
  have hq := qb_eq a b ha hb hf
  have e : (wrap64 (wrap64 (a.tdiv b) * b) != a) = (a.tmod b != 0) := by
    rw [hq, Bool.eq_iff_iff, bne_iff_ne, bne_iff_ne]; omega
  cases h1 : (wrap64 (wrap64 (a.tdiv b) * b) != a)
  · have hr : rup a b = false := by rw [rup, ← e, h1, Bool.false_and]
    rw [← div_val_no a b ha hb hf hr]
    exact rdiv_no1 a b w hb h1
  · cases h2 : (!(decide (a < 0) == decide (b < 0)))
    · have hr : rup a b = false := by rw [rup]; unfold bne; rw [h2, Bool.and_false]
      rw [← div_val_no a b ha hb hf hr]
      exact rdiv_no2 a b w hb h1 h2
    · have hr : rup a b = true := by rw [rup, ← e, h1, Bool.true_and]; exact h2
      rw [← div_val_yes a b ha hb hr]
      exact rdiv_yes a b w hb h1 h2

theorem wrap_sub (a x : Int) (h : inR (a - x) = true) : wrap64 (a - wrap64 x) = a - x := by
  rw [inR_iff] at h
  unfold wrap64
  omega

theorem rmod_any (a b : Int) (w : World) (ha : inR a = true) (hbr : inR b = true) (hs : spl a b = true) :
    Calls Tryd.prog 17 #[.int .i64 a, .int .i64 b] w fun e w' => e = .returned (.int .i64 (a.fmod b)) ∧ w = w' := by
  have H := fun w => rdiv_any a b w ha hs
  have hv : Hid (wrap64 (a - wrap64 (b * a.fdiv b)) = a.fmod b) := by
    have e := fm_eq a b
    have e2 : a - b * a.fdiv b = a.fmod b := by omega
    have hb : b ≠ 0 := by intro h; rw [h] at hs; simp [spl] at hs
    have h2 := fm_bd a b hb
    rw [inR_iff] at hbr
    show wrap64 (a - wrap64 (b * a.fdiv b)) = a.fmod b
    rw [wrap_sub _ _ (by rw [e2, inR_iff]; omega), e2]
  clear ha hbr hs
  go_enter Tryd.func17, Tryd.ntmps17
  go_wp2_with (go_at_call 26; refine (H _).mono ?_; rintro e w' ⟨rfl, rfl⟩)
  go_ret
  exact ⟨ret_int hv.out, rfl⟩
end Go.Proofs.YtoockmlobpegcaaDoor

namespace Go.Proofs.YtoockmlobpegcaaDoor

def l01 (b : Bool) : Int := match b with | true => 1 | false => 0
structure Cal where
  lp : Int → Bool
  fst : Int → Int
  step : ∀ y, 1 ≤ y → fst (y + 1) = fst y + 365 + l01 (lp y)

namespace Cal
variable (c : Cal)
end Cal
end Go.Proofs.YtoockmlobpegcaaDoor

namespace Go.Proofs.YtoockmlobpegcaaDoor
open Go.RowKit

theorem ret_ib {a b : Int} {c d : Bool} (h : a = b) (g : c = d) : Ending.returned (.tuple #[.int .i64 a, .bool c]) = .returned (.tuple #[.int .i64 b, .bool d]) := by rw [h, g]

theorem rup_any (a b : Int) (w : World) (hb : ¬ b = 0) :
    Calls Tryd.prog 42 #[.int .i64 a, .int .i64 b] w fun e w' => e = .returned (.bool (rup a b)) ∧ w = w' := by
  cases h1 : (a.tmod b != 0)
  all_goals
    go_enter Tryd.func42, Tryd.ntmps42
    go_wp2
    go_ret
    exact ⟨ret_bool (by simp only [rup, h1]; simp [bne]), rfl⟩

theorem fits_any (a b : Int) (w : World) :
    Calls Tryd.prog 45 #[.int .i64 a, .int .i64 b] w fun e w' => e = .returned (.bool (fits a b)) ∧ w = w' := by
  cases h1 : (a != -9223372036854775808)
  all_goals
    go_enter Tryd.func45, Tryd.ntmps45
    go_wp2
    go_ret
    exact ⟨ret_bool (by simp only [fits, h1]; simp [bne]), rfl⟩
theorem clo27 (n a b : Int) (p q : Addr) (w : World) (hp : w.cell? p = some (.int .i64 a)) (hq : w.cell? q = some (.int .i64 b)) :
    Calls Tryd.prog 44 #[.int .i64 n, .pointer (some p), .pointer (some q)] w fun e w' => e = .returned (.bool (fits a b)) ∧ w = w' := by
  go_enter Tryd.func44, Tryd.ntmps44
  go_wp2_with (go_at_call 45; refine (fits_any _ _ _).mono ?_; rintro e w' ⟨rfl, rfl⟩)
  go_ret
  exact ⟨rfl, rfl⟩

theorem chk27 (n a b : Int) (p q : Addr) (w : World) (hp : w.cell? p = some (.int .i64 a)) (hq : w.cell? q = some (.int .i64 b)) :
    Calls Tryd.prog 43 #[.int .i64 n, .func (Fn.func 44) #[] #[.pointer (some p), .pointer (some q)]] w fun e w' => e = .returned (.tuple #[.int .i64 (ifb (fits a b) n), .bool (fits a b)]) ∧ w = w' := by
  cases hf : fits a b
  all_goals
    have H := clo27 n a b p q w hp hq
    rw [hf] at H
    go_enter Tryd.func43, Tryd.ntmps43
    go_wp2_with (go_at_call 44; refine H.mono ?_; rintro e w' ⟨rfl, rfl⟩)
    go_ret2
    exact ⟨rfl, rfl⟩

theorem mod_yes (a b : Int) (w : World) (hb : ¬ b = 0) (hr : rup a b = true) :
    Calls Tryd.prog 36 #[.int .i64 a, .int .i64 b] w fun e w' => e = .returned (.tuple #[.int .i64 (ifb (fits a b) (wrap64 (a.tmod b + b))), .bool (fits a b)]) ∧ Below w.heap.size w w' := by
  have hmf : ∀ (fn : Fn) (first cap : Array Value) (w : World), (Instr.makeFunc fn first cap).run Tryd.prog w = .ok (.func fn first cap) w := fun _ _ _ _ => rfl
  go_enter Tryd.func36, Tryd.ntmps36
  go_wp2_with (first | (go_at_call 42; refine (rup_any _ _ _ hb).mono ?_; rintro e w' ⟨rfl, rfl⟩) | (go_at_call 43; refine (chk27 _ a b _ _ _ (by go_simp) (by go_simp)).mono ?_; rintro e w' ⟨rfl, rfl⟩))
  go_ret2
  exact ⟨rfl, ((Below.refl _ _).alloc (Nat.le_refl _) _).alloc (by simp) _⟩

theorem mod_no (a b : Int) (w : World) (hb : ¬ b = 0) (hr : rup a b = false) :
    Calls Tryd.prog 36 #[.int .i64 a, .int .i64 b] w fun e w' => e = .returned (.tuple #[.int .i64 (ifb (fits a b) (a.tmod b)), .bool (fits a b)]) ∧ Below w.heap.size w w' := by
  have hmf : ∀ (fn : Fn) (first cap : Array Value) (w : World), (Instr.makeFunc fn first cap).run Tryd.prog w = .ok (.func fn first cap) w := fun _ _ _ _ => rfl
  have H := rup_any a b ((w.alloc (.cells #[.int .i64 a] 3)).alloc (.cells #[.int .i64 b] 3)) hb
  rw [hr] at H
  go_enter Tryd.func36, Tryd.ntmps36
  go_wp2_with (first | (go_at_call 42; refine H.mono ?_; rintro e w' ⟨rfl, rfl⟩) | (go_at_call 43; refine (chk27 _ a b _ _ _ (by go_simp) (by go_simp)).mono ?_; rintro e w' ⟨rfl, rfl⟩))
  go_ret2
  exact ⟨rfl, ((Below.refl _ _).alloc (Nat.le_refl _) _).alloc (by simp) _⟩

theorem mod_zero (a : Int) (w : World) :
    Calls Tryd.prog 36 #[.int .i64 a, .int .i64 0] w fun e w' => e = .returned (.tuple #[.int .i64 0, .bool false]) ∧ Below w.heap.size w w' := by
  go_enter Tryd.func36, Tryd.ntmps36
  go_wp2
  go_ret2
  exact ⟨rfl, ((Below.refl _ _).alloc (Nat.le_refl _) _).alloc (by simp) _⟩

theorem mod_any (a b : Int) (w : World) (ha : inR a = true) (hbr : inR b = true) :
    Calls Tryd.prog 36 #[.int .i64 a, .int .i64 b] w fun e w' => e = .returned (.tuple #[.int .i64 (ifb (spl a b) (a.fmod b)), .bool (spl a b)]) ∧ Below w.heap.size w w' := by
  by_cases hb : b = 0
  · subst hb
    have e : spl a 0 = false := by simp [spl]
    rw [e]
    exact mod_zero a w
  · have e : spl a b = fits a b := by simp [spl, hb]
    rw [e]
    cases hr : rup a b
    · refine (mod_no a b w hb hr).mono ?_
      rintro e w' ⟨rfl, h⟩
      refine ⟨?_, h⟩
      cases hf : fits a b
      · exact ret_ib (by rw [ifb_false, ifb_false]) rfl
      · exact ret_ib (by rw [ifb_true, ifb_true, mod_val_no a b hb hr]) rfl
    · refine (mod_yes a b w hb hr).mono ?_
      rintro e w' ⟨rfl, h⟩
      refine ⟨?_, h⟩
      cases hf : fits a b
      · exact ret_ib (by rw [ifb_false, ifb_false]) rfl
      · exact ret_ib (by rw [ifb_true, ifb_true, mod_val_yes a b ha hbr hb hr]) rfl


theorem spl_pos (a b : Int) (hb : 0 < b) : spl a b = true := by
  have h1 : b ≠ 0 := by omega
  have h2 : b ≠ -1 := by omega
  simp [spl, fits, h1, h2]
/-- A positive divisor: the remainder of the Euclidean division, and true. -/
theorem mod_pos (a b : Int) (w : World) (ha : inR a = true) (hbr : inR b = true) (hb : 0 < b) :
    Calls Tryd.prog 36 #[.int .i64 a, .int .i64 b] w fun e w' => e = .returned (.tuple #[.int .i64 (a % b), .bool true]) ∧ Below w.heap.size w w' := by
  have H := mod_any a b w ha hbr
  rw [spl_pos a b hb, ifb_true, Int.fmod_eq_emod_of_nonneg _ (by omega)] at H
  exact H
end Go.Proofs.YtoockmlobpegcaaDoor

namespace Go.Proofs.YtoockmlobpegcaaDoor
open Go.RowKit


theorem clo25 (n a b : Int) (p q : Addr) (w : World) (hp : w.cell? p = some (.int .i64 a)) (hq : w.cell? q = some (.int .i64 b)) :
    Calls Tryd.prog 56 #[.int .i64 n, .pointer (some p), .pointer (some q)] w fun e w' => e = .returned (.bool (fits a b)) ∧ w = w' := by
  go_enter Tryd.func56, Tryd.ntmps56
  go_wp2_with (go_at_call 45; refine (fits_any _ _ _).mono ?_; rintro e w' ⟨rfl, rfl⟩)
  go_ret
  exact ⟨rfl, rfl⟩

theorem chk25 (n a b : Int) (p q : Addr) (w : World) (hp : w.cell? p = some (.int .i64 a)) (hq : w.cell? q = some (.int .i64 b)) :
    Calls Tryd.prog 43 #[.int .i64 n, .func (Fn.func 56) #[] #[.pointer (some p), .pointer (some q)]] w fun e w' => e = .returned (.tuple #[.int .i64 (ifb (fits a b) n), .bool (fits a b)]) ∧ w = w' := by
  cases hf : fits a b
  all_goals
    have H := clo25 n a b p q w hp hq
    rw [hf] at H
    go_enter Tryd.func43, Tryd.ntmps43
    go_wp2_with (go_at_call 56; refine H.mono ?_; rintro e w' ⟨rfl, rfl⟩)
    go_ret2
    exact ⟨rfl, rfl⟩

theorem div_yes (a b : Int) (w : World) (hb : ¬ b = 0) (hr : rup a b = true) :
    Calls Tryd.prog 50 #[.int .i64 a, .int .i64 b] w fun e w' => e = .returned (.tuple #[.int .i64 (ifb (fits a b) (wrap64 (wrap64 (a.tdiv b) - 1))), .bool (fits a b)]) ∧ Below w.heap.size w w' := by
  have hmf : ∀ (fn : Fn) (first cap : Array Value) (w : World), (Instr.makeFunc fn first cap).run Tryd.prog w = .ok (.func fn first cap) w := fun _ _ _ _ => rfl
  go_enter Tryd.func50, Tryd.ntmps50
  go_wp2_with (first | (go_at_call 42; refine (rup_any _ _ _ hb).mono ?_; rintro e w' ⟨rfl, rfl⟩) | (go_at_call 43; refine (chk25 _ a b _ _ _ (by go_simp) (by go_simp)).mono ?_; rintro e w' ⟨rfl, rfl⟩))
  go_ret2
  exact ⟨rfl, ((Below.refl _ _).alloc (Nat.le_refl _) _).alloc (by simp) _⟩

theorem div_no (a b : Int) (w : World) (hb : ¬ b = 0) (hr : rup a b = false) :
    Calls Tryd.prog 50 #[.int .i64 a, .int .i64 b] w fun e w' => e = .returned (.tuple #[.int .i64 (ifb (fits a b) (wrap64 (a.tdiv b))), .bool (fits a b)]) ∧ Below w.heap.size w w' := by
  have hmf : ∀ (fn : Fn) (first cap : Array Value) (w : World), (Instr.makeFunc fn first cap).run Tryd.prog w = .ok (.func fn first cap) w := fun _ _ _ _ => rfl
  have H := rup_any a b ((w.alloc (.cells #[.int .i64 a] 3)).alloc (.cells #[.int .i64 b] 3)) hb
  rw [hr] at H
  go_enter Tryd.func50, Tryd.ntmps50
  go_wp2_with (first | (go_at_call 42; refine H.mono ?_; rintro e w' ⟨rfl, rfl⟩) | (go_at_call 43; refine (chk25 _ a b _ _ _ (by go_simp) (by go_simp)).mono ?_; rintro e w' ⟨rfl, rfl⟩))
  go_ret2
  exact ⟨rfl, ((Below.refl _ _).alloc (Nat.le_refl _) _).alloc (by simp) _⟩

theorem div_zero (a : Int) (w : World) :
    Calls Tryd.prog 50 #[.int .i64 a, .int .i64 0] w fun e w' => e = .returned (.tuple #[.int .i64 0, .bool false]) ∧ Below w.heap.size w w' := by
  go_enter Tryd.func50, Tryd.ntmps50
  go_wp2
  go_ret2
  exact ⟨rfl, ((Below.refl _ _).alloc (Nat.le_refl _) _).alloc (by simp) _⟩

theorem div_any (a b : Int) (w : World) (ha : inR a = true) :
    Calls Tryd.prog 50 #[.int .i64 a, .int .i64 b] w fun e w' => e = .returned (.tuple #[.int .i64 (ifb (spl a b) (a.fdiv b)), .bool (spl a b)]) ∧ Below w.heap.size w w' := by
  by_cases hb : b = 0
  · subst hb
    have e : spl a 0 = false := by simp [spl]
    rw [e]
    exact div_zero a w
  · have e : spl a b = fits a b := by simp [spl, hb]
    rw [e]
    cases hr : rup a b
    · refine (div_no a b w hb hr).mono ?_
      rintro e w' ⟨rfl, h⟩
      refine ⟨?_, h⟩
      cases hf : fits a b
      · exact ret_ib (by rw [ifb_false, ifb_false]) rfl
      · exact ret_ib (by rw [ifb_true, ifb_true, div_val_no a b ha hb hf hr]) rfl
    · refine (div_yes a b w hb hr).mono ?_
      rintro e w' ⟨rfl, h⟩
      refine ⟨?_, h⟩
      cases hf : fits a b
      · exact ret_ib (by rw [ifb_false, ifb_false]) rfl
      · exact ret_ib (by rw [ifb_true, ifb_true, div_val_yes a b ha hb hr]) rfl
/-- A positive divisor: the quotient of the Euclidean division, and true. -/
theorem div_pos (a b : Int) (w : World) (ha : inR a = true) (hb : 0 < b) :
    Calls Tryd.prog 50 #[.int .i64 a, .int .i64 b] w fun e w' => e = .returned (.tuple #[.int .i64 (a / b), .bool true]) ∧ Below w.heap.size w w' := by
  have H := div_any a b w ha
  rw [spl_pos a b hb, ifb_true, Int.fdiv_eq_ediv_of_nonneg _ (by omega)] at H
  exact H
end Go.Proofs.YtoockmlobpegcaaDoor

namespace Go.Proofs.YtoockmlobpegcaaDoor
open Go.RowKit

theorem rin_any (y : Int) (w : World) :
    Calls Tryd.prog 21 #[.int .i64 y] w fun e w' => e = .returned (.bool (inY y)) ∧ w = w' := by
  cases h0 : decide (1 ≤ y)
  all_goals
    go_enter Tryd.func21, Tryd.ntmps21
    go_wp2
    go_ret
    exact ⟨ret_bool (by simp [inY, h0]), rfl⟩

end Go.Proofs.YtoockmlobpegcaaDoor
