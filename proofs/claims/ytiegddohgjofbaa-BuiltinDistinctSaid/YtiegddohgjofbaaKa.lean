/- What earlier stages proved: M N Me Fz Ra Cal Co. -/
import Derived.IntWalk
import Derived.Test.YtiegddohgjofbaaRows
import Derived.WalkKit
import Derived.WalkLawsBesides
import Derived.Lib.Hide
import Derived.Below
import Derived.Deep.QuietTactic
import Derived.BigQuiet
import Derived.Deep.RegionWith
import Derived.Laws.Rows
namespace Go.Proofs.Ytiegddohgjofbaa

def inR (x : Int) : Bool := decide (-9223372036854775808 ≤ x) && decide (x ≤ 9223372036854775807)
def rup (a b : Int) : Bool := a.tmod b != 0 && (decide (a < 0) != decide (b < 0))
def fits (a b : Int) : Bool := a != -9223372036854775808 || b != -1
def spl (a b : Int) : Bool := b != 0 && fits a b
theorem inR_iff {x : Int} : inR x = true ↔ -9223372036854775808 ≤ x ∧ x ≤ 9223372036854775807 := by simp [inR]

theorem tm_eq (a b : Int) : b * a.tdiv b + a.tmod b = a := Int.mul_tdiv_add_tmod a b
theorem fm_eq (a b : Int) : b * a.fdiv b + a.fmod b = a := Int.mul_fdiv_add_fmod a b

theorem tm_bd (a b : Int) (hb : b ≠ 0) : (0 ≤ a → 0 ≤ a.tmod b ∧ a.tmod b < b.natAbs) ∧ (a < 0 → a.tmod b ≤ 0 ∧ -(b.natAbs : Int) < a.tmod b) := by
  constructor
  · intro h
    refine ⟨Int.tmod_nonneg b h, ?_⟩
    have := Int.tmod_lt_of_pos
    have h1 : a.tmod b = a.tmod b.natAbs := by
      rcases Int.natAbs_eq b with e | e
      · rw [← e]
      · conv => lhs; rw [e]
        rw [Int.tmod_neg]
    rw [h1]
    exact Int.tmod_lt_of_pos _ (by omega)
  · intro h
    have h1 : a.tmod b = a.tmod b.natAbs := by
      rcases Int.natAbs_eq b with e | e
      · rw [← e]
      · conv => lhs; rw [e]
        rw [Int.tmod_neg]
    have h2 : a.tmod b.natAbs = -((-a).tmod b.natAbs) := by rw [Int.neg_tmod]; omega
    have h3 := Int.tmod_nonneg (b.natAbs : Int) (a := -a) (by omega)
    have h4 := Int.tmod_lt_of_pos (-a) (b := (b.natAbs : Int)) (by omega)
    rw [h1, h2]
    omega

theorem fdiv_unique (a b q r : Int) (h : b * q + r = a) (hr : (0 < b ∧ 0 ≤ r ∧ r < b) ∨ (b < 0 ∧ r ≤ 0 ∧ b < r)) : a.fdiv b = q ∧ a.fmod b = r := by
  have e : a.fdiv b = q := by
    rcases hr with ⟨h0, h1, h2⟩ | ⟨h0, h1, h2⟩
    · rw [Int.fdiv_eq_ediv_of_nonneg _ (by omega), ← h, Int.add_comm, Int.add_mul_ediv_left _ _ (by omega), Int.ediv_eq_zero_of_lt h1 h2]; omega
    · have : a.fdiv b = (-a).fdiv (-b) := by rw [Int.neg_fdiv_neg]
      rw [this, Int.fdiv_eq_ediv_of_nonneg _ (by omega)]
      have h' : -a = -r + (-b) * q := by rw [← h, Int.neg_mul]; omega
      rw [h', Int.add_mul_ediv_left _ _ (by omega), Int.ediv_eq_zero_of_lt (by omega) (by omega)]; omega
  refine ⟨e, ?_⟩
  have := fm_eq a b
  rw [e] at this
  omega

theorem fm_bd (a b : Int) (hb : b ≠ 0) : (0 < b ∧ 0 ≤ a.fmod b ∧ a.fmod b < b) ∨ (b < 0 ∧ a.fmod b ≤ 0 ∧ b < a.fmod b) := by
  rcases Int.lt_trichotomy b 0 with h | h | h
  · right
    have h1 : a.fmod b = -((-a).fmod (-b)) := by rw [Int.neg_fmod_neg]; omega
    have h2 := Int.fmod_nonneg_of_pos (-a) (b := -b) (by omega)
    have h3 := Int.fmod_lt_of_pos (-a) (b := -b) (by omega)
    omega
  · exact absurd h hb
  · left
    exact ⟨h, Int.fmod_nonneg_of_pos a h, Int.fmod_lt_of_pos a h⟩

theorem rup_true (a b : Int) (hb : b ≠ 0) (h : rup a b = true) : a.fdiv b = a.tdiv b - 1 ∧ a.fmod b = a.tmod b + b := by
  have e := tm_eq a b
  obtain ⟨h1, h2⟩ := tm_bd a b hb
  refine fdiv_unique a b _ _ (by rw [Int.mul_sub, Int.mul_one]; omega) ?_
  simp [rup] at h
  by_cases ha : a < 0 <;> by_cases hb' : b < 0 <;> simp [ha, hb'] at h <;> omega

theorem rup_false (a b : Int) (hb : b ≠ 0) (h : rup a b = false) : a.fdiv b = a.tdiv b ∧ a.fmod b = a.tmod b := by
  have e := tm_eq a b
  obtain ⟨h1, h2⟩ := tm_bd a b hb
  refine fdiv_unique a b _ _ e ?_
  simp [rup] at h
  by_cases ha : a < 0 <;> by_cases hb' : b < 0 <;> simp [ha, hb'] at h <;> omega
end Go.Proofs.Ytiegddohgjofbaa

namespace Go.Proofs.Ytiegddohgjofbaa
open Go.RowKit

theorem fits_iff {a b : Int} : fits a b = true ↔ ¬ (a = -9223372036854775808 ∧ b = -1) := by
  simp [fits]; omega

theorem nat_tdiv_le (a b : Int) : (a.tdiv b).natAbs ≤ a.natAbs := by
  rw [Int.natAbs_tdiv]; exact Nat.div_le_self _ _

theorem tdiv_in (a b : Int) (ha : inR a = true) (hb : b ≠ 0) (hf : fits a b = true) : inR (a.tdiv b) = true := by
  rw [inR_iff] at ha ⊢
  rw [fits_iff] at hf
  have h1 := nat_tdiv_le a b
  have e := tm_eq a b
  obtain ⟨h2, h3⟩ := tm_bd a b hb
  by_cases h : a.tdiv b = 9223372036854775808
  · rw [h] at e
    omega
  · omega

theorem tdiv_dec (a b : Int) (ha : inR a = true) (hb : b ≠ 0) (hr : rup a b = true) : inR (a.tdiv b - 1) = true := by
  rw [inR_iff] at ha ⊢
  have h1 := nat_tdiv_le a b
  have e := tm_eq a b
  obtain ⟨h2, h3⟩ := tm_bd a b hb
  have hm : a.tmod b ≠ 0 := by
    intro h; simp [rup, h] at hr
  by_cases h : a.tdiv b = -9223372036854775808
  · rw [h] at e
    omega
  · by_cases h' : a.tdiv b = 9223372036854775808
    · rw [h'] at e
      omega
    · omega

theorem wrap64_of (x : Int) (h : inR x = true) : wrap64 x = x := IntWalk.wrap64_in x (inR_iff.1 h)

theorem fits_of_rup (a b : Int) (h : rup a b = true) : fits a b = true := by
  rw [fits_iff]
  rintro ⟨rfl, rfl⟩
  revert h
  decide

theorem div_val_yes (a b : Int) (ha : inR a = true) (hb : b ≠ 0) (hr : rup a b = true) : wrap64 (wrap64 (a.tdiv b) - 1) = a.fdiv b := by
  rw [wrap64_of _ (tdiv_in a b ha hb (fits_of_rup a b hr)), wrap64_of _ (tdiv_dec a b ha hb hr), (rup_true a b hb hr).1]
theorem div_val_no (a b : Int) (ha : inR a = true) (hb : b ≠ 0) (hf : fits a b = true) (hr : rup a b = false) : wrap64 (a.tdiv b) = a.fdiv b := by
  rw [wrap64_of _ (tdiv_in a b ha hb hf), (rup_false a b hb hr).1]
end Go.Proofs.Ytiegddohgjofbaa

namespace Go.Proofs.Ytiegddohgjofbaa
open Go.RowKit

theorem ret_int {a b : Int} (h : a = b) : Ending.returned (.int .i64 a) = .returned (.int .i64 b) := by rw [h]
theorem ret_bool {a b : Bool} (h : a = b) : Ending.returned (.bool a) = .returned (.bool b) := by rw [h]
theorem ret_ii {a b c d : Int} (h : a = b) (g : c = d) : Ending.returned (.tuple #[.int .i64 a, .int .i64 c]) = .returned (.tuple #[.int .i64 b, .int .i64 d]) := by rw [h, g]


def inY (y : Int) : Bool := decide (1 ≤ y) && decide (y ≤ 1000000000)
theorem inY_iff {y : Int} : inY y = true ↔ 1 ≤ y ∧ y ≤ 1000000000 := by simp [inY]
theorem inY_false {y : Int} (h : ¬ (1 ≤ y ∧ y ≤ 1000000000)) : inY y = false := by
  cases g : inY y with
  | false => rfl
  | true => exact absurd (inY_iff.1 g) h


theorem quiet_same {P : Program} {f : FuncId} {args : Array Value} {w : World} {n : Nat} {v : Value}
    (h : Calls P f args (w.drewN n) fun e w' => e = .returned v ∧ w.drewN n = w') : Calls P f args (w.drewN n) fun e w'' => e = .returned v ∧ ∃ m, w'' = w.drewN m :=
  h.mono fun _ _ ⟨he, hm⟩ => ⟨he, n, hm.symm⟩
theorem below_dn {B : Nat} {a w : World} (h : Below B a w) (n : Nat) : Below B a (w.drewN n) := ⟨h.os, h.tape, h.output, h.size, h.block⟩

theorem bcell {W w1 : World} (hb : Below W.heap.size W w1) : (∀ b o, b < W.heap.size → w1.cell? ⟨b, o, none⟩ = W.cell? ⟨b, o, none⟩) ∧ (∀ b o, b < W.heap.size → w1.frozen? ⟨b, o, none⟩ = W.frozen? ⟨b, o, none⟩) :=
  ⟨fun b o h => hb.cell (p := ⟨b, o, none⟩) h, fun b o h => hb.frozen (p := ⟨b, o, none⟩) h⟩
theorem below_al1 {w w1 : World} {o : Obj} (hb : Below (w.alloc o).heap.size (w.alloc o) w1) : Below w.heap.size w w1 :=
  ((Below.refl _ _).alloc (Nat.le_refl _) _).trans (hb.mono (by simp))


theorem cell_below {w w' : World} {b o : Nat} {v : Value} (h : w.cell? ⟨b, o, none⟩ = some v) (hb : Below w.heap.size w w') : w'.cell? ⟨b, o, none⟩ = some v := by
  rw [hb.cell (p := ⟨b, o, none⟩) (World.block_lt_of_cell? w _ h)]; exact h
theorem below_on {W w w' : World} (h : Below W.heap.size W w) (hb : Below w.heap.size w w') : Below W.heap.size W w' := h.trans (hb.mono h.size)
def Two (W : World) (b1 b2 : Nat) (y m d y' m' d' : Int) (u : World) : Prop :=
  u.cell? ⟨b1, 0, none⟩ = some (.int .i64 y) ∧ u.cell? ⟨b1, 1, none⟩ = some (.int .i64 m) ∧ u.cell? ⟨b1, 2, none⟩ = some (.int .i64 d) ∧
  u.cell? ⟨b2, 0, none⟩ = some (.int .i64 y') ∧ u.cell? ⟨b2, 1, none⟩ = some (.int .i64 m') ∧ u.cell? ⟨b2, 2, none⟩ = some (.int .i64 d') ∧ Below W.heap.size W u
theorem Two.on {W : World} {b1 b2 : Nat} {y m d y' m' d' : Int} {u u' : World} (h : Two W b1 b2 y m d y' m' d' u) (hb : Below u.heap.size u u') : Two W b1 b2 y m d y' m' d' u' := by
  obtain ⟨a1, a2, a3, a4, a5, a6, a7⟩ := h
  exact ⟨cell_below a1 hb, cell_below a2 hb, cell_below a3 hb, cell_below a4 hb, cell_below a5 hb, cell_below a6 hb, below_on a7 hb⟩
theorem Two.drew {W : World} {b1 b2 : Nat} {y m d y' m' d' : Int} {u : World} (h : Two W b1 b2 y m d y' m' d' u) : Two W b1 b2 y m d y' m' d' u.drew :=
  h.on (below_dn (Below.refl _ _) 1)


/-- One date in memory. -/
def One (W : World) (b : Nat) (y m d : Int) (u : World) : Prop :=
  u.cell? ⟨b, 0, none⟩ = some (.int .i64 y) ∧ u.cell? ⟨b, 1, none⟩ = some (.int .i64 m) ∧ u.cell? ⟨b, 2, none⟩ = some (.int .i64 d) ∧ Below W.heap.size W u
theorem One.on {W : World} {b : Nat} {y m d : Int} {u u' : World} (h : One W b y m d u) (hb : Below u.heap.size u u') : One W b y m d u' := by
  obtain ⟨a1, a2, a3, a7⟩ := h
  exact ⟨cell_below a1 hb, cell_below a2 hb, cell_below a3 hb, below_on a7 hb⟩

/-- A struct of three cells, each written: what the cells hold then. -/
theorem three_set {w1 : World} {b t : Nat} {a0 a1 a2 : Value} (x y z : Value) (h : w1.heap[b]? = some (.cells #[a0, a1, a2] t (0, 0))) {u : World} (hu : ((w1.setCell ⟨b, 0, none⟩ x).setCell ⟨b, 1, none⟩ y).setCell ⟨b, 2, none⟩ z = u) :
    u.cell? ⟨b, 0, none⟩ = some x ∧ u.cell? ⟨b, 1, none⟩ = some y ∧ u.cell? ⟨b, 2, none⟩ = some z := by
  have R := heap_setCell_same _ b 2 _ _ z (heap_setCell_same _ b 1 _ _ y (heap_setCell_same w1 b 0 _ _ x h))
  rw [hu] at R
  refine ⟨?_, ?_, ?_⟩
  · rw [cell_of_row u b 0 _ _ _ R]; rfl
  · rw [cell_of_row u b 1 _ _ _ R]; rfl
  · rw [cell_of_row u b 2 _ _ _ R]; rfl
theorem below_set3 {B : Nat} {w w1 : World} (h : Below B w w1) {b : Nat} (hB : B ≤ b) (x y z : Value) {u : World} (hu : ((w1.setCell ⟨b, 0, none⟩ x).setCell ⟨b, 1, none⟩ y).setCell ⟨b, 2, none⟩ z = u) : Below B w u := by
  rw [← hu]; exact ((h.setCell (p := ⟨b, 0, none⟩) hB x).setCell (p := ⟨b, 1, none⟩) hB y).setCell (p := ⟨b, 2, none⟩) hB z
end Go.Proofs.Ytiegddohgjofbaa

namespace Go.Proofs.Ytiegddohgjofbaa
open Go.RowKit
def Tab (_ : World) : Prop := True
theorem Tab.on {w w' : World} (_ : Tab w) (_ : Below w.heap.size w w') : Tab w' := trivial
theorem Tab.dn {w : World} (_ : Tab w) (n : Nat) : Tab (w.drewN n) := trivial
theorem Tab.al {w : World} (_ : Tab w) (o : Obj) : Tab (w.alloc o) := trivial
def GTab (_ : World) : Prop := True
theorem GTab.on {w w' : World} (_ : GTab w) (_ : Below w.heap.size w w') : GTab w' := trivial
theorem GTab.dn {w : World} (_ : GTab w) (n : Nat) : GTab (w.drewN n) := trivial
theorem GTab.al {w : World} (_ : GTab w) (o : Obj) : GTab (w.alloc o) := trivial
def LTab (_ : World) : Prop := True
theorem LTab.on {w w' : World} (_ : LTab w) (_ : Below w.heap.size w w') : LTab w' := trivial
theorem LTab.dn {w : World} (_ : LTab w) (n : Nat) : LTab (w.drewN n) := trivial
theorem LTab.al {w : World} (_ : LTab w) (o : Obj) : LTab (w.alloc o) := trivial
end Go.Proofs.Ytiegddohgjofbaa

namespace Go.Proofs.Ytiegddohgjofbaa
open Go.RowKit

theorem rdiv_yes (a b : Int) (w : World) (hb : ¬ b = 0) (h1 : (wrap64 (wrap64 (a.tdiv b) * b) != a) = true) (h2 : (!(decide (a < 0) == decide (b < 0))) = true) :
    Calls Try.prog 37 #[.int .i64 a, .int .i64 b] w fun e w' => e = .returned (.int .i64 (wrap64 (wrap64 (a.tdiv b) - 1))) ∧ w = w' := by
  go_enter Try.func37, Try.ntmps37
  go_wp2
  go_ret
  exact ⟨rfl, rfl⟩
theorem rdiv_no1 (a b : Int) (w : World) (hb : ¬ b = 0) (h1 : (wrap64 (wrap64 (a.tdiv b) * b) != a) = false) :
    Calls Try.prog 37 #[.int .i64 a, .int .i64 b] w fun e w' => e = .returned (.int .i64 (wrap64 (a.tdiv b))) ∧ w = w' := by
  go_enter Try.func37, Try.ntmps37
  go_wp2
  go_ret
  exact ⟨rfl, rfl⟩
theorem rdiv_no2 (a b : Int) (w : World) (hb : ¬ b = 0) (h1 : (wrap64 (wrap64 (a.tdiv b) * b) != a) = true) (h2 : (!(decide (a < 0) == decide (b < 0))) = false) :
    Calls Try.prog 37 #[.int .i64 a, .int .i64 b] w fun e w' => e = .returned (.int .i64 (wrap64 (a.tdiv b))) ∧ w = w' := by
  go_enter Try.func37, Try.ntmps37
  go_wp2
  go_ret
  exact ⟨rfl, rfl⟩

theorem qb_eq (a b : Int) (ha : inR a = true) (hb : b ≠ 0) (hf : fits a b = true) : wrap64 (wrap64 (a.tdiv b) * b) = a - a.tmod b := by
  rw [wrap64_of _ (tdiv_in a b ha hb hf)]
  have e := tm_eq a b
  have h1 : (a.tmod b).natAbs ≤ a.natAbs := by rw [Int.natAbs_tmod]; exact Nat.mod_le _ _
  obtain ⟨h2, h3⟩ := tm_bd a b hb
  rw [Int.mul_comm] at e
  have e2 : a.tdiv b * b = a - a.tmod b := by omega
  rw [e2]
  refine wrap64_of _ ?_
  rw [inR_iff] at ha ⊢
  rcases Int.lt_or_le a 0 with h | h
  · have := h3 h; omega
  · have := h2 h; omega

theorem rdiv_any (a b : Int) (w : World) (ha : inR a = true) (hs : spl a b = true) :
    Calls Try.prog 37 #[.int .i64 a, .int .i64 b] w fun e w' => e = .returned (.int .i64 (a.fdiv b)) ∧ w = w' := by
  simp only [spl, Bool.and_eq_true, bne_iff_ne] at hs
  obtain ⟨hb, hf⟩ := hs
  have hq := qb_eq a b ha hb hf
  have e : (wrap64 (wrap64 (a.tdiv b) * b) != a) = (a.tmod b != 0) := by
    rw [hq, Bool.eq_iff_iff, bne_iff_ne, bne_iff_ne]; omega
  cases h1 : (wrap64 (wrap64 (a.tdiv b) * b) != a)
  · have hr : rup a b = false := by rw [rup, ← e, h1, Bool.false_and]
    rw [← div_val_no a b ha hb hf hr]
    exact rdiv_no1 a b w hb h1
  · cases h2 : (!(decide (a < 0) == decide (b < 0)))
    · have hr : rup a b = false := by rw [rup]; unfold bne; rw [h2, Bool.and_false]
      rw [← div_val_no a b ha hb hf hr]
      exact rdiv_no2 a b w hb h1 h2
    · have hr : rup a b = true := by rw [rup, ← e, h1, Bool.true_and]; exact h2
      rw [← div_val_yes a b ha hb hr]
      exact rdiv_yes a b w hb h1 h2

theorem wrap_sub (a x : Int) (h : inR (a - x) = true) : wrap64 (a - wrap64 x) = a - x := by
  rw [inR_iff] at h
  unfold wrap64
  omega

theorem rmod_any (a b : Int) (w : World) (ha : inR a = true) (hbr : inR b = true) (hs : spl a b = true) :
    Calls Try.prog 36 #[.int .i64 a, .int .i64 b] w fun e w' => e = .returned (.int .i64 (a.fmod b)) ∧ w = w' := by
  have H := fun w => rdiv_any a b w ha hs
  have hv : Hid (wrap64 (a - wrap64 (b * a.fdiv b)) = a.fmod b) := by
    have e := fm_eq a b
    have e2 : a - b * a.fdiv b = a.fmod b := by omega
    have hb : b ≠ 0 := by intro h; rw [h] at hs; simp [spl] at hs
    have h2 := fm_bd a b hb
    rw [inR_iff] at hbr
    show wrap64 (a - wrap64 (b * a.fdiv b)) = a.fmod b
    rw [wrap_sub _ _ (by rw [e2, inR_iff]; omega), e2]
  clear ha hbr hs
  go_enter Try.func36, Try.ntmps36
  go_wp2_with (go_at_call 37; refine (H _).mono ?_; rintro e w' ⟨rfl, rfl⟩)
  go_ret
  exact ⟨ret_int hv.out, rfl⟩
end Go.Proofs.Ytiegddohgjofbaa

namespace Go.Proofs.Ytiegddohgjofbaa

def l01 (b : Bool) : Int := match b with | true => 1 | false => 0
theorem l01_bd (b : Bool) : 0 ≤ l01 b ∧ l01 b ≤ 1 := by cases b <;> simp [l01]
def dim (l : Bool) (m : Int) : Int := if m = 2 then 28 + l01 l else if m = 4 ∨ m = 6 ∨ m = 9 ∨ m = 11 then 30 else if 1 ≤ m ∧ m ≤ 12 then 31 else 0
def cum (l : Bool) (m : Int) : Int := if m ≤ 2 then 31 * (m - 1) else (153 * (m - 3) + 2) / 5 + 59 + l01 l

theorem dim_bd (l : Bool) (m : Int) (h1 : 1 ≤ m) (h2 : m ≤ 12) : 28 ≤ dim l m ∧ dim l m ≤ 31 := by
  have := l01_bd l
  unfold dim; repeat' split
  all_goals omega
theorem dim_out (l : Bool) (m : Int) (h : m < 1 ∨ 12 < m) : dim l m = 0 := by
  unfold dim; repeat' split
  all_goals omega
theorem month_of_dim (l : Bool) (m : Int) (h : 1 ≤ dim l m) : 1 ≤ m ∧ m ≤ 12 := by
  rcases Int.lt_or_le m 1 with g | g
  · rw [dim_out l m (Or.inl g)] at h; omega
  · rcases Int.lt_or_le 12 m with g' | g'
    · rw [dim_out l m (Or.inr g')] at h; omega
    · exact ⟨g, g'⟩
theorem cum_one (l : Bool) : cum l 1 = 0 := by unfold cum; rw [if_pos (by omega)]; omega
theorem cum_succ (l : Bool) (m : Int) (h1 : 1 ≤ m) (h2 : m ≤ 12) : cum l (m + 1) = cum l m + dim l m := by
  have h : m = 1 ∨ m = 2 ∨ m = 3 ∨ m = 4 ∨ m = 5 ∨ m = 6 ∨ m = 7 ∨ m = 8 ∨ m = 9 ∨ m = 10 ∨ m = 11 ∨ m = 12 := by omega
  rcases h with rfl | rfl | rfl | rfl | rfl | rfl | rfl | rfl | rfl | rfl | rfl | rfl
  all_goals (cases l <;> rfl)
theorem cum_end (l : Bool) : cum l 13 = 365 + l01 l := by unfold cum; rw [if_neg (by omega)]; omega
theorem cum_mono (l : Bool) (m k : Int) (h1 : 1 ≤ m) (h2 : m ≤ k) (h3 : k ≤ 13) : cum l m ≤ cum l k := by
  have := l01_bd l
  unfold cum
  repeat' split
  all_goals omega
theorem cum_next (l : Bool) (m k : Int) (h1 : 1 ≤ m) (h2 : m < k) (h3 : k ≤ 13) : cum l m + dim l m ≤ cum l k := by
  rw [← cum_succ l m h1 (by omega)]; exact cum_mono l (m + 1) k (by omega) (by omega) h3
theorem cum_bd (l : Bool) (m : Int) (h1 : 1 ≤ m) (h2 : m ≤ 13) : 0 ≤ cum l m ∧ cum l m ≤ 366 := by
  have a := cum_mono l 1 m (by omega) h1 h2
  have b := cum_mono l m 13 h1 h2 (by omega)
  have := l01_bd l
  rw [cum_one] at a; rw [cum_end] at b; omega

structure Cal where
  lp : Int → Bool
  fst : Int → Int
  step : ∀ y, 1 ≤ y → fst (y + 1) = fst y + 365 + l01 (lp y)

namespace Cal
variable (c : Cal)
def vld (y m d : Int) : Bool := decide (1 ≤ y ∧ y ≤ 1000000000 ∧ 1 ≤ d ∧ d ≤ dim (c.lp y) m)
def num (y m d : Int) : Int := c.fst y + cum (c.lp y) m + d - 1

theorem vld_iff {y m d : Int} : c.vld y m d = true ↔ 1 ≤ y ∧ y ≤ 1000000000 ∧ 1 ≤ d ∧ d ≤ dim (c.lp y) m := by unfold vld; exact decide_eq_true_iff
theorem vld_month {y m d : Int} (h : c.vld y m d = true) : 1 ≤ m ∧ m ≤ 12 := by
  rw [vld_iff] at h; exact month_of_dim (c.lp y) m (by omega)

/-- the day's place in its year -/
theorem doy_bd {y m d : Int} (h : c.vld y m d = true) : 0 ≤ cum (c.lp y) m + d - 1 ∧ cum (c.lp y) m + d - 1 < 365 + l01 (c.lp y) := by
  obtain ⟨m1, m2⟩ := c.vld_month h
  rw [vld_iff] at h
  have a := cum_bd (c.lp y) m m1 (by omega)
  have b := cum_next (c.lp y) m 13 m1 (by omega) (by omega)
  rw [cum_end] at b; omega
end Cal
end Go.Proofs.Ytiegddohgjofbaa

namespace Go.Proofs.Ytiegddohgjofbaa
open Go.RowKit

theorem rin_any (y : Int) (w : World) :
    Calls Try.prog 33 #[.int .i64 y] w fun e w' => e = .returned (.bool (inY y)) ∧ w = w' := by
  cases h0 : decide (1 ≤ y)
  all_goals
    go_enter Try.func33, Try.ntmps33
    go_wp2
    go_ret
    exact ⟨ret_bool (by simp [inY, h0]), rfl⟩

theorem rlen_any (l : Bool) (m : Int) (w : World) :
    Calls Try.prog 30 #[.bool l, .int .i64 m] w fun e w' => e = .returned (.int .i64 (dim l m)) ∧ w = w' := by
  by_cases h : 1 ≤ m ∧ m ≤ 12
  · have h' : m = 1 ∨ m = 2 ∨ m = 3 ∨ m = 4 ∨ m = 5 ∨ m = 6 ∨ m = 7 ∨ m = 8 ∨ m = 9 ∨ m = 10 ∨ m = 11 ∨ m = 12 := by omega
    clear h
    rcases h' with rfl | rfl | rfl | rfl | rfl | rfl | rfl | rfl | rfl | rfl | rfl | rfl
    all_goals
      cases l
      all_goals
        go_enter Try.func30, Try.ntmps30
        go_wp2
        go_ret
        exact ⟨rfl, rfl⟩
  · have h0 := dim_out l m (by omega)
    have e1 : (m == 1) = false := by rw [beq_eq_false_iff_ne]; omega
    have e2 : (m == 2) = false := by rw [beq_eq_false_iff_ne]; omega
    have e3 : (m == 3) = false := by rw [beq_eq_false_iff_ne]; omega
    have e4 : (m == 4) = false := by rw [beq_eq_false_iff_ne]; omega
    have e5 : (m == 5) = false := by rw [beq_eq_false_iff_ne]; omega
    have e6 : (m == 6) = false := by rw [beq_eq_false_iff_ne]; omega
    have e7 : (m == 7) = false := by rw [beq_eq_false_iff_ne]; omega
    have e8 : (m == 8) = false := by rw [beq_eq_false_iff_ne]; omega
    have e9 : (m == 9) = false := by rw [beq_eq_false_iff_ne]; omega
    have e10 : (m == 10) = false := by rw [beq_eq_false_iff_ne]; omega
    have e11 : (m == 11) = false := by rw [beq_eq_false_iff_ne]; omega
    have e12 : (m == 12) = false := by rw [beq_eq_false_iff_ne]; omega
    have H := Lib.hid h0
    clear h0 h
    go_enter Try.func30, Try.ntmps30
    go_wp2
    go_ret
    exact ⟨ret_int H.out.symm, rfl⟩


end Go.Proofs.Ytiegddohgjofbaa
