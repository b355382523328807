/- What earlier stages proved: M N Me Fz Ra Cal Mo. -/
import Derived.IntWalk
import Derived.Test.YtkhicgafhbecfaaGreatDoorRows
import Derived.WalkKit
import Derived.WalkLawsBesides
import Derived.Lib.Hide
import Derived.Below
import Derived.Deep.QuietTactic
import Derived.BigQuiet
import Derived.Deep.RegionWith
import Derived.Laws.Rows
namespace Go.Proofs.YtkhicgafhbecfaaGreatDoor

def inR (x : Int) : Bool := decide (-9223372036854775808 ≤ x) && decide (x ≤ 9223372036854775807)
def rup (a b : Int) : Bool := a.tmod b != 0 && (decide (a < 0) != decide (b < 0))
def fits (a b : Int) : Bool := a != -9223372036854775808 || b != -1
def spl (a b : Int) : Bool := b != 0 && fits a b
def ifb (c : Bool) (n : Int) : Int := match c with | true => n | false => 0

theorem ifb_false (n : Int) : ifb false n = 0 := rfl
theorem ifb_true (n : Int) : ifb true n = n := rfl

theorem inR_iff {x : Int} : inR x = true ↔ -9223372036854775808 ≤ x ∧ x ≤ 9223372036854775807 := by simp [inR]

theorem tm_eq (a b : Int) : b * a.tdiv b + a.tmod b = a := Int.mul_tdiv_add_tmod a b
theorem fm_eq (a b : Int) : b * a.fdiv b + a.fmod b = a := Int.mul_fdiv_add_fmod a b

theorem tm_bd (a b : Int) (hb : b ≠ 0) : (0 ≤ a → 0 ≤ a.tmod b ∧ a.tmod b < b.natAbs) ∧ (a < 0 → a.tmod b ≤ 0 ∧ -(b.natAbs : Int) < a.tmod b) := by
  constructor
  · intro h
    refine ⟨Int.tmod_nonneg b h, ?_⟩
    have := Int.tmod_lt_of_pos
    have h1 : a.tmod b = a.tmod b.natAbs := by
      rcases Int.natAbs_eq b with e | e
      · rw [← e]
      · conv => lhs; rw [e]
        rw [Int.tmod_neg]
    rw [h1]
    exact Int.tmod_lt_of_pos _ (by omega)
  · intro h
    have h1 : a.tmod b = a.tmod b.natAbs := by
      rcases Int.natAbs_eq b with e | e
      · rw [← e]
      · conv => lhs; rw [e]
        rw [Int.tmod_neg]
    have h2 : a.tmod b.natAbs = -((-a).tmod b.natAbs) := by rw [Int.neg_tmod]; omega
    have h3 := Int.tmod_nonneg (b.natAbs : Int) (a := -a) (by omega)
    have h4 := Int.tmod_lt_of_pos (-a) (b := (b.natAbs : Int)) (by omega)
    rw [h1, h2]
    omega

theorem fdiv_unique (a b q r : Int) (h : b * q + r = a) (hr : (0 < b ∧ 0 ≤ r ∧ r < b) ∨ (b < 0 ∧ r ≤ 0 ∧ b < r)) : a.fdiv b = q ∧ a.fmod b = r := by
  have e : a.fdiv b = q := by
    rcases hr with ⟨h0, h1, h2⟩ | ⟨h0, h1, h2⟩
    · rw [Int.fdiv_eq_ediv_of_nonneg _ (by omega), ← h, Int.add_comm, Int.add_mul_ediv_left _ _ (by omega), Int.ediv_eq_zero_of_lt h1 h2]; omega
    · have : a.fdiv b = (-a).fdiv (-b) := by rw [Int.neg_fdiv_neg]
      rw [this, Int.fdiv_eq_ediv_of_nonneg _ (by omega)]
      have h' : -a = -r + (-b) * q := by rw [← h, Int.neg_mul]; omega
      rw [h', Int.add_mul_ediv_left _ _ (by omega), Int.ediv_eq_zero_of_lt (by omega) (by omega)]; omega
  refine ⟨e, ?_⟩
  have := fm_eq a b
  rw [e] at this
  omega

theorem fm_bd (a b : Int) (hb : b ≠ 0) : (0 < b ∧ 0 ≤ a.fmod b ∧ a.fmod b < b) ∨ (b < 0 ∧ a.fmod b ≤ 0 ∧ b < a.fmod b) := by
  rcases Int.lt_trichotomy b 0 with h | h | h
  · right
    have h1 : a.fmod b = -((-a).fmod (-b)) := by rw [Int.neg_fmod_neg]; omega
    have h2 := Int.fmod_nonneg_of_pos (-a) (b := -b) (by omega)
    have h3 := Int.fmod_lt_of_pos (-a) (b := -b) (by omega)
    omega
  · exact absurd h hb
  · left
    exact ⟨h, Int.fmod_nonneg_of_pos a h, Int.fmod_lt_of_pos a h⟩

theorem rup_true (a b : Int) (hb : b ≠ 0) (h : rup a b = true) : a.fdiv b = a.tdiv b - 1 ∧ a.fmod b = a.tmod b + b := by
  have e := tm_eq a b
  obtain ⟨h1, h2⟩ := tm_bd a b hb
  refine fdiv_unique a b _ _ (by rw [Int.mul_sub, Int.mul_one]; omega) ?_
  simp [rup] at h
  by_cases ha : a < 0 <;> by_cases hb' : b < 0 <;> simp [ha, hb'] at h <;> omega

theorem rup_false (a b : Int) (hb : b ≠ 0) (h : rup a b = false) : a.fdiv b = a.tdiv b ∧ a.fmod b = a.tmod b := by
  have e := tm_eq a b
  obtain ⟨h1, h2⟩ := tm_bd a b hb
  refine fdiv_unique a b _ _ e ?_
  simp [rup] at h
  by_cases ha : a < 0 <;> by_cases hb' : b < 0 <;> simp [ha, hb'] at h <;> omega
end Go.Proofs.YtkhicgafhbecfaaGreatDoor

namespace Go.Proofs.YtkhicgafhbecfaaGreatDoor
open Go.RowKit

theorem fits_iff {a b : Int} : fits a b = true ↔ ¬ (a = -9223372036854775808 ∧ b = -1) := by
  simp [fits]; omega

theorem fits_false {a b : Int} : fits a b = false ↔ (a = -9223372036854775808 ∧ b = -1) := by
  simp [fits]

theorem nat_tdiv_le (a b : Int) : (a.tdiv b).natAbs ≤ a.natAbs := by
  rw [Int.natAbs_tdiv]; exact Nat.div_le_self _ _

theorem tdiv_in (a b : Int) (ha : inR a = true) (hb : b ≠ 0) (hf : fits a b = true) : inR (a.tdiv b) = true := by
  rw [inR_iff] at ha ⊢
  rw [fits_iff] at hf
  have h1 := nat_tdiv_le a b
  have e := tm_eq a b
  obtain ⟨h2, h3⟩ := tm_bd a b hb
  by_cases h : a.tdiv b = 9223372036854775808
  · rw [h] at e
    omega
  · omega

theorem tdiv_dec (a b : Int) (ha : inR a = true) (hb : b ≠ 0) (hr : rup a b = true) : inR (a.tdiv b - 1) = true := by
  rw [inR_iff] at ha ⊢
  have h1 := nat_tdiv_le a b
  have e := tm_eq a b
  obtain ⟨h2, h3⟩ := tm_bd a b hb
  have hm : a.tmod b ≠ 0 := by
    intro h; simp [rup, h] at hr
  by_cases h : a.tdiv b = -9223372036854775808
  · rw [h] at e
    omega
  · by_cases h' : a.tdiv b = 9223372036854775808
    · rw [h'] at e
      omega
    · omega

theorem wrap64_of (x : Int) (h : inR x = true) : wrap64 x = x := IntWalk.wrap64_in x (inR_iff.1 h)

theorem fits_of_rup (a b : Int) (h : rup a b = true) : fits a b = true := by
  rw [fits_iff]
  rintro ⟨rfl, rfl⟩
  revert h
  decide

theorem div_val_yes (a b : Int) (ha : inR a = true) (hb : b ≠ 0) (hr : rup a b = true) : wrap64 (wrap64 (a.tdiv b) - 1) = a.fdiv b := by
  rw [wrap64_of _ (tdiv_in a b ha hb (fits_of_rup a b hr)), wrap64_of _ (tdiv_dec a b ha hb hr), (rup_true a b hb hr).1]
theorem div_val_no (a b : Int) (ha : inR a = true) (hb : b ≠ 0) (hf : fits a b = true) (hr : rup a b = false) : wrap64 (a.tdiv b) = a.fdiv b := by
  rw [wrap64_of _ (tdiv_in a b ha hb hf), (rup_false a b hb hr).1]
theorem mod_val_yes (a b : Int) (_ha : inR a = true) (hbr : inR b = true) (hb : b ≠ 0) (hr : rup a b = true) : wrap64 (a.tmod b + b) = a.fmod b := by
  have h := (rup_true a b hb hr).2
  have h2 := fm_bd a b hb
  rw [inR_iff] at hbr
  rw [← h, wrap64_of _ (inR_iff.2 (by omega))]
theorem mod_val_no (a b : Int) (hb : b ≠ 0) (hr : rup a b = false) : a.tmod b = a.fmod b := (rup_false a b hb hr).2.symm

theorem add_ok (a b : Int) (ha : inR a = true) (hb : inR b = true) : ((decide (wrap64 (a + b) < a)) == decide (b < 0)) = inR (a + b) := by
  rw [inR_iff] at ha hb
  rw [Bool.eq_iff_iff, inR_iff]
  unfold wrap64
  by_cases h : b < 0 <;> simp [h] <;> omega
theorem sub_ok (a b : Int) (ha : inR a = true) (hb : inR b = true) : ((decide (wrap64 (a - b) < a)) == decide (0 < b)) = inR (a - b) := by
  rw [inR_iff] at ha hb
  rw [Bool.eq_iff_iff, inR_iff]
  unfold wrap64
  by_cases h : 0 < b <;> simp [h] <;> omega

theorem wrap64_mod (x : Int) : ∃ k : Int, wrap64 x = x + 18446744073709551616 * k := by
  refine ⟨-((x + 9223372036854775808) / 18446744073709551616), ?_⟩
  unfold wrap64
  omega

theorem mul_ok (a b : Int) (ha : inR a = true) (hb : inR b = true) (h0 : a ≠ 0) : (fits (wrap64 (a * b)) a && (wrap64 (a * b)).tdiv a == b) = inR (a * b) := by
  rw [Bool.eq_iff_iff, Bool.and_eq_true, beq_iff_eq]
  constructor
  · rintro ⟨-, h⟩
    obtain ⟨k, hk⟩ := wrap64_mod (a * b)
    have e := tm_eq (wrap64 (a * b)) a
    rw [h] at e
    obtain ⟨h1, h2⟩ := tm_bd (wrap64 (a * b)) a h0
    rw [inR_iff] at ha
    have hw : inR (wrap64 (a * b)) = true := by rw [inR_iff]; unfold wrap64; omega
    have : k = 0 := by
      rcases Int.lt_or_le (wrap64 (a * b)) 0 with hl | hl
      · have := h2 hl; omega
      · have := h1 hl; omega
    subst this
    rw [hk] at hw
    simpa using hw
  · intro h
    rw [wrap64_of _ h]
    refine ⟨?_, Int.mul_tdiv_cancel_left b h0⟩
    rw [fits_iff]
    rintro ⟨e, rfl⟩
    rw [inR_iff] at hb
    omega
end Go.Proofs.YtkhicgafhbecfaaGreatDoor

namespace Go.Proofs.YtkhicgafhbecfaaGreatDoor
open Go.RowKit

theorem ret_int {a b : Int} (h : a = b) : Ending.returned (.int .i64 a) = .returned (.int .i64 b) := by rw [h]
theorem ret_bool {a b : Bool} (h : a = b) : Ending.returned (.bool a) = .returned (.bool b) := by rw [h]
theorem ret_ii {a b c d : Int} (h : a = b) (g : c = d) : Ending.returned (.tuple #[.int .i64 a, .int .i64 c]) = .returned (.tuple #[.int .i64 b, .int .i64 d]) := by rw [h, g]


theorem ret_dt {a b c a' b' c' : Int} (h1 : a = a') (h2 : b = b') (h3 : c = c') : Ending.returned (.agg #[.int .i64 a, .int .i64 b, .int .i64 c]) = .returned (.agg #[.int .i64 a', .int .i64 b', .int .i64 c']) := by rw [h1, h2, h3]

def inY (y : Int) : Bool := decide (1 ≤ y) && decide (y ≤ 1000000000)
theorem inY_iff {y : Int} : inY y = true ↔ 1 ≤ y ∧ y ≤ 1000000000 := by simp [inY]
theorem inY_false {y : Int} (h : ¬ (1 ≤ y ∧ y ≤ 1000000000)) : inY y = false := by
  cases g : inY y with
  | false => rfl
  | true => exact absurd (inY_iff.1 g) h


def lens : List Int := [31, 28, 31, 30, 31, 30, 31, 31, 30, 31, 30, 31]

def clampI (n l h : Int) : Int := if n < l then l else if h < n then h else n
theorem clamp_lo {n l h : Int} (h1 : n < l) : l = clampI n l h := by unfold clampI; rw [if_pos h1]
theorem clamp_hi {n l h : Int} (h1 : l ≤ n) (h2 : h < n) : h = clampI n l h := by unfold clampI; rw [if_neg (by omega), if_pos h2]
theorem clamp_in {n l h : Int} (h1 : l ≤ n) (h2 : n ≤ h) : n = clampI n l h := by unfold clampI; rw [if_neg (by omega), if_neg (by omega)]
theorem quiet_same {P : Program} {f : FuncId} {args : Array Value} {w : World} {n : Nat} {v : Value}
    (h : Calls P f args (w.drewN n) fun e w' => e = .returned v ∧ w.drewN n = w') : Calls P f args (w.drewN n) fun e w'' => e = .returned v ∧ ∃ m, w'' = w.drewN m :=
  h.mono fun _ _ ⟨he, hm⟩ => ⟨he, n, hm.symm⟩
theorem below_dn {B : Nat} {a w : World} (h : Below B a w) (n : Nat) : Below B a (w.drewN n) := ⟨h.os, h.tape, h.output, h.size, h.block⟩

theorem bcell {W w1 : World} (hb : Below W.heap.size W w1) : (∀ b o, b < W.heap.size → w1.cell? ⟨b, o, none⟩ = W.cell? ⟨b, o, none⟩) ∧ (∀ b o, b < W.heap.size → w1.frozen? ⟨b, o, none⟩ = W.frozen? ⟨b, o, none⟩) :=
  ⟨fun b o h => hb.cell (p := ⟨b, o, none⟩) h, fun b o h => hb.frozen (p := ⟨b, o, none⟩) h⟩
theorem below_al1 {w w1 : World} {o : Obj} (hb : Below (w.alloc o).heap.size (w.alloc o) w1) : Below w.heap.size w w1 :=
  ((Below.refl _ _).alloc (Nat.le_refl _) _).trans (hb.mono (by simp))


theorem dn_al (x : World) (o : Obj) (n : Nat) : (x.alloc o).drewN n = (x.drewN n).alloc o := rfl
theorem dn_dn (x : World) (a b : Nat) : (x.drewN a).drewN b = x.drewN (a + b) := by simp [World.drewN, Nat.add_assoc]
theorem two_set (x : World) (o1 : Obj) (t : Nat) (a j r j' r' : Value) (k : Nat) :
    ((((x.alloc o1).alloc (Obj.cells #[a, j, r] t)).drewN k).setCell ⟨x.heap.size + 1, 2, none⟩ r').setCell ⟨x.heap.size + 1, 1, none⟩ j' = ((x.drewN k).alloc o1).alloc (Obj.cells #[a, j', r'] t) := by
  rw [dn_al, dn_al]
  go_simp
theorem cell_mid (x : World) (o1 : Obj) (t : Nat) (a j r : Value) :
    ((x.alloc o1).alloc (Obj.cells #[a, j, r] t)).cell? ⟨x.heap.size + 1, 1, none⟩ = some j := by go_simp

theorem cell_below {w w' : World} {b o : Nat} {v : Value} (h : w.cell? ⟨b, o, none⟩ = some v) (hb : Below w.heap.size w w') : w'.cell? ⟨b, o, none⟩ = some v := by
  rw [hb.cell (p := ⟨b, o, none⟩) (World.block_lt_of_cell? w _ h)]; exact h
theorem below_on {W w w' : World} (h : Below W.heap.size W w) (hb : Below w.heap.size w w') : Below W.heap.size W w' := h.trans (hb.mono h.size)
def Two (W : World) (b1 b2 : Nat) (y m d y' m' d' : Int) (u : World) : Prop :=
  u.cell? ⟨b1, 0, none⟩ = some (.int .i64 y) ∧ u.cell? ⟨b1, 1, none⟩ = some (.int .i64 m) ∧ u.cell? ⟨b1, 2, none⟩ = some (.int .i64 d) ∧
  u.cell? ⟨b2, 0, none⟩ = some (.int .i64 y') ∧ u.cell? ⟨b2, 1, none⟩ = some (.int .i64 m') ∧ u.cell? ⟨b2, 2, none⟩ = some (.int .i64 d') ∧ Below W.heap.size W u
theorem Two.on {W : World} {b1 b2 : Nat} {y m d y' m' d' : Int} {u u' : World} (h : Two W b1 b2 y m d y' m' d' u) (hb : Below u.heap.size u u') : Two W b1 b2 y m d y' m' d' u' := by
  obtain ⟨a1, a2, a3, a4, a5, a6, a7⟩ := h
  exact ⟨cell_below a1 hb, cell_below a2 hb, cell_below a3 hb, cell_below a4 hb, cell_below a5 hb, cell_below a6 hb, below_on a7 hb⟩
theorem Two.drew {W : World} {b1 b2 : Nat} {y m d y' m' d' : Int} {u : World} (h : Two W b1 b2 y m d y' m' d' u) : Two W b1 b2 y m d y' m' d' u.drew :=
  h.on (below_dn (Below.refl _ _) 1)


/-- One date in memory. -/
def One (W : World) (b : Nat) (y m d : Int) (u : World) : Prop :=
  u.cell? ⟨b, 0, none⟩ = some (.int .i64 y) ∧ u.cell? ⟨b, 1, none⟩ = some (.int .i64 m) ∧ u.cell? ⟨b, 2, none⟩ = some (.int .i64 d) ∧ Below W.heap.size W u
theorem One.on {W : World} {b : Nat} {y m d : Int} {u u' : World} (h : One W b y m d u) (hb : Below u.heap.size u u') : One W b y m d u' := by
  obtain ⟨a1, a2, a3, a7⟩ := h
  exact ⟨cell_below a1 hb, cell_below a2 hb, cell_below a3 hb, below_on a7 hb⟩

/-- A struct of three cells, each written: what the cells hold then. -/
theorem three_set {w1 : World} {b t : Nat} {a0 a1 a2 : Value} (x y z : Value) (h : w1.heap[b]? = some (.cells #[a0, a1, a2] t (0, 0))) {u : World} (hu : ((w1.setCell ⟨b, 0, none⟩ x).setCell ⟨b, 1, none⟩ y).setCell ⟨b, 2, none⟩ z = u) :
    u.cell? ⟨b, 0, none⟩ = some x ∧ u.cell? ⟨b, 1, none⟩ = some y ∧ u.cell? ⟨b, 2, none⟩ = some z := by
  have R := heap_setCell_same _ b 2 _ _ z (heap_setCell_same _ b 1 _ _ y (heap_setCell_same w1 b 0 _ _ x h))
  rw [hu] at R
  refine ⟨?_, ?_, ?_⟩
  · rw [cell_of_row u b 0 _ _ _ R]; rfl
  · rw [cell_of_row u b 1 _ _ _ R]; rfl
  · rw [cell_of_row u b 2 _ _ _ R]; rfl
theorem row_after {w w1 : World} {o : Obj} (hb : Below (w.alloc o).heap.size (w.alloc o) w1) : w1.heap[w.heap.size]? = some o := by
  rw [hb.block _ (by simp)]; exact heap_alloc_new w o
theorem below_set3 {B : Nat} {w w1 : World} (h : Below B w w1) {b : Nat} (hB : B ≤ b) (x y z : Value) {u : World} (hu : ((w1.setCell ⟨b, 0, none⟩ x).setCell ⟨b, 1, none⟩ y).setCell ⟨b, 2, none⟩ z = u) : Below B w u := by
  rw [← hu]; exact ((h.setCell (p := ⟨b, 0, none⟩) hB x).setCell (p := ⟨b, 1, none⟩) hB y).setCell (p := ⟨b, 2, none⟩) hB z
end Go.Proofs.YtkhicgafhbecfaaGreatDoor

namespace Go.Proofs.YtkhicgafhbecfaaGreatDoor
open Go.RowKit
def Tab (_ : World) : Prop := True
theorem Tab.on {w w' : World} (_ : Tab w) (_ : Below w.heap.size w w') : Tab w' := trivial
theorem Tab.dn {w : World} (_ : Tab w) (n : Nat) : Tab (w.drewN n) := trivial
theorem Tab.al {w : World} (_ : Tab w) (o : Obj) : Tab (w.alloc o) := trivial
def GTab (_ : World) : Prop := True
theorem GTab.on {w w' : World} (_ : GTab w) (_ : Below w.heap.size w w') : GTab w' := trivial
theorem GTab.dn {w : World} (_ : GTab w) (n : Nat) : GTab (w.drewN n) := trivial
theorem GTab.al {w : World} (_ : GTab w) (o : Obj) : GTab (w.alloc o) := trivial
def LTab (_ : World) : Prop := True
theorem LTab.on {w w' : World} (_ : LTab w) (_ : Below w.heap.size w w') : LTab w' := trivial
theorem LTab.dn {w : World} (_ : LTab w) (n : Nat) : LTab (w.drewN n) := trivial
theorem LTab.al {w : World} (_ : LTab w) (o : Obj) : LTab (w.alloc o) := trivial
end Go.Proofs.YtkhicgafhbecfaaGreatDoor

namespace Go.Proofs.YtkhicgafhbecfaaGreatDoor
open Go.RowKit

theorem qb_eq (a b : Int) (ha : inR a = true) (hb : b ≠ 0) (hf : fits a b = true) : wrap64 (wrap64 (a.tdiv b) * b) = a - a.tmod b := by
  rw [wrap64_of _ (tdiv_in a b ha hb hf)]
  have e := tm_eq a b
  have h1 : (a.tmod b).natAbs ≤ a.natAbs := by rw [Int.natAbs_tmod]; exact Nat.mod_le _ _
  obtain ⟨h2, h3⟩ := tm_bd a b hb
  rw [Int.mul_comm] at e
  have e2 : a.tdiv b * b = a - a.tmod b := by omega
  rw [e2]
  refine wrap64_of _ ?_
  rw [inR_iff] at ha ⊢
  rcases Int.lt_or_le a 0 with h | h
  · have := h3 h; omega
  · have := h2 h; omega

theorem wrap_sub (a x : Int) (h : inR (a - x) = true) : wrap64 (a - wrap64 x) = a - x := by
  rw [inR_iff] at h
  unfold wrap64
  omega

end Go.Proofs.YtkhicgafhbecfaaGreatDoor

namespace Go.Proofs.YtkhicgafhbecfaaGreatDoor

def l01 (b : Bool) : Int := match b with | true => 1 | false => 0
theorem l01_bd (b : Bool) : 0 ≤ l01 b ∧ l01 b ≤ 1 := by cases b <;> simp [l01]
def dim (l : Bool) (m : Int) : Int := if m = 2 then 28 + l01 l else if m = 4 ∨ m = 6 ∨ m = 9 ∨ m = 11 then 30 else if 1 ≤ m ∧ m ≤ 12 then 31 else 0
def cum (l : Bool) (m : Int) : Int := if m ≤ 2 then 31 * (m - 1) else (153 * (m - 3) + 2) / 5 + 59 + l01 l

theorem dim_bd (l : Bool) (m : Int) (h1 : 1 ≤ m) (h2 : m ≤ 12) : 28 ≤ dim l m ∧ dim l m ≤ 31 := by
  have := l01_bd l
  unfold dim; repeat' split
  all_goals omega
theorem dim_out (l : Bool) (m : Int) (h : m < 1 ∨ 12 < m) : dim l m = 0 := by
  unfold dim; repeat' split
  all_goals omega
theorem month_of_dim (l : Bool) (m : Int) (h : 1 ≤ dim l m) : 1 ≤ m ∧ m ≤ 12 := by
  rcases Int.lt_or_le m 1 with g | g
  · rw [dim_out l m (Or.inl g)] at h; omega
  · rcases Int.lt_or_le 12 m with g' | g'
    · rw [dim_out l m (Or.inr g')] at h; omega
    · exact ⟨g, g'⟩
theorem cum_one (l : Bool) : cum l 1 = 0 := by unfold cum; rw [if_pos (by omega)]; omega
theorem cum_succ (l : Bool) (m : Int) (h1 : 1 ≤ m) (h2 : m ≤ 12) : cum l (m + 1) = cum l m + dim l m := by
  have h : m = 1 ∨ m = 2 ∨ m = 3 ∨ m = 4 ∨ m = 5 ∨ m = 6 ∨ m = 7 ∨ m = 8 ∨ m = 9 ∨ m = 10 ∨ m = 11 ∨ m = 12 := by omega
  rcases h with rfl | rfl | rfl | rfl | rfl | rfl | rfl | rfl | rfl | rfl | rfl | rfl
  all_goals (cases l <;> rfl)
theorem cum_end (l : Bool) : cum l 13 = 365 + l01 l := by unfold cum; rw [if_neg (by omega)]; omega
theorem cum_mono (l : Bool) (m k : Int) (h1 : 1 ≤ m) (h2 : m ≤ k) (h3 : k ≤ 13) : cum l m ≤ cum l k := by
  have := l01_bd l
  unfold cum
  repeat' split
  all_goals omega
theorem cum_next (l : Bool) (m k : Int) (h1 : 1 ≤ m) (h2 : m < k) (h3 : k ≤ 13) : cum l m + dim l m ≤ cum l k := by
  rw [← cum_succ l m h1 (by omega)]; exact cum_mono l (m + 1) k (by omega) (by omega) h3
theorem cum_bd (l : Bool) (m : Int) (h1 : 1 ≤ m) (h2 : m ≤ 13) : 0 ≤ cum l m ∧ cum l m ≤ 366 := by
  have a := cum_mono l 1 m (by omega) h1 h2
  have b := cum_mono l m 13 h1 h2 (by omega)
  have := l01_bd l
  rw [cum_one] at a; rw [cum_end] at b; omega

theorem month_exists (l : Bool) (r : Int) (h0 : 0 ≤ r) (h1 : r < 365 + l01 l) : ∃ m : Int, 1 ≤ m ∧ m ≤ 12 ∧ cum l m ≤ r ∧ r < cum l m + dim l m := by
  suffices H : ∀ k : Nat, k ≤ 12 → r < cum l (1 + k) → ∃ m : Int, 1 ≤ m ∧ m ≤ 12 ∧ cum l m ≤ r ∧ r < cum l m + dim l m from
    H 12 (by omega) (by show r < cum l 13; rw [cum_end]; exact h1)
  intro k
  induction k with
  | zero => intro _ h; rw [show (1 : Int) + (0 : Nat) = 1 from rfl, cum_one] at h; omega
  | succ k ih =>
    intro hk h
    by_cases g : r < cum l (1 + k)
    · exact ih (by omega) g
    · refine ⟨1 + k, by omega, by omega, by omega, ?_⟩
      rw [← cum_succ l _ (by omega) (by omega)]
      rw [show ((k + 1 : Nat) : Int) = (k : Int) + 1 from by omega, show (1 : Int) + ((k : Int) + 1) = 1 + k + 1 from by omega] at h
      exact h

structure Cal where
  lp : Int → Bool
  fst : Int → Int
  step : ∀ y, 1 ≤ y → fst (y + 1) = fst y + 365 + l01 (lp y)

namespace Cal
variable (c : Cal)
def vld (y m d : Int) : Bool := decide (1 ≤ y ∧ y ≤ 1000000000 ∧ 1 ≤ d ∧ d ≤ dim (c.lp y) m)
def num (y m d : Int) : Int := c.fst y + cum (c.lp y) m + d - 1

theorem vld_iff {y m d : Int} : c.vld y m d = true ↔ 1 ≤ y ∧ y ≤ 1000000000 ∧ 1 ≤ d ∧ d ≤ dim (c.lp y) m := by unfold vld; exact decide_eq_true_iff
theorem vld_month {y m d : Int} (h : c.vld y m d = true) : 1 ≤ m ∧ m ≤ 12 := by
  rw [vld_iff] at h; exact month_of_dim (c.lp y) m (by omega)

theorem fst_mono (a b : Int) (h1 : 1 ≤ a) (h2 : a ≤ b) : c.fst a ≤ c.fst b := by
  obtain ⟨k, rfl⟩ : ∃ k : Nat, b = a + k := ⟨(b - a).toNat, by omega⟩
  clear h2
  induction k with
  | zero => simp
  | succ k ih =>
    have := c.step (a + k) (by omega)
    have := l01_bd (c.lp (a + k))
    rw [show a + ((k + 1 : Nat) : Int) = a + k + 1 from by omega]; omega
theorem fst_lt (a b : Int) (h1 : 1 ≤ a) (h2 : a < b) : c.fst a + 365 + l01 (c.lp a) ≤ c.fst b := by
  rw [← c.step a h1]; exact c.fst_mono (a + 1) b (by omega) (by omega)

/-- the day's place in its year -/
theorem doy_bd {y m d : Int} (h : c.vld y m d = true) : 0 ≤ cum (c.lp y) m + d - 1 ∧ cum (c.lp y) m + d - 1 < 365 + l01 (c.lp y) := by
  obtain ⟨m1, m2⟩ := c.vld_month h
  rw [vld_iff] at h
  have a := cum_bd (c.lp y) m m1 (by omega)
  have b := cum_next (c.lp y) m 13 m1 (by omega) (by omega)
  rw [cum_end] at b; omega
theorem num_bd {y m d : Int} (h : c.vld y m d = true) : c.fst y ≤ c.num y m d ∧ c.num y m d < c.fst (y + 1) := by
  have := c.doy_bd h
  rw [c.step y (c.vld_iff.1 h).1]; unfold num; omega
theorem num_range {y m d : Int} (h : c.vld y m d = true) : c.fst 1 ≤ c.num y m d ∧ c.num y m d < c.fst 1000000001 := by
  have a := c.num_bd h
  have b := c.vld_iff.1 h
  have e1 := c.fst_mono 1 y (by omega) (by omega)
  have e2 := c.fst_mono (y + 1) 1000000001 (by omega) (by omega)
  omega

def less (y m d y' m' d' : Int) : Bool := decide (y < y' ∨ (y = y' ∧ (m < m' ∨ (m = m' ∧ d < d'))))
theorem num_lt {y m d y' m' d' : Int} (h : c.vld y m d = true) (h' : c.vld y' m' d' = true) (hl : less y m d y' m' d' = true) : c.num y m d < c.num y' m' d' := by
  obtain ⟨m1, m2⟩ := c.vld_month h
  obtain ⟨m1', m2'⟩ := c.vld_month h'
  unfold less at hl; rw [decide_eq_true_iff] at hl
  rcases hl with g | ⟨rfl, g | ⟨rfl, g⟩⟩
  · have a := c.num_bd h
    have b := c.num_bd h'
    have := c.fst_mono (y + 1) y' (by have := c.vld_iff.1 h; omega) (by omega)
    omega
  · rw [vld_iff] at h h'
    have := cum_next (c.lp y) m m' m1 g (by omega)
    unfold num; omega
  · unfold num; omega
theorem num_inj {y m d y' m' d' : Int} (h : c.vld y m d = true) (h' : c.vld y' m' d' = true) (e : c.num y m d = c.num y' m' d') : y = y' ∧ m = m' ∧ d = d' := by
  by_cases g : less y m d y' m' d' = true
  · have := c.num_lt h h' g; omega
  · by_cases g' : less y' m' d' y m d = true
    · have := c.num_lt h' h g'; omega
    · unfold less at g g'; rw [decide_eq_true_iff] at g g'; omega
theorem num_lt_iff {y m d y' m' d' : Int} (h : c.vld y m d = true) (h' : c.vld y' m' d' = true) : (decide (c.num y m d < c.num y' m' d')) = less y m d y' m' d' := by
  rw [Bool.eq_iff_iff, decide_eq_true_iff]
  refine ⟨fun e => ?_, c.num_lt h h'⟩
  by_cases g' : less y' m' d' y m d = true
  · have := c.num_lt h' h g'; omega
  · unfold less at g' ⊢
    rw [decide_eq_true_iff] at g' ⊢
    rcases Int.lt_trichotomy y y' with a | rfl | a
    · exact Or.inl a
    · rcases Int.lt_trichotomy m m' with a | rfl | a
      · exact Or.inr ⟨rfl, Or.inl a⟩
      · unfold num at e; exact Or.inr ⟨rfl, Or.inr ⟨rfl, by omega⟩⟩
      · omega
    · omega

theorem date_exists (n : Int) (h1 : c.fst 1 ≤ n) (h2 : n < c.fst 1000000001) : ∃ y m d : Int, c.vld y m d = true ∧ c.num y m d = n := by
  obtain ⟨y, y1, y2, y3, y4⟩ : ∃ y : Int, 1 ≤ y ∧ y ≤ 1000000000 ∧ c.fst y ≤ n ∧ n < c.fst y + 365 + l01 (c.lp y) := by
    suffices H : ∀ k : Nat, k ≤ 1000000000 → n < c.fst (1 + k) → ∃ y : Int, 1 ≤ y ∧ y ≤ 1000000000 ∧ c.fst y ≤ n ∧ n < c.fst y + 365 + l01 (c.lp y) from
      H 1000000000 (Nat.le_refl _) (by rw [show (1 : Int) + (1000000000 : Nat) = 1000000001 from by omega]; exact h2)
    intro k
    induction k with
    | zero => intro _ h; rw [show (1 : Int) + (0 : Nat) = 1 from rfl] at h; omega
    | succ k ih =>
      intro hk h
      by_cases g : n < c.fst (1 + k)
      · exact ih (by omega) g
      · refine ⟨1 + k, by omega, by omega, by omega, ?_⟩
        rw [show (1 : Int) + ((k + 1 : Nat) : Int) = 1 + k + 1 from by omega, c.step _ (by omega)] at h
        exact h
  obtain ⟨m, m1, m2, m3, m4⟩ := month_exists (c.lp y) (n - c.fst y) (by omega) (by omega)
  exact ⟨y, m, n - c.fst y - cum (c.lp y) m + 1, c.vld_iff.2 ⟨y1, y2, by omega, by omega⟩, by unfold num; omega⟩

/-- the day after a date of a year that is a leap year or not -/
def nextY (l : Bool) (y m d : Int) : Int := if d < dim l m then y else if m < 12 then y else y + 1
def nextM (l : Bool) (_y m d : Int) : Int := if d < dim l m then m else if m < 12 then m + 1 else 1
def nextD (l : Bool) (_y m d : Int) : Int := if d < dim l m then d + 1 else 1
theorem next_num {y m d : Int} (h : c.vld y m d = true) (hn : c.num y m d + 1 < c.fst 1000000001) :
    c.vld (nextY (c.lp y) y m d) (nextM (c.lp y) y m d) (nextD (c.lp y) y m d) = true ∧ c.num (nextY (c.lp y) y m d) (nextM (c.lp y) y m d) (nextD (c.lp y) y m d) = c.num y m d + 1 := by
  obtain ⟨m1, m2⟩ := c.vld_month h
  have hv := c.vld_iff.1 h
  unfold nextY nextM nextD
  split
  · exact ⟨c.vld_iff.2 ⟨by omega, by omega, by omega, by omega⟩, by unfold num; omega⟩
  · split
    · have := dim_bd (c.lp y) (m + 1) (by omega) (by omega)
      exact ⟨c.vld_iff.2 ⟨by omega, by omega, by omega, by omega⟩, by unfold num; rw [cum_succ _ _ m1 m2]; omega⟩
    · obtain rfl : m = 12 := by omega
      have e1 := cum_succ (c.lp y) 12 (by omega) (by omega)
      have e2 := cum_end (c.lp y)
      rw [show (12 : Int) + 1 = 13 from rfl, e2] at e1
      have e3 := c.step y hv.1
      have hy : y < 1000000000 := by
        rcases Int.lt_or_le y 1000000000 with g | g
        · exact g
        · obtain rfl : y = 1000000000 := by omega
          rw [show (1000000000 : Int) + 1 = 1000000001 from rfl] at e3
          unfold num at hn; omega
      have := dim_bd (c.lp (y + 1)) 1 (by omega) (by omega)
      refine ⟨c.vld_iff.2 ⟨by omega, by omega, by omega, by omega⟩, ?_⟩
      unfold num; rw [cum_one]; omega
end Cal
end Go.Proofs.YtkhicgafhbecfaaGreatDoor

namespace Go.Proofs.YtkhicgafhbecfaaGreatDoor
open Go.RowKit

theorem ret_ib {a b : Int} {c d : Bool} (h : a = b) (g : c = d) : Ending.returned (.tuple #[.int .i64 a, .bool c]) = .returned (.tuple #[.int .i64 b, .bool d]) := by rw [h, g]

theorem spl_pos (a b : Int) (hb : 0 < b) : spl a b = true := by
  have h1 : b ≠ 0 := by omega
  have h2 : b ≠ -1 := by omega
  simp [spl, fits, h1, h2]
end Go.Proofs.YtkhicgafhbecfaaGreatDoor
