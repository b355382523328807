/- What earlier stages proved: Me Fz Cal. -/
import Derived.Test.YtomoaolomddidaaRows
import Derived.WalkKit
import Derived.WalkLawsBesides
import Derived.Lib.Hide
import Derived.Below
import Derived.Deep.QuietTactic
import Derived.BigQuiet
import Derived.Deep.RegionWith
import Derived.Laws.Rows
import Derived.IntWalk
namespace Go.Proofs.Ytomoaolomddidaa
open Go.RowKit

theorem below_dn {B : Nat} {a w : World} (h : Below B a w) (n : Nat) : Below B a (w.drewN n) := ⟨h.os, h.tape, h.output, h.size, h.block⟩

theorem bcell {W w1 : World} (hb : Below W.heap.size W w1) : (∀ b o, b < W.heap.size → w1.cell? ⟨b, o, none⟩ = W.cell? ⟨b, o, none⟩) ∧ (∀ b o, b < W.heap.size → w1.frozen? ⟨b, o, none⟩ = W.frozen? ⟨b, o, none⟩) :=
  ⟨fun b o h => hb.cell (p := ⟨b, o, none⟩) h, fun b o h => hb.frozen (p := ⟨b, o, none⟩) h⟩
theorem cell_below {w w' : World} {b o : Nat} {v : Value} (h : w.cell? ⟨b, o, none⟩ = some v) (hb : Below w.heap.size w w') : w'.cell? ⟨b, o, none⟩ = some v := by
  rw [hb.cell (p := ⟨b, o, none⟩) (World.block_lt_of_cell? w _ h)]; exact h
theorem below_on {W w w' : World} (h : Below W.heap.size W w) (hb : Below w.heap.size w w') : Below W.heap.size W w' := h.trans (hb.mono h.size)
def Two (W : World) (b1 b2 : Nat) (y m d y' m' d' : Int) (u : World) : Prop :=
  u.cell? ⟨b1, 0, none⟩ = some (.int .i64 y) ∧ u.cell? ⟨b1, 1, none⟩ = some (.int .i64 m) ∧ u.cell? ⟨b1, 2, none⟩ = some (.int .i64 d) ∧
  u.cell? ⟨b2, 0, none⟩ = some (.int .i64 y') ∧ u.cell? ⟨b2, 1, none⟩ = some (.int .i64 m') ∧ u.cell? ⟨b2, 2, none⟩ = some (.int .i64 d') ∧ Below W.heap.size W u
theorem Two.on {W : World} {b1 b2 : Nat} {y m d y' m' d' : Int} {u u' : World} (h : Two W b1 b2 y m d y' m' d' u) (hb : Below u.heap.size u u') : Two W b1 b2 y m d y' m' d' u' := by
  obtain ⟨a1, a2, a3, a4, a5, a6, a7⟩ := h
  exact ⟨cell_below a1 hb, cell_below a2 hb, cell_below a3 hb, cell_below a4 hb, cell_below a5 hb, cell_below a6 hb, below_on a7 hb⟩
theorem Two.drew {W : World} {b1 b2 : Nat} {y m d y' m' d' : Int} {u : World} (h : Two W b1 b2 y m d y' m' d' u) : Two W b1 b2 y m d y' m' d' u.drew :=
  h.on (below_dn (Below.refl _ _) 1)


/-- One date in memory. -/
def One (W : World) (b : Nat) (y m d : Int) (u : World) : Prop :=
  u.cell? ⟨b, 0, none⟩ = some (.int .i64 y) ∧ u.cell? ⟨b, 1, none⟩ = some (.int .i64 m) ∧ u.cell? ⟨b, 2, none⟩ = some (.int .i64 d) ∧ Below W.heap.size W u
theorem One.on {W : World} {b : Nat} {y m d : Int} {u u' : World} (h : One W b y m d u) (hb : Below u.heap.size u u') : One W b y m d u' := by
  obtain ⟨a1, a2, a3, a7⟩ := h
  exact ⟨cell_below a1 hb, cell_below a2 hb, cell_below a3 hb, below_on a7 hb⟩

theorem below_set3 {B : Nat} {w w1 : World} (h : Below B w w1) {b : Nat} (hB : B ≤ b) (x y z : Value) {u : World} (hu : ((w1.setCell ⟨b, 0, none⟩ x).setCell ⟨b, 1, none⟩ y).setCell ⟨b, 2, none⟩ z = u) : Below B w u := by
  rw [← hu]; exact ((h.setCell (p := ⟨b, 0, none⟩) hB x).setCell (p := ⟨b, 1, none⟩) hB y).setCell (p := ⟨b, 2, none⟩) hB z
end Go.Proofs.Ytomoaolomddidaa

namespace Go.Proofs.Ytomoaolomddidaa
open Go.RowKit
def Tab (_ : World) : Prop := True
theorem Tab.on {w w' : World} (_ : Tab w) (_ : Below w.heap.size w w') : Tab w' := trivial
theorem Tab.dn {w : World} (_ : Tab w) (n : Nat) : Tab (w.drewN n) := trivial
theorem Tab.al {w : World} (_ : Tab w) (o : Obj) : Tab (w.alloc o) := trivial
def GTab (_ : World) : Prop := True
theorem GTab.on {w w' : World} (_ : GTab w) (_ : Below w.heap.size w w') : GTab w' := trivial
theorem GTab.dn {w : World} (_ : GTab w) (n : Nat) : GTab (w.drewN n) := trivial
theorem GTab.al {w : World} (_ : GTab w) (o : Obj) : GTab (w.alloc o) := trivial
def LTab (_ : World) : Prop := True
theorem LTab.on {w w' : World} (_ : LTab w) (_ : Below w.heap.size w w') : LTab w' := trivial
theorem LTab.dn {w : World} (_ : LTab w) (n : Nat) : LTab (w.drewN n) := trivial
theorem LTab.al {w : World} (_ : LTab w) (o : Obj) : LTab (w.alloc o) := trivial
end Go.Proofs.Ytomoaolomddidaa

namespace Go.Proofs.Ytomoaolomddidaa

def l01 (b : Bool) : Int := match b with | true => 1 | false => 0
theorem l01_bd (b : Bool) : 0 ≤ l01 b ∧ l01 b ≤ 1 := by cases b <;> simp [l01]
def dim (l : Bool) (m : Int) : Int := if m = 2 then 28 + l01 l else if m = 4 ∨ m = 6 ∨ m = 9 ∨ m = 11 then 30 else if 1 ≤ m ∧ m ≤ 12 then 31 else 0
def cum (l : Bool) (m : Int) : Int := if m ≤ 2 then 31 * (m - 1) else (153 * (m - 3) + 2) / 5 + 59 + l01 l

theorem dim_bd (l : Bool) (m : Int) (h1 : 1 ≤ m) (h2 : m ≤ 12) : 28 ≤ dim l m ∧ dim l m ≤ 31 := by
  have := l01_bd l
  unfold dim; repeat' split
  all_goals omega
theorem dim_out (l : Bool) (m : Int) (h : m < 1 ∨ 12 < m) : dim l m = 0 := by
  unfold dim; repeat' split
  all_goals omega
theorem month_of_dim (l : Bool) (m : Int) (h : 1 ≤ dim l m) : 1 ≤ m ∧ m ≤ 12 := by
  rcases Int.lt_or_le m 1 with g | g
  · rw [dim_out l m (Or.inl g)] at h; omega
  · rcases Int.lt_or_le 12 m with g' | g'
    · rw [dim_out l m (Or.inr g')] at h; omega
    · exact ⟨g, g'⟩
theorem cum_one (l : Bool) : cum l 1 = 0 := by unfold cum; rw [if_pos (by omega)]; omega
theorem cum_succ (l : Bool) (m : Int) (h1 : 1 ≤ m) (h2 : m ≤ 12) : cum l (m + 1) = cum l m + dim l m := by
  have h : m = 1 ∨ m = 2 ∨ m = 3 ∨ m = 4 ∨ m = 5 ∨ m = 6 ∨ m = 7 ∨ m = 8 ∨ m = 9 ∨ m = 10 ∨ m = 11 ∨ m = 12 := by omega
  rcases h with rfl | rfl | rfl | rfl | rfl | rfl | rfl | rfl | rfl | rfl | rfl | rfl
  all_goals (cases l <;> rfl)
theorem cum_end (l : Bool) : cum l 13 = 365 + l01 l := by unfold cum; rw [if_neg (by omega)]; omega
theorem cum_mono (l : Bool) (m k : Int) (h1 : 1 ≤ m) (h2 : m ≤ k) (h3 : k ≤ 13) : cum l m ≤ cum l k := by
  have := l01_bd l
  unfold cum
  repeat' split
  all_goals omega
theorem cum_next (l : Bool) (m k : Int) (h1 : 1 ≤ m) (h2 : m < k) (h3 : k ≤ 13) : cum l m + dim l m ≤ cum l k := by
  rw [← cum_succ l m h1 (by omega)]; exact cum_mono l (m + 1) k (by omega) (by omega) h3
theorem cum_bd (l : Bool) (m : Int) (h1 : 1 ≤ m) (h2 : m ≤ 13) : 0 ≤ cum l m ∧ cum l m ≤ 366 := by
  have a := cum_mono l 1 m (by omega) h1 h2
  have b := cum_mono l m 13 h1 h2 (by omega)
  have := l01_bd l
  rw [cum_one] at a; rw [cum_end] at b; omega

theorem month_exists (l : Bool) (r : Int) (h0 : 0 ≤ r) (h1 : r < 365 + l01 l) : ∃ m : Int, 1 ≤ m ∧ m ≤ 12 ∧ cum l m ≤ r ∧ r < cum l m + dim l m := by
  suffices H : ∀ k : Nat, k ≤ 12 → r < cum l (1 + k) → ∃ m : Int, 1 ≤ m ∧ m ≤ 12 ∧ cum l m ≤ r ∧ r < cum l m + dim l m from
    H 12 (by omega) (by show r < cum l 13; rw [cum_end]; exact h1)
  intro k
  induction k with
  | zero => intro _ h; rw [show (1 : Int) + (0 : Nat) = 1 from rfl, cum_one] at h; omega
  | succ k ih =>
    intro hk h
    by_cases g : r < cum l (1 + k)
    · exact ih (by omega) g
    · refine ⟨1 + k, by omega, by omega, by omega, ?_⟩
      rw [← cum_succ l _ (by omega) (by omega)]
      rw [show ((k + 1 : Nat) : Int) = (k : Int) + 1 from by omega, show (1 : Int) + ((k : Int) + 1) = 1 + k + 1 from by omega] at h
      exact h

structure Cal where
  lp : Int → Bool
  fst : Int → Int
  step : ∀ y, 1 ≤ y → fst (y + 1) = fst y + 365 + l01 (lp y)

namespace Cal
variable (c : Cal)
def vld (y m d : Int) : Bool := decide (1 ≤ y ∧ y ≤ 1000000000 ∧ 1 ≤ d ∧ d ≤ dim (c.lp y) m)
def num (y m d : Int) : Int := c.fst y + cum (c.lp y) m + d - 1

theorem vld_iff {y m d : Int} : c.vld y m d = true ↔ 1 ≤ y ∧ y ≤ 1000000000 ∧ 1 ≤ d ∧ d ≤ dim (c.lp y) m := by unfold vld; exact decide_eq_true_iff
theorem vld_month {y m d : Int} (h : c.vld y m d = true) : 1 ≤ m ∧ m ≤ 12 := by
  rw [vld_iff] at h; exact month_of_dim (c.lp y) m (by omega)

theorem fst_mono (a b : Int) (h1 : 1 ≤ a) (h2 : a ≤ b) : c.fst a ≤ c.fst b := by
  obtain ⟨k, rfl⟩ : ∃ k : Nat, b = a + k := ⟨(b - a).toNat, by omega⟩
  clear h2
  induction k with
  | zero => simp
  | succ k ih =>
    have := c.step (a + k) (by omega)
    have := l01_bd (c.lp (a + k))
    rw [show a + ((k + 1 : Nat) : Int) = a + k + 1 from by omega]; omega
/-- the day's place in its year -/
theorem doy_bd {y m d : Int} (h : c.vld y m d = true) : 0 ≤ cum (c.lp y) m + d - 1 ∧ cum (c.lp y) m + d - 1 < 365 + l01 (c.lp y) := by
  obtain ⟨m1, m2⟩ := c.vld_month h
  rw [vld_iff] at h
  have a := cum_bd (c.lp y) m m1 (by omega)
  have b := cum_next (c.lp y) m 13 m1 (by omega) (by omega)
  rw [cum_end] at b; omega
theorem num_bd {y m d : Int} (h : c.vld y m d = true) : c.fst y ≤ c.num y m d ∧ c.num y m d < c.fst (y + 1) := by
  have := c.doy_bd h
  rw [c.step y (c.vld_iff.1 h).1]; unfold num; omega
theorem num_range {y m d : Int} (h : c.vld y m d = true) : c.fst 1 ≤ c.num y m d ∧ c.num y m d < c.fst 1000000001 := by
  have a := c.num_bd h
  have b := c.vld_iff.1 h
  have e1 := c.fst_mono 1 y (by omega) (by omega)
  have e2 := c.fst_mono (y + 1) 1000000001 (by omega) (by omega)
  omega

def less (y m d y' m' d' : Int) : Bool := decide (y < y' ∨ (y = y' ∧ (m < m' ∨ (m = m' ∧ d < d'))))
theorem num_lt {y m d y' m' d' : Int} (h : c.vld y m d = true) (h' : c.vld y' m' d' = true) (hl : less y m d y' m' d' = true) : c.num y m d < c.num y' m' d' := by
  obtain ⟨m1, m2⟩ := c.vld_month h
  obtain ⟨m1', m2'⟩ := c.vld_month h'
  unfold less at hl; rw [decide_eq_true_iff] at hl
  rcases hl with g | ⟨rfl, g | ⟨rfl, g⟩⟩
  · have a := c.num_bd h
    have b := c.num_bd h'
    have := c.fst_mono (y + 1) y' (by have := c.vld_iff.1 h; omega) (by omega)
    omega
  · rw [vld_iff] at h h'
    have := cum_next (c.lp y) m m' m1 g (by omega)
    unfold num; omega
  · unfold num; omega
theorem num_inj {y m d y' m' d' : Int} (h : c.vld y m d = true) (h' : c.vld y' m' d' = true) (e : c.num y m d = c.num y' m' d') : y = y' ∧ m = m' ∧ d = d' := by
  by_cases g : less y m d y' m' d' = true
  · have := c.num_lt h h' g; omega
  · by_cases g' : less y' m' d' y m d = true
    · have := c.num_lt h' h g'; omega
    · unfold less at g g'; rw [decide_eq_true_iff] at g g'; omega
theorem date_exists (n : Int) (h1 : c.fst 1 ≤ n) (h2 : n < c.fst 1000000001) : ∃ y m d : Int, c.vld y m d = true ∧ c.num y m d = n := by
  obtain ⟨y, y1, y2, y3, y4⟩ : ∃ y : Int, 1 ≤ y ∧ y ≤ 1000000000 ∧ c.fst y ≤ n ∧ n < c.fst y + 365 + l01 (c.lp y) := by
    suffices H : ∀ k : Nat, k ≤ 1000000000 → n < c.fst (1 + k) → ∃ y : Int, 1 ≤ y ∧ y ≤ 1000000000 ∧ c.fst y ≤ n ∧ n < c.fst y + 365 + l01 (c.lp y) from
      H 1000000000 (Nat.le_refl _) (by rw [show (1 : Int) + (1000000000 : Nat) = 1000000001 from by omega]; exact h2)
    intro k
    induction k with
    | zero => intro _ h; rw [show (1 : Int) + (0 : Nat) = 1 from rfl] at h; omega
    | succ k ih =>
      intro hk h
      by_cases g : n < c.fst (1 + k)
      · exact ih (by omega) g
      · refine ⟨1 + k, by omega, by omega, by omega, ?_⟩
        rw [show (1 : Int) + ((k + 1 : Nat) : Int) = 1 + k + 1 from by omega, c.step _ (by omega)] at h
        exact h
  obtain ⟨m, m1, m2, m3, m4⟩ := month_exists (c.lp y) (n - c.fst y) (by omega) (by omega)
  exact ⟨y, m, n - c.fst y - cum (c.lp y) m + 1, c.vld_iff.2 ⟨y1, y2, by omega, by omega⟩, by unfold num; omega⟩

end Cal
end Go.Proofs.Ytomoaolomddidaa
