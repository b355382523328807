/- What earlier stages proved: M Me Fz Cal Mo. -/
import Derived.Test.YtlodijncaojifaaDoorRows
import Derived.WalkKit
import Derived.WalkLawsBesides
import Derived.Lib.Hide
import Derived.Below
import Derived.Deep.QuietTactic
import Derived.BigQuiet
import Derived.Deep.RegionWith
import Derived.Laws.Rows
import Derived.IntWalk
namespace Go.Proofs.YtlodijncaojifaaDoor

def fits (a b : Int) : Bool := a != -9223372036854775808 || b != -1
def spl (a b : Int) : Bool := b != 0 && fits a b
end Go.Proofs.YtlodijncaojifaaDoor

namespace Go.Proofs.YtlodijncaojifaaDoor
open Go.RowKit

theorem ret_int {a b : Int} (h : a = b) : Ending.returned (.int .i64 a) = .returned (.int .i64 b) := by rw [h]
theorem ret_bool {a b : Bool} (h : a = b) : Ending.returned (.bool a) = .returned (.bool b) := by rw [h]
theorem ret_ii {a b c d : Int} (h : a = b) (g : c = d) : Ending.returned (.tuple #[.int .i64 a, .int .i64 c]) = .returned (.tuple #[.int .i64 b, .int .i64 d]) := by rw [h, g]


theorem ret_dt {a b c a' b' c' : Int} (h1 : a = a') (h2 : b = b') (h3 : c = c') : Ending.returned (.agg #[.int .i64 a, .int .i64 b, .int .i64 c]) = .returned (.agg #[.int .i64 a', .int .i64 b', .int .i64 c']) := by rw [h1, h2, h3]

def inY (y : Int) : Bool := decide (1 ≤ y) && decide (y ≤ 1000000000)
theorem inY_iff {y : Int} : inY y = true ↔ 1 ≤ y ∧ y ≤ 1000000000 := by simp [inY]
theorem inY_false {y : Int} (h : ¬ (1 ≤ y ∧ y ≤ 1000000000)) : inY y = false := by
  cases g : inY y with
  | false => rfl
  | true => exact absurd (inY_iff.1 g) h


def lens : List Int := [31, 28, 31, 30, 31, 30, 31, 31, 30, 31, 30, 31]

def clampI (n l h : Int) : Int := if n < l then l else if h < n then h else n
theorem clamp_lo {n l h : Int} (h1 : n < l) : l = clampI n l h := by unfold clampI; rw [if_pos h1]
theorem clamp_hi {n l h : Int} (h1 : l ≤ n) (h2 : h < n) : h = clampI n l h := by unfold clampI; rw [if_neg (by omega), if_pos h2]
theorem clamp_in {n l h : Int} (h1 : l ≤ n) (h2 : n ≤ h) : n = clampI n l h := by unfold clampI; rw [if_neg (by omega), if_neg (by omega)]
theorem quiet_same {P : Program} {f : FuncId} {args : Array Value} {w : World} {n : Nat} {v : Value}
    (h : Calls P f args (w.drewN n) fun e w' => e = .returned v ∧ w.drewN n = w') : Calls P f args (w.drewN n) fun e w'' => e = .returned v ∧ ∃ m, w'' = w.drewN m :=
  h.mono fun _ _ ⟨he, hm⟩ => ⟨he, n, hm.symm⟩
theorem below_dn {B : Nat} {a w : World} (h : Below B a w) (n : Nat) : Below B a (w.drewN n) := ⟨h.os, h.tape, h.output, h.size, h.block⟩

theorem bcell {W w1 : World} (hb : Below W.heap.size W w1) : (∀ b o, b < W.heap.size → w1.cell? ⟨b, o, none⟩ = W.cell? ⟨b, o, none⟩) ∧ (∀ b o, b < W.heap.size → w1.frozen? ⟨b, o, none⟩ = W.frozen? ⟨b, o, none⟩) :=
  ⟨fun b o h => hb.cell (p := ⟨b, o, none⟩) h, fun b o h => hb.frozen (p := ⟨b, o, none⟩) h⟩
theorem below_al1 {w w1 : World} {o : Obj} (hb : Below (w.alloc o).heap.size (w.alloc o) w1) : Below w.heap.size w w1 :=
  ((Below.refl _ _).alloc (Nat.le_refl _) _).trans (hb.mono (by simp))


theorem dn_al (x : World) (o : Obj) (n : Nat) : (x.alloc o).drewN n = (x.drewN n).alloc o := rfl
theorem dn_dn (x : World) (a b : Nat) : (x.drewN a).drewN b = x.drewN (a + b) := by simp [World.drewN, Nat.add_assoc]
theorem two_set (x : World) (o1 : Obj) (t : Nat) (a j r j' r' : Value) (k : Nat) :
    ((((x.alloc o1).alloc (Obj.cells #[a, j, r] t)).drewN k).setCell ⟨x.heap.size + 1, 2, none⟩ r').setCell ⟨x.heap.size + 1, 1, none⟩ j' = ((x.drewN k).alloc o1).alloc (Obj.cells #[a, j', r'] t) := by
  rw [dn_al, dn_al]
  go_simp
theorem cell_mid (x : World) (o1 : Obj) (t : Nat) (a j r : Value) :
    ((x.alloc o1).alloc (Obj.cells #[a, j, r] t)).cell? ⟨x.heap.size + 1, 1, none⟩ = some j := by go_simp

theorem cell_below {w w' : World} {b o : Nat} {v : Value} (h : w.cell? ⟨b, o, none⟩ = some v) (hb : Below w.heap.size w w') : w'.cell? ⟨b, o, none⟩ = some v := by
  rw [hb.cell (p := ⟨b, o, none⟩) (World.block_lt_of_cell? w _ h)]; exact h
theorem below_on {W w w' : World} (h : Below W.heap.size W w) (hb : Below w.heap.size w w') : Below W.heap.size W w' := h.trans (hb.mono h.size)
def Two (W : World) (b1 b2 : Nat) (y m d y' m' d' : Int) (u : World) : Prop :=
  u.cell? ⟨b1, 0, none⟩ = some (.int .i64 y) ∧ u.cell? ⟨b1, 1, none⟩ = some (.int .i64 m) ∧ u.cell? ⟨b1, 2, none⟩ = some (.int .i64 d) ∧
  u.cell? ⟨b2, 0, none⟩ = some (.int .i64 y') ∧ u.cell? ⟨b2, 1, none⟩ = some (.int .i64 m') ∧ u.cell? ⟨b2, 2, none⟩ = some (.int .i64 d') ∧ Below W.heap.size W u
theorem Two.on {W : World} {b1 b2 : Nat} {y m d y' m' d' : Int} {u u' : World} (h : Two W b1 b2 y m d y' m' d' u) (hb : Below u.heap.size u u') : Two W b1 b2 y m d y' m' d' u' := by
  obtain ⟨a1, a2, a3, a4, a5, a6, a7⟩ := h
  exact ⟨cell_below a1 hb, cell_below a2 hb, cell_below a3 hb, cell_below a4 hb, cell_below a5 hb, cell_below a6 hb, below_on a7 hb⟩
theorem Two.drew {W : World} {b1 b2 : Nat} {y m d y' m' d' : Int} {u : World} (h : Two W b1 b2 y m d y' m' d' u) : Two W b1 b2 y m d y' m' d' u.drew :=
  h.on (below_dn (Below.refl _ _) 1)


/-- One date in memory. -/
def One (W : World) (b : Nat) (y m d : Int) (u : World) : Prop :=
  u.cell? ⟨b, 0, none⟩ = some (.int .i64 y) ∧ u.cell? ⟨b, 1, none⟩ = some (.int .i64 m) ∧ u.cell? ⟨b, 2, none⟩ = some (.int .i64 d) ∧ Below W.heap.size W u
theorem One.on {W : World} {b : Nat} {y m d : Int} {u u' : World} (h : One W b y m d u) (hb : Below u.heap.size u u') : One W b y m d u' := by
  obtain ⟨a1, a2, a3, a7⟩ := h
  exact ⟨cell_below a1 hb, cell_below a2 hb, cell_below a3 hb, below_on a7 hb⟩

/-- A struct of three cells, each written: what the cells hold then. -/
theorem three_set {w1 : World} {b t : Nat} {a0 a1 a2 : Value} (x y z : Value) (h : w1.heap[b]? = some (.cells #[a0, a1, a2] t (0, 0))) {u : World} (hu : ((w1.setCell ⟨b, 0, none⟩ x).setCell ⟨b, 1, none⟩ y).setCell ⟨b, 2, none⟩ z = u) :
    u.cell? ⟨b, 0, none⟩ = some x ∧ u.cell? ⟨b, 1, none⟩ = some y ∧ u.cell? ⟨b, 2, none⟩ = some z := by
  have R := heap_setCell_same _ b 2 _ _ z (heap_setCell_same _ b 1 _ _ y (heap_setCell_same w1 b 0 _ _ x h))
  rw [hu] at R
  refine ⟨?_, ?_, ?_⟩
  · rw [cell_of_row u b 0 _ _ _ R]; rfl
  · rw [cell_of_row u b 1 _ _ _ R]; rfl
  · rw [cell_of_row u b 2 _ _ _ R]; rfl
theorem row_after {w w1 : World} {o : Obj} (hb : Below (w.alloc o).heap.size (w.alloc o) w1) : w1.heap[w.heap.size]? = some o := by
  rw [hb.block _ (by simp)]; exact heap_alloc_new w o
theorem below_set3 {B : Nat} {w w1 : World} (h : Below B w w1) {b : Nat} (hB : B ≤ b) (x y z : Value) {u : World} (hu : ((w1.setCell ⟨b, 0, none⟩ x).setCell ⟨b, 1, none⟩ y).setCell ⟨b, 2, none⟩ z = u) : Below B w u := by
  rw [← hu]; exact ((h.setCell (p := ⟨b, 0, none⟩) hB x).setCell (p := ⟨b, 1, none⟩) hB y).setCell (p := ⟨b, 2, none⟩) hB z
end Go.Proofs.YtlodijncaojifaaDoor

namespace Go.Proofs.YtlodijncaojifaaDoor
open Go.RowKit
def Tab (_ : World) : Prop := True
theorem Tab.on {w w' : World} (_ : Tab w) (_ : Below w.heap.size w w') : Tab w' := trivial
theorem Tab.dn {w : World} (_ : Tab w) (n : Nat) : Tab (w.drewN n) := trivial
theorem Tab.al {w : World} (_ : Tab w) (o : Obj) : Tab (w.alloc o) := trivial
def GTab (_ : World) : Prop := True
theorem GTab.on {w w' : World} (_ : GTab w) (_ : Below w.heap.size w w') : GTab w' := trivial
theorem GTab.dn {w : World} (_ : GTab w) (n : Nat) : GTab (w.drewN n) := trivial
theorem GTab.al {w : World} (_ : GTab w) (o : Obj) : GTab (w.alloc o) := trivial
def LTab (_ : World) : Prop := True
theorem LTab.on {w w' : World} (_ : LTab w) (_ : Below w.heap.size w w') : LTab w' := trivial
theorem LTab.dn {w : World} (_ : LTab w) (n : Nat) : LTab (w.drewN n) := trivial
theorem LTab.al {w : World} (_ : LTab w) (o : Obj) : LTab (w.alloc o) := trivial
end Go.Proofs.YtlodijncaojifaaDoor

namespace Go.Proofs.YtlodijncaojifaaDoor

def l01 (b : Bool) : Int := match b with | true => 1 | false => 0
def dim (l : Bool) (m : Int) : Int := if m = 2 then 28 + l01 l else if m = 4 ∨ m = 6 ∨ m = 9 ∨ m = 11 then 30 else if 1 ≤ m ∧ m ≤ 12 then 31 else 0
def cum (l : Bool) (m : Int) : Int := if m ≤ 2 then 31 * (m - 1) else (153 * (m - 3) + 2) / 5 + 59 + l01 l

structure Cal where
  lp : Int → Bool
  fst : Int → Int
  step : ∀ y, 1 ≤ y → fst (y + 1) = fst y + 365 + l01 (lp y)

namespace Cal
variable (c : Cal)
end Cal
end Go.Proofs.YtlodijncaojifaaDoor

namespace Go.Proofs.YtlodijncaojifaaDoor
open Go.RowKit

theorem ret_ib {a b : Int} {c d : Bool} (h : a = b) (g : c = d) : Ending.returned (.tuple #[.int .i64 a, .bool c]) = .returned (.tuple #[.int .i64 b, .bool d]) := by rw [h, g]

theorem spl_pos (a b : Int) (hb : 0 < b) : spl a b = true := by
  have h1 : b ≠ 0 := by omega
  have h2 : b ≠ -1 := by omega
  simp [spl, fits, h1, h2]
end Go.Proofs.YtlodijncaojifaaDoor
