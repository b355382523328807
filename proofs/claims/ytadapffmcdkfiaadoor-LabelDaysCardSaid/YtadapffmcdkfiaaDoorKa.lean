/- What earlier stages proved: Me Cal Co. -/
import Derived.Test.YtadapffmcdkfiaaDoorRows
import Derived.WalkKit
import Derived.WalkLawsBesides
import Derived.Lib.Hide
import Derived.Below
import Derived.Deep.QuietTactic
import Derived.BigQuiet
import Derived.Deep.RegionWith
import Derived.Laws.Rows
import Derived.IntWalk
namespace Go.Proofs.YtadapffmcdkfiaaDoor
open Go.RowKit

theorem ret_int {a b : Int} (h : a = b) : Ending.returned (.int .i64 a) = .returned (.int .i64 b) := by rw [h]
theorem ret_bool {a b : Bool} (h : a = b) : Ending.returned (.bool a) = .returned (.bool b) := by rw [h]
def lens : List Int := [31, 28, 31, 30, 31, 30, 31, 31, 30, 31, 30, 31]

theorem quiet_same {P : Program} {f : FuncId} {args : Array Value} {w : World} {n : Nat} {v : Value}
    (h : Calls P f args (w.drewN n) fun e w' => e = .returned v ∧ w.drewN n = w') : Calls P f args (w.drewN n) fun e w'' => e = .returned v ∧ ∃ m, w'' = w.drewN m :=
  h.mono fun _ _ ⟨he, hm⟩ => ⟨he, n, hm.symm⟩
theorem below_dn {B : Nat} {a w : World} (h : Below B a w) (n : Nat) : Below B a (w.drewN n) := ⟨h.os, h.tape, h.output, h.size, h.block⟩

theorem cell_below {w w' : World} {b o : Nat} {v : Value} (h : w.cell? ⟨b, o, none⟩ = some v) (hb : Below w.heap.size w w') : w'.cell? ⟨b, o, none⟩ = some v := by
  rw [hb.cell (p := ⟨b, o, none⟩) (World.block_lt_of_cell? w _ h)]; exact h
theorem below_on {W w w' : World} (h : Below W.heap.size W w) (hb : Below w.heap.size w w') : Below W.heap.size W w' := h.trans (hb.mono h.size)
def Two (W : World) (b1 b2 : Nat) (y m d y' m' d' : Int) (u : World) : Prop :=
  u.cell? ⟨b1, 0, none⟩ = some (.int .i64 y) ∧ u.cell? ⟨b1, 1, none⟩ = some (.int .i64 m) ∧ u.cell? ⟨b1, 2, none⟩ = some (.int .i64 d) ∧
  u.cell? ⟨b2, 0, none⟩ = some (.int .i64 y') ∧ u.cell? ⟨b2, 1, none⟩ = some (.int .i64 m') ∧ u.cell? ⟨b2, 2, none⟩ = some (.int .i64 d') ∧ Below W.heap.size W u
theorem Two.on {W : World} {b1 b2 : Nat} {y m d y' m' d' : Int} {u u' : World} (h : Two W b1 b2 y m d y' m' d' u) (hb : Below u.heap.size u u') : Two W b1 b2 y m d y' m' d' u' := by
  obtain ⟨a1, a2, a3, a4, a5, a6, a7⟩ := h
  exact ⟨cell_below a1 hb, cell_below a2 hb, cell_below a3 hb, cell_below a4 hb, cell_below a5 hb, cell_below a6 hb, below_on a7 hb⟩
theorem Two.drew {W : World} {b1 b2 : Nat} {y m d y' m' d' : Int} {u : World} (h : Two W b1 b2 y m d y' m' d' u) : Two W b1 b2 y m d y' m' d' u.drew :=
  h.on (below_dn (Below.refl _ _) 1)


/-- One date in memory. -/
def One (W : World) (b : Nat) (y m d : Int) (u : World) : Prop :=
  u.cell? ⟨b, 0, none⟩ = some (.int .i64 y) ∧ u.cell? ⟨b, 1, none⟩ = some (.int .i64 m) ∧ u.cell? ⟨b, 2, none⟩ = some (.int .i64 d) ∧ Below W.heap.size W u
theorem One.on {W : World} {b : Nat} {y m d : Int} {u u' : World} (h : One W b y m d u) (hb : Below u.heap.size u u') : One W b y m d u' := by
  obtain ⟨a1, a2, a3, a7⟩ := h
  exact ⟨cell_below a1 hb, cell_below a2 hb, cell_below a3 hb, below_on a7 hb⟩

end Go.Proofs.YtadapffmcdkfiaaDoor

namespace Go.Proofs.YtadapffmcdkfiaaDoor

def l01 (b : Bool) : Int := match b with | true => 1 | false => 0
theorem l01_bd (b : Bool) : 0 ≤ l01 b ∧ l01 b ≤ 1 := by cases b <;> simp [l01]
def dim (l : Bool) (m : Int) : Int := if m = 2 then 28 + l01 l else if m = 4 ∨ m = 6 ∨ m = 9 ∨ m = 11 then 30 else if 1 ≤ m ∧ m ≤ 12 then 31 else 0
def cum (l : Bool) (m : Int) : Int := if m ≤ 2 then 31 * (m - 1) else (153 * (m - 3) + 2) / 5 + 59 + l01 l

theorem dim_bd (l : Bool) (m : Int) (h1 : 1 ≤ m) (h2 : m ≤ 12) : 28 ≤ dim l m ∧ dim l m ≤ 31 := by
  have := l01_bd l
  unfold dim; repeat' split
  all_goals omega
theorem dim_out (l : Bool) (m : Int) (h : m < 1 ∨ 12 < m) : dim l m = 0 := by
  unfold dim; repeat' split
  all_goals omega
theorem month_of_dim (l : Bool) (m : Int) (h : 1 ≤ dim l m) : 1 ≤ m ∧ m ≤ 12 := by
  rcases Int.lt_or_le m 1 with g | g
  · rw [dim_out l m (Or.inl g)] at h; omega
  · rcases Int.lt_or_le 12 m with g' | g'
    · rw [dim_out l m (Or.inr g')] at h; omega
    · exact ⟨g, g'⟩
theorem cum_one (l : Bool) : cum l 1 = 0 := by unfold cum; rw [if_pos (by omega)]; omega
theorem cum_succ (l : Bool) (m : Int) (h1 : 1 ≤ m) (h2 : m ≤ 12) : cum l (m + 1) = cum l m + dim l m := by
  have h : m = 1 ∨ m = 2 ∨ m = 3 ∨ m = 4 ∨ m = 5 ∨ m = 6 ∨ m = 7 ∨ m = 8 ∨ m = 9 ∨ m = 10 ∨ m = 11 ∨ m = 12 := by omega
  rcases h with rfl | rfl | rfl | rfl | rfl | rfl | rfl | rfl | rfl | rfl | rfl | rfl
  all_goals (cases l <;> rfl)
theorem cum_end (l : Bool) : cum l 13 = 365 + l01 l := by unfold cum; rw [if_neg (by omega)]; omega
theorem cum_mono (l : Bool) (m k : Int) (h1 : 1 ≤ m) (h2 : m ≤ k) (h3 : k ≤ 13) : cum l m ≤ cum l k := by
  have := l01_bd l
  unfold cum
  repeat' split
  all_goals omega
theorem cum_next (l : Bool) (m k : Int) (h1 : 1 ≤ m) (h2 : m < k) (h3 : k ≤ 13) : cum l m + dim l m ≤ cum l k := by
  rw [← cum_succ l m h1 (by omega)]; exact cum_mono l (m + 1) k (by omega) (by omega) h3
theorem cum_bd (l : Bool) (m : Int) (h1 : 1 ≤ m) (h2 : m ≤ 13) : 0 ≤ cum l m ∧ cum l m ≤ 366 := by
  have a := cum_mono l 1 m (by omega) h1 h2
  have b := cum_mono l m 13 h1 h2 (by omega)
  have := l01_bd l
  rw [cum_one] at a; rw [cum_end] at b; omega

structure Cal where
  lp : Int → Bool
  fst : Int → Int
  step : ∀ y, 1 ≤ y → fst (y + 1) = fst y + 365 + l01 (lp y)

namespace Cal
variable (c : Cal)
def vld (y m d : Int) : Bool := decide (1 ≤ y ∧ y ≤ 1000000000 ∧ 1 ≤ d ∧ d ≤ dim (c.lp y) m)
theorem vld_iff {y m d : Int} : c.vld y m d = true ↔ 1 ≤ y ∧ y ≤ 1000000000 ∧ 1 ≤ d ∧ d ≤ dim (c.lp y) m := by unfold vld; exact decide_eq_true_iff
theorem vld_month {y m d : Int} (h : c.vld y m d = true) : 1 ≤ m ∧ m ≤ 12 := by
  rw [vld_iff] at h; exact month_of_dim (c.lp y) m (by omega)

/-- the day's place in its year -/
theorem doy_bd {y m d : Int} (h : c.vld y m d = true) : 0 ≤ cum (c.lp y) m + d - 1 ∧ cum (c.lp y) m + d - 1 < 365 + l01 (c.lp y) := by
  obtain ⟨m1, m2⟩ := c.vld_month h
  rw [vld_iff] at h
  have a := cum_bd (c.lp y) m m1 (by omega)
  have b := cum_next (c.lp y) m 13 m1 (by omega) (by omega)
  rw [cum_end] at b; omega
end Cal
end Go.Proofs.YtadapffmcdkfiaaDoor

namespace Go.Proofs.YtadapffmcdkfiaaDoor
open Go.RowKit

theorem rlen_any (l : Bool) (m : Int) (w : World) :
    Calls Tryd.prog 17 #[.bool l, .int .i64 m] w fun e w' => e = .returned (.int .i64 (dim l m)) ∧ w = w' := by
  by_cases h : 1 ≤ m ∧ m ≤ 12
  · have h' : m = 1 ∨ m = 2 ∨ m = 3 ∨ m = 4 ∨ m = 5 ∨ m = 6 ∨ m = 7 ∨ m = 8 ∨ m = 9 ∨ m = 10 ∨ m = 11 ∨ m = 12 := by omega
    clear h
    rcases h' with rfl | rfl | rfl | rfl | rfl | rfl | rfl | rfl | rfl | rfl | rfl | rfl
    all_goals
      cases l
      all_goals
        go_enter Tryd.func17, Tryd.ntmps17
        go_wp2
        go_ret
        exact ⟨rfl, rfl⟩
  · have h0 := dim_out l m (by omega)
    have e1 : (m == 1) = false := by rw [beq_eq_false_iff_ne]; omega
    have e2 : (m == 2) = false := by rw [beq_eq_false_iff_ne]; omega
    have e3 : (m == 3) = false := by rw [beq_eq_false_iff_ne]; omega
    have e4 : (m == 4) = false := by rw [beq_eq_false_iff_ne]; omega
    have e5 : (m == 5) = false := by rw [beq_eq_false_iff_ne]; omega
    have e6 : (m == 6) = false := by rw [beq_eq_false_iff_ne]; omega
    have e7 : (m == 7) = false := by rw [beq_eq_false_iff_ne]; omega
    have e8 : (m == 8) = false := by rw [beq_eq_false_iff_ne]; omega
    have e9 : (m == 9) = false := by rw [beq_eq_false_iff_ne]; omega
    have e10 : (m == 10) = false := by rw [beq_eq_false_iff_ne]; omega
    have e11 : (m == 11) = false := by rw [beq_eq_false_iff_ne]; omega
    have e12 : (m == 12) = false := by rw [beq_eq_false_iff_ne]; omega
    have H := Lib.hid h0
    clear h0 h
    go_enter Tryd.func17, Tryd.ntmps17
    go_wp2
    go_ret
    exact ⟨ret_int H.out.symm, rfl⟩


end Go.Proofs.YtadapffmcdkfiaaDoor
