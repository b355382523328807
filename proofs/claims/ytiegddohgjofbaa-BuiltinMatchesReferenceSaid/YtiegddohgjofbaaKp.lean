/- What earlier stages proved: Pa Pb Pd Pe. -/
import Derived.Test.YtiegddohgjofbaaKc
import Derived.Test.YtiegddohgjofbaaKe
import Derived.Test.YtiegddohgjofbaaKl
import Derived.Test.YtiegddohgjofbaaKr
import Derived.Test.YtiegddohgjofbaaKd
import Derived.Test.YtiegddohgjofbaaKa
import Derived.Maps.OwnSet
import Derived.Test.YtiegddohgjofbaaKw
import Derived.Test.YtiegddohgjofbaaKo
import Derived.Test.YtiegddohgjofbaaKn
import Derived.RangeFuncNested
import Derived.RangeFuncBound
import Derived.RangeFuncCalls
import Derived.RangeFuncLeaves
import Derived.RangeFuncBox
import Derived.Shelf.Abstract
import Derived.Shelf.RegionOpen
import Derived.OwnWalkIn
import Derived.TacticsInMore
import Derived.LoopNIn
import Derived.LoopIn
import Derived.Maps.AppendAt
import Derived.Deep.RegionHeld3
import Derived.Test.YtiegddohgjofbaaKm
import Derived.LoopTactic
import Derived.OwnWalk
import Derived.WalkMore
import Derived.ScopeJumps
namespace Go.Proofs.Ytiegddohgjofbaa

/-- The month and the day that lie k days behind 21 March. -/
def marM (k : Int) : Int := if k ≤ 10 then 3 else 4
def marD (k : Int) : Int := if k ≤ 10 then 21 + k else k - 10
/-- How many days behind 21 March the first full moon of a year with label l is. -/
def off (l : Int) : Nat := (List.range 29).findIdx fun j => bears (marM (Int.ofNat j - 13)) (marD (Int.ofNat j - 13)) l
/-- The number of 21 March. -/
def marN (c y : Int) : Int := (calOf c).num y 3 21
end Go.Proofs.Ytiegddohgjofbaa

namespace Go.Proofs.Ytiegddohgjofbaa
open Go.RowKit

/-- The tables of both calendars and of package label. -/
structure PT (w : World) : Prop where
  c : CTab w
  l : LTab w
theorem PT.on {w w' : World} (h : PT w) (hb : Below w.heap.size w w') : PT w' := ⟨h.c.on hb, h.l.on hb⟩
theorem PT.al {w : World} (h : PT w) (o : Obj) : PT (w.alloc o) := ⟨h.c.al o, h.l.al o⟩
/-- The tables read as laid, and what was in memory is as it was. -/
structure PSt (W w : World) : Prop where
  t : PT w
  b : Below W.heap.size W w
theorem PSt.start {W : World} (h : PT W) : PSt W W := ⟨h, Below.refl _ _⟩
theorem PSt.on {W w w' : World} (h : PSt W w) (hb : Below w.heap.size w w') : PSt W w' := ⟨h.t.on hb, below_on h.b hb⟩
theorem PSt.al {W w : World} (h : PSt W w) (o : Obj) : PSt W (w.alloc o) := h.on ((Below.refl w.heap.size w).alloc (Nat.le_refl _) o)
theorem PSt.dn {W w : World} (h : PSt W w) (n : Nat) : PSt W (w.drewN n) := h.on (below_dn (Below.refl _ _) n)
theorem PSt.set {W w : World} (h : PSt W w) (ht : PT W) {b : Nat} (hb : W.heap.size ≤ b) (x y z : Value) : PSt W (set3 w b x y z) := by
  have h1 : Below W.heap.size W (set3 w b x y z) := below_set3 h.b hb x y z rfl
  exact ⟨ht.on h1, h1⟩

section
variable (c y m d : Int) (w : World)
theorem One.drew {W u : World} {b : Nat} {y m d : Int} (h : One W b y m d u) : One W b y m d u.drew := h.on (below_dn (Below.refl _ _) 1)
end
end Go.Proofs.Ytiegddohgjofbaa

namespace Go.Proofs.Ytiegddohgjofbaa
open Go.RowKit

def flat3 : List (Int × Int × Int) → List Value
  | [] => []
  | x :: xs => .int .i64 x.1 :: .int .i64 x.2.1 :: .int .i64 x.2.2 :: flat3 xs
theorem flat3_app : ∀ xs ys : List (Int × Int × Int), flat3 (xs ++ ys) = flat3 xs ++ flat3 ys
  | [], _ => rfl
  | x :: xs, ys => by simp [flat3, flat3_app xs ys]
def DatesAt (B : Nat) (v : Value) (ps : List (Int × Int × Int)) (w : World) : Prop := w.ownsRow B 65 3 v ps.length (flat3 ps)
theorem DatesAt.on {B : Nat} {v : Value} {xs : List (Int × Int × Int)} {w w' : World} (h : DatesAt B v xs w) (hb : Below w.heap.size w w') : DatesAt B v xs w' :=
  World.ownsRow.kept h (grown_of_below hb none) (by cases hv : v.ownBlock <;> simp)
theorem DatesAt.al {B : Nat} {v : Value} {xs : List (Int × Int × Int)} {w : World} (h : DatesAt B v xs w) (o : Obj) : DatesAt B v xs (w.alloc o) := h.on ((Below.refl _ _).alloc (Nat.le_refl _) o)
theorem DatesAt.lower {B B' : Nat} {v : Value} {xs : List (Int × Int × Int)} {w : World} (h : DatesAt B v xs w) (hB : B' ≤ B) : DatesAt B' v xs w := by
  refine ⟨h.1, ?_⟩
  rcases h.2 with hn | ⟨g, cap, cur, e, hb, rest⟩
  · exact .inl hn
  · exact .inr ⟨g, cap, cur, e, Nat.le_trans hB hb, rest⟩
theorem DatesAt.app {B : Nat} {v v' : Value} {xs : List (Int × Int × Int)} {y a b : Int} {w w1 w2 : World} {o : Obj} (hv : DatesAt B v xs w1) (hB : Below B w w1) (hs : B ≤ w1.heap.size)
    (hown : w2.ownsRow B 65 3 v' (xs.length + 1) (flat3 xs ++ [.int .i64 y, .int .i64 a, .int .i64 b])) (hg : (w1.alloc o).grownBy w2 v.ownBlock) : DatesAt B v' (xs ++ [(y, a, b)]) w2 ∧ Below B w w2 := by
  refine ⟨?_, (hB.alloc hs _).grown hg (by simp; omega) (fun k e => (World.ownsRow.lt hv k e).1)⟩
  rw [DatesAt, List.length_append, flat3_app]
  exact hown
/-- What a walk reads of it. -/
theorem flat3_at : ∀ (ps : List (Int × Int × Int)) (i : Nat) (x : Int × Int × Int), ps[i]? = some x → (flat3 ps)[i * 3]? = some (.int .i64 x.1) ∧ (flat3 ps)[i * 3 + 1]? = some (.int .i64 x.2.1) ∧ (flat3 ps)[i * 3 + 2]? = some (.int .i64 x.2.2)
  | [], i, x, h => by simp at h
  | p :: ps, 0, x, h => by
    simp at h; subst h; exact ⟨rfl, rfl, rfl⟩
  | p :: ps, i + 1, x, h => by
    have := flat3_at ps i x (by simpa using h)
    rw [show (i + 1) * 3 = i * 3 + 1 + 1 + 1 by omega]
    simpa [flat3] using this
structure DatesIn (g cap : Nat) (ps : List (Int × Int × Int)) (w : World) : Prop where
  lt : g < w.heap.size
  le : ps.length ≤ cap
  mx : cap ≤ maxLen
  one : ∀ (i : Nat) (x : Int × Int × Int), ps[i]? = some x → w.cell? ⟨g, i * 3, none⟩ = some (.int .i64 x.1)
  two : ∀ (i : Nat) (x : Int × Int × Int), ps[i]? = some x → w.cell? ⟨g, i * 3 + 1, none⟩ = some (.int .i64 x.2.1)
  thr : ∀ (i : Nat) (x : Int × Int × Int), ps[i]? = some x → w.cell? ⟨g, i * 3 + 2, none⟩ = some (.int .i64 x.2.2)
theorem DatesIn.on {g cap : Nat} {ps : List (Int × Int × Int)} {w w' : World} (h : DatesIn g cap ps w) (hb : Below w.heap.size w w') : DatesIn g cap ps w' :=
  ⟨Nat.lt_of_lt_of_le h.lt hb.size, h.le, h.mx, fun i x hi => cell_below (h.one i x hi) hb, fun i x hi => cell_below (h.two i x hi) hb, fun i x hi => cell_below (h.thr i x hi) hb⟩
theorem DatesAt.get {B : Nat} {v : Value} {ps : List (Int × Int × Int)} {w : World} (h : DatesAt B v ps w) : (v = .slice none 0 0 ∧ ps = []) ∨ ∃ g cap, v = .slice (some ⟨g, 0, none⟩) ps.length cap ∧ B ≤ g ∧ DatesIn g cap ps w := by
  rcases h.2 with ⟨rfl, hn⟩ | ⟨g, cap, cur, rfl, hb, hg, hnc, hcm, hcs, htake⟩
  · exact .inl ⟨rfl, List.eq_nil_of_length_eq_zero hn⟩
  · have hadd : ∀ j, (⟨g, 0, none⟩ : Addr).add j = ⟨g, j, none⟩ := fun j => by unfold Addr.add; split <;> simp_all
    refine .inr ⟨g, cap, rfl, hb, (Array.getElem?_eq_some_iff.1 hg).1, hnc, hcm, fun i x hi => ?_, fun i x hi => ?_, fun i x hi => ?_⟩
    · have := World.ownsRow.cells h (g := g) rfl _ _ (flat3_at ps i x hi).1
      rwa [hadd] at this
    · have := World.ownsRow.cells h (g := g) rfl _ _ (flat3_at ps i x hi).2.1
      rwa [hadd] at this
    · have := World.ownsRow.cells h (g := g) rfl _ _ (flat3_at ps i x hi).2.2
      rwa [hadd] at this
section
variable (c y : Int) (w : World)
end
end Go.Proofs.Ytiegddohgjofbaa

namespace Go.Proofs.Ytiegddohgjofbaa
open Go.RowKit

theorem dim_lp (l : Bool) (m : Int) : dim false m ≤ dim l m := by
  have := l01_bd l
  have z : l01 false = 0 := rfl
  unfold dim; split
  · omega
  · exact Int.le_refl _
end Go.Proofs.Ytiegddohgjofbaa
