/- What earlier stages proved: Pb Pd. -/
import Derived.Test.YtlodijncaojifaaDoorKc
import Derived.Test.YtlodijncaojifaaDoorKw
import Derived.Test.YtlodijncaojifaaDoorKl
import Derived.Test.YtlodijncaojifaaDoorKr
import Derived.Test.YtlodijncaojifaaDoorKa
import Derived.Maps.OwnSet
import Derived.Test.YtlodijncaojifaaDoorRows
import Derived.IntWalk
import Derived.Test.YtlodijncaojifaaDoorKn
import Derived.LoopTactic
import Derived.OwnWalk
import Derived.Maps.AppendAt
import Derived.RangeFuncNested
import Derived.RangeFuncBound
import Derived.RangeFuncCalls
import Derived.RangeFuncLeaves
import Derived.RangeFuncBox
import Derived.Shelf.Abstract
import Derived.Shelf.RegionOpen
import Derived.OwnWalkIn
import Derived.TacticsInMore
import Derived.LoopNIn
import Derived.LoopIn
import Derived.Deep.RegionHeld3
import Derived.Test.YtlodijncaojifaaDoorKm
namespace Go.Proofs.YtlodijncaojifaaDoor
open Go.RowKit

/-- The tables of both calendars and of package label. -/
structure PT (w : World) : Prop where
  c : CTab w
  l : LTab w
theorem PT.on {w w' : World} (h : PT w) (hb : Below w.heap.size w w') : PT w' := ⟨h.c.on hb, h.l.on hb⟩
theorem PT.al {w : World} (h : PT w) (o : Obj) : PT (w.alloc o) := ⟨h.c.al o, h.l.al o⟩
/-- The tables read as laid, and what was in memory is as it was. -/
structure PSt (W w : World) : Prop where
  t : PT w
  b : Below W.heap.size W w
theorem PSt.start {W : World} (h : PT W) : PSt W W := ⟨h, Below.refl _ _⟩
theorem PSt.on {W w w' : World} (h : PSt W w) (hb : Below w.heap.size w w') : PSt W w' := ⟨h.t.on hb, below_on h.b hb⟩
theorem PSt.al {W w : World} (h : PSt W w) (o : Obj) : PSt W (w.alloc o) := h.on ((Below.refl w.heap.size w).alloc (Nat.le_refl _) o)
theorem PSt.dn {W w : World} (h : PSt W w) (n : Nat) : PSt W (w.drewN n) := h.on (below_dn (Below.refl _ _) n)
theorem PSt.set {W w : World} (h : PSt W w) (ht : PT W) {b : Nat} (hb : W.heap.size ≤ b) (x y z : Value) : PSt W (set3 w b x y z) := by
  have h1 : Below W.heap.size W (set3 w b x y z) := below_set3 h.b hb x y z rfl
  exact ⟨ht.on h1, h1⟩

section
variable (c y m d : Int) (w : World)
theorem One.drew {W u : World} {b : Nat} {y m d : Int} (h : One W b y m d u) : One W b y m d u.drew := h.on (below_dn (Below.refl _ _) 1)
end
end Go.Proofs.YtlodijncaojifaaDoor

namespace Go.Proofs.YtlodijncaojifaaDoor
open Go.RowKit

def flat3 : List (Int × Int × Int) → List Value
  | [] => []
  | x :: xs => .int .i64 x.1 :: .int .i64 x.2.1 :: .int .i64 x.2.2 :: flat3 xs
/-- What a walk reads of it. -/
theorem flat3_at : ∀ (ps : List (Int × Int × Int)) (i : Nat) (x : Int × Int × Int), ps[i]? = some x → (flat3 ps)[i * 3]? = some (.int .i64 x.1) ∧ (flat3 ps)[i * 3 + 1]? = some (.int .i64 x.2.1) ∧ (flat3 ps)[i * 3 + 2]? = some (.int .i64 x.2.2)
  | [], i, x, h => by simp at h
  | p :: ps, 0, x, h => by
    simp at h; subst h; exact ⟨rfl, rfl, rfl⟩
  | p :: ps, i + 1, x, h => by
    have := flat3_at ps i x (by simpa using h)
    rw [show (i + 1) * 3 = i * 3 + 1 + 1 + 1 by omega]
    simpa [flat3] using this
structure DatesIn (g cap : Nat) (ps : List (Int × Int × Int)) (w : World) : Prop where
  lt : g < w.heap.size
  le : ps.length ≤ cap
  mx : cap ≤ maxLen
  one : ∀ (i : Nat) (x : Int × Int × Int), ps[i]? = some x → w.cell? ⟨g, i * 3, none⟩ = some (.int .i64 x.1)
  two : ∀ (i : Nat) (x : Int × Int × Int), ps[i]? = some x → w.cell? ⟨g, i * 3 + 1, none⟩ = some (.int .i64 x.2.1)
  thr : ∀ (i : Nat) (x : Int × Int × Int), ps[i]? = some x → w.cell? ⟨g, i * 3 + 2, none⟩ = some (.int .i64 x.2.2)
theorem DatesIn.on {g cap : Nat} {ps : List (Int × Int × Int)} {w w' : World} (h : DatesIn g cap ps w) (hb : Below w.heap.size w w') : DatesIn g cap ps w' :=
  ⟨Nat.lt_of_lt_of_le h.lt hb.size, h.le, h.mx, fun i x hi => cell_below (h.one i x hi) hb, fun i x hi => cell_below (h.two i x hi) hb, fun i x hi => cell_below (h.thr i x hi) hb⟩
section
variable (c y : Int) (w : World)
end
end Go.Proofs.YtlodijncaojifaaDoor
