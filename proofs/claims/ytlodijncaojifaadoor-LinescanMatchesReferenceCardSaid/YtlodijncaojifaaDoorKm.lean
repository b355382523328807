/- What earlier stages proved: Lm. -/
import Derived.Test.YtlodijncaojifaaDoorKn
import Derived.Test.YtlodijncaojifaaDoorRows
import Derived.Test.YtlodijncaojifaaDoorKa
import Derived.IntWalk
import Derived.LoopTactic
import Derived.OwnWalk
import Derived.Maps.AppendAt
import Derived.RangeFuncNested
import Derived.RangeFuncBound
import Derived.RangeFuncCalls
import Derived.RangeFuncLeaves
import Derived.RangeFuncBox
import Derived.Shelf.Abstract
import Derived.Shelf.RegionOpen
import Derived.OwnWalkIn
import Derived.TacticsInMore
import Derived.LoopNIn
import Derived.LoopIn
import Derived.Test.YtlodijncaojifaaDoorKl
namespace Go.Proofs.YtlodijncaojifaaDoor
open Go.RowKit

structure PairsIn (g cap : Nat) (ps : List (Int × Int)) (w : World) : Prop where
  lt : g < w.heap.size
  le : ps.length ≤ cap
  mx : cap ≤ maxLen
  one : ∀ (i : Nat) (x : Int × Int), ps[i]? = some x → w.cell? ⟨g, i * 2, none⟩ = some (.int .i64 x.1)
  two : ∀ (i : Nat) (x : Int × Int), ps[i]? = some x → w.cell? ⟨g, i * 2 + 1, none⟩ = some (.int .i64 x.2)
theorem PairsIn.on {g cap : Nat} {ps : List (Int × Int)} {w w' : World} (h : PairsIn g cap ps w) (hb : Below w.heap.size w w') : PairsIn g cap ps w' :=
  ⟨Nat.lt_of_lt_of_le h.lt hb.size, h.le, h.mx, fun i x hi => cell_below (h.one i x hi) hb, fun i x hi => cell_below (h.two i x hi) hb⟩
/-- What a round of LabelLunations keeps over its calls. -/
structure KeepL (W : World) (g cap : Nat) (ps : List (Int × Int)) (u : World) : Prop where
  t : LTab u
  b : Below W.heap.size W u
  p : PairsIn g cap ps u
theorem KeepL.on {W : World} {g cap : Nat} {ps : List (Int × Int)} {u u' : World} (h : KeepL W g cap ps u) (hb : Below u.heap.size u u') : KeepL W g cap ps u' := ⟨h.t.on hb, below_on h.b hb, h.p.on hb⟩
theorem KeepL.dn {W : World} {g cap : Nat} {ps : List (Int × Int)} {u : World} (h : KeepL W g cap ps u) (n : Nat) : KeepL W g cap ps (u.drewN n) := h.on (below_dn (Below.refl _ _) n)
theorem KeepL.drew {W : World} {g cap : Nat} {ps : List (Int × Int)} {u : World} (h : KeepL W g cap ps u) : KeepL W g cap ps u.drew := h.dn 1
def HasTwo (g i : Nat) (a b : Int) (u : World) : Prop := u.cell? ⟨g, i * 2, none⟩ = some (.int .i64 a) ∧ u.cell? ⟨g, i * 2 + 1, none⟩ = some (.int .i64 b)
theorem HasTwo.on {g i : Nat} {a b : Int} {u u' : World} (h : HasTwo g i a b u) (hb : Below u.heap.size u u') : HasTwo g i a b u' := ⟨cell_below h.1 hb, cell_below h.2 hb⟩
theorem KeepL.two {W : World} {g cap : Nat} {ps : List (Int × Int)} {u : World} {i : Nat} {a b : Int} (h : KeepL W g cap ps u) (hx : ps[i]? = some (a, b)) : HasTwo g i a b u := ⟨h.p.one i _ hx, h.p.two i _ hx⟩
end Go.Proofs.YtlodijncaojifaaDoor
