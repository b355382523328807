/- What earlier stages proved: Lm. -/
import Derived.Test.YtmcnfleiagcpjaaKl
import Derived.Test.YtmcnfleiagcpjaaKn
import Derived.Test.YtmcnfleiagcpjaaKa
import Derived.LoopTactic
import Derived.OwnWalk
import Derived.Maps.AppendAt
import Derived.RangeFuncNested
import Derived.RangeFuncBound
import Derived.RangeFuncCalls
import Derived.RangeFuncLeaves
import Derived.RangeFuncBox
import Derived.Shelf.Abstract
import Derived.Shelf.RegionOpen
import Derived.OwnWalkIn
import Derived.TacticsInMore
import Derived.LoopNIn
import Derived.LoopIn
namespace Go.Proofs.Ytmcnfleiagcpjaa
open Go.RowKit

structure PairsIn (g cap : Nat) (ps : List (Int × Int)) (w : World) : Prop where
  lt : g < w.heap.size
  le : ps.length ≤ cap
  mx : cap ≤ maxLen
  one : ∀ (i : Nat) (x : Int × Int), ps[i]? = some x → w.cell? ⟨g, i * 2, none⟩ = some (.int .i64 x.1)
  two : ∀ (i : Nat) (x : Int × Int), ps[i]? = some x → w.cell? ⟨g, i * 2 + 1, none⟩ = some (.int .i64 x.2)
theorem PairsIn.on {g cap : Nat} {ps : List (Int × Int)} {w w' : World} (h : PairsIn g cap ps w) (hb : Below w.heap.size w w') : PairsIn g cap ps w' :=
  ⟨Nat.lt_of_lt_of_le h.lt hb.size, h.le, h.mx, fun i x hi => cell_below (h.one i x hi) hb, fun i x hi => cell_below (h.two i x hi) hb⟩
def HasTwo (g i : Nat) (a b : Int) (u : World) : Prop := u.cell? ⟨g, i * 2, none⟩ = some (.int .i64 a) ∧ u.cell? ⟨g, i * 2 + 1, none⟩ = some (.int .i64 b)
theorem HasTwo.on {g i : Nat} {a b : Int} {u u' : World} (h : HasTwo g i a b u) (hb : Below u.heap.size u u') : HasTwo g i a b u' := ⟨cell_below h.1 hb, cell_below h.2 hb⟩
end Go.Proofs.Ytmcnfleiagcpjaa
