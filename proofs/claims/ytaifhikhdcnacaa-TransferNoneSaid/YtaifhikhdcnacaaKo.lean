/- What earlier stages proved: Lg. -/
import Derived.Test.YtaifhikhdcnacaaKl
import Derived.Test.YtaifhikhdcnacaaKn
import Derived.Test.YtaifhikhdcnacaaRows
import Derived.Test.YtaifhikhdcnacaaKa
import Derived.IntWalk
import Derived.LoopTactic
import Derived.OwnWalk
import Derived.Maps.AppendAt
namespace Go.Proofs.Ytaifhikhdcnacaa
open Go.RowKit

theorem IntsAt.app {B : Nat} {v v' : Value} {xs : List Int} {a : Int} {w w1 w2 : World} {o : Obj} (hv : IntsAt B v xs w1) (hB : Below B w w1) (hs : B ≤ w1.heap.size)
    (hown : w2.ownsRow B 3 1 v' (xs.length + 1) (xs.map (Value.int .i64) ++ [.int .i64 a])) (hg : (w1.alloc o).grownBy w2 v.ownBlock) : IntsAt B v' (xs ++ [a]) w2 ∧ Below B w w2 := by
  refine ⟨?_, (hB.alloc hs _).grown hg (by simp; omega) (fun k e => (World.ownsRow.lt hv k e).1)⟩
  rw [IntsAt, List.length_append, List.map_append]
  exact hown
end Go.Proofs.Ytaifhikhdcnacaa
