/- What earlier stages proved: Cq. -/
import Derived.Test.YtlodijncaojifaaDoorKc
import Derived.Test.YtlodijncaojifaaDoorRows
import Derived.Test.YtlodijncaojifaaDoorKa
import Derived.IntWalk
namespace Go.Proofs.YtlodijncaojifaaDoor
open Go.RowKit

abbrev set3 (w : World) (b : Nat) (x y z : Value) : World := ((w.setCell ⟨b, 0, none⟩ x).setCell ⟨b, 1, none⟩ y).setCell ⟨b, 2, none⟩ z
theorem St.set {W w : World} (h : St W w) (ht : CTab W) {b : Nat} (hb : W.heap.size ≤ b) (x y z : Value) : St W (set3 w b x y z) := by
  have h1 : Below W.heap.size W (set3 w b x y z) := below_set3 h.b hb x y z rfl
  exact ⟨ht.on h1, h1⟩
theorem row_set {w : World} {b t : Nat} {a0 a1 a2 : Value} (h : w.heap[b]? = some (.cells #[a0, a1, a2] t (0, 0))) (x y z : Value) : (set3 w b x y z).heap[b]? = some (.cells #[x, y, z] t (0, 0)) :=
  heap_setCell_same _ b 2 _ _ z (heap_setCell_same _ b 1 _ _ y (heap_setCell_same w b 0 _ _ x h))
end Go.Proofs.YtlodijncaojifaaDoor
