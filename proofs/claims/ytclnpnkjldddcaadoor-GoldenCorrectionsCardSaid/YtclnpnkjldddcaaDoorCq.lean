/- The fixed examples of the law of package civil (awake); facts on structs of three cells in memory over calls. -/
import Derived.Test.YtclnpnkjldddcaaDoorCp
namespace Go.Proofs.YtclnpnkjldddcaaDoor
open Go.RowKit

abbrev set3 (w : World) (b : Nat) (x y z : Value) : World := ((w.setCell ⟨b, 0, none⟩ x).setCell ⟨b, 1, none⟩ y).setCell ⟨b, 2, none⟩ z
theorem St.set {W w : World} (h : St W w) (ht : CTab W) {b : Nat} (hb : W.heap.size ≤ b) (x y z : Value) : St W (set3 w b x y z) := by
  have h1 : Below W.heap.size W (set3 w b x y z) := below_set3 h.b hb x y z rfl
  exact ⟨ht.on h1, h1⟩
theorem row_set {w : World} {b t : Nat} {a0 a1 a2 : Value} (h : w.heap[b]? = some (.cells #[a0, a1, a2] t (0, 0))) (x y z : Value) : (set3 w b x y z).heap[b]? = some (.cells #[x, y, z] t (0, 0)) :=
  heap_setCell_same _ b 2 _ _ z (heap_setCell_same _ b 1 _ _ y (heap_setCell_same w b 0 _ _ x h))
theorem row_oth {w : World} {b c : Nat} {o : Obj} (h : w.heap[c]? = some o) (hn : c ≠ b) (x y z : Value) : (set3 w b x y z).heap[c]? = some o := by
  unfold set3
  rw [heap_setCell_other _ _ _ _ hn, heap_setCell_other _ _ _ _ hn, heap_setCell_other _ _ _ _ hn]; exact h
theorem row3 {w : World} {b t : Nat} {a0 a1 a2 : Value} (h : w.heap[b]? = some (.cells #[a0, a1, a2] t (0, 0))) :
    w.cell? ⟨b, 0, none⟩ = some a0 ∧ w.cell? ⟨b, 1, none⟩ = some a1 ∧ w.cell? ⟨b, 2, none⟩ = some a2 ∧ w.frozen? ⟨b, 0, none⟩ = false ∧ w.frozen? ⟨b, 1, none⟩ = false ∧ w.frozen? ⟨b, 2, none⟩ = false ∧ b < w.heap.size := by
  have h0 : w.cell? ⟨b, 0, none⟩ = some a0 := by rw [cell_of_row w b 0 _ _ _ h]; rfl
  exact ⟨h0, by rw [cell_of_row w b 1 _ _ _ h]; rfl, by rw [cell_of_row w b 2 _ _ _ h]; rfl, frozen_of_row w b 0 _ _ h, frozen_of_row w b 1 _ _ h, frozen_of_row w b 2 _ _ h, World.block_lt_of_cell? w _ h0⟩

/-! plain: the examples -/
theorem ex_cv : vE 1582 10 4 1 2 = 0 ∧ vY 1582 10 4 1 2 = 1582 ∧ vM 1582 10 4 1 2 = 10 ∧ vD 1582 10 4 1 2 = 14 := by
  have t : tE 1 1582 10 4 = 0 := by decide
  have n : tN 1 1582 10 4 = 577735 := by decide
  obtain ⟨a, b, c, d⟩ := fE_at (c := 2) (y := 1582) (m := 10) (d := 14) (n := 577735) (by decide) (by decide) (by decide)
  have e : vE 1582 10 4 1 2 = 0 := by unfold vE; rw [t, n, a]; rfl
  unfold vY vM vD; rw [e, n]; exact ⟨rfl, b, c, d⟩
theorem ex_fy : xE 1 1900 366 = 0 ∧ xY 1 1900 366 = 1900 ∧ xM 1 1900 366 = 12 ∧ xD 1 1900 366 = 31 := by
  have e : xE 1 1900 366 = 0 := by decide
  obtain ⟨a, b, c, d⟩ := fE_at (c := 1) (y := 1900) (m := 12) (d := 31) (n := jul.fst 1900 + 366 - 1) (by decide) (by decide) (by decide)
  unfold xY xM xD; rw [e]; exact ⟨rfl, b, c, d⟩

end Go.Proofs.YtclnpnkjldddcaaDoor
