/- What earlier stages proved: Ub Ue. -/
import Derived.Test.YtnofmlkjagdklaaKa
import Derived.Test.YtnofmlkjagdklaaKc
import Derived.Test.YtnofmlkjagdklaaKr
import Derived.Test.YtnofmlkjagdklaaKe
import Derived.Test.YtnofmlkjagdklaaKp
namespace Go.Proofs.Ytnofmlkjagdklaa
open Go.RowKit

theorem row7 {w : World} {b t : Nat} {a0 a1 a2 a3 a4 a5 a6 : Value} (h : w.heap[b]? = some (.cells #[a0, a1, a2, a3, a4, a5, a6] t (0, 0))) :
    w.cell? ⟨b, 0, none⟩ = some a0 ∧ w.cell? ⟨b, 1, none⟩ = some a1 ∧ w.cell? ⟨b, 2, none⟩ = some a2 ∧ w.cell? ⟨b, 3, none⟩ = some a3 ∧ w.cell? ⟨b, 4, none⟩ = some a4 ∧ w.cell? ⟨b, 5, none⟩ = some a5 ∧ w.cell? ⟨b, 6, none⟩ = some a6 ∧
    w.frozen? ⟨b, 0, none⟩ = false ∧ w.frozen? ⟨b, 1, none⟩ = false ∧ w.frozen? ⟨b, 2, none⟩ = false ∧ w.frozen? ⟨b, 3, none⟩ = false ∧ w.frozen? ⟨b, 4, none⟩ = false ∧ w.frozen? ⟨b, 5, none⟩ = false ∧ w.frozen? ⟨b, 6, none⟩ = false ∧ b < w.heap.size := by
  have h0 : w.cell? ⟨b, 0, none⟩ = some a0 := by rw [cell_of_row w b 0 _ _ _ h]; rfl
  exact ⟨h0, by rw [cell_of_row w b 1 _ _ _ h]; rfl, by rw [cell_of_row w b 2 _ _ _ h]; rfl, by rw [cell_of_row w b 3 _ _ _ h]; rfl, by rw [cell_of_row w b 4 _ _ _ h]; rfl, by rw [cell_of_row w b 5 _ _ _ h]; rfl, by rw [cell_of_row w b 6 _ _ _ h]; rfl,
    frozen_of_row w b 0 _ _ h, frozen_of_row w b 1 _ _ h, frozen_of_row w b 2 _ _ h, frozen_of_row w b 3 _ _ h, frozen_of_row w b 4 _ _ h, frozen_of_row w b 5 _ _ h, frozen_of_row w b 6 _ _ h, World.block_lt_of_cell? w _ h0⟩
/-- A struct of 7 cells, each written: what the cells hold then; and what lies below is as it was. -/
theorem seven_set {W w1 : World} {b t : Nat} {a0 a1 a2 a3 a4 a5 a6 : Value} (x0 x1 x2 x3 x4 x5 x6 : Value) (h : w1.heap[b]? = some (.cells #[a0, a1, a2, a3, a4, a5, a6] t (0, 0))) (hB : Below W.heap.size W w1) (hb : W.heap.size ≤ b) {u : World} (hu : (((((((w1.setCell ⟨b, 0, none⟩ x0).setCell ⟨b, 1, none⟩ x1).setCell ⟨b, 2, none⟩ x2).setCell ⟨b, 3, none⟩ x3).setCell ⟨b, 4, none⟩ x4).setCell ⟨b, 5, none⟩ x5).setCell ⟨b, 6, none⟩ x6) = u) :
    u.cell? ⟨b, 0, none⟩ = some x0 ∧ u.cell? ⟨b, 1, none⟩ = some x1 ∧ u.cell? ⟨b, 2, none⟩ = some x2 ∧ u.cell? ⟨b, 3, none⟩ = some x3 ∧ u.cell? ⟨b, 4, none⟩ = some x4 ∧ u.cell? ⟨b, 5, none⟩ = some x5 ∧ u.cell? ⟨b, 6, none⟩ = some x6 ∧ Below W.heap.size W u := by
  have r0 : (w1.setCell ⟨b, 0, none⟩ x0).heap[b]? = some (.cells #[x0, a1, a2, a3, a4, a5, a6] t (0, 0)) := heap_setCell_same _ b 0 _ _ x0 h
  have s0 := hB.setCell (p := ⟨b, 0, none⟩) hb x0
  have r1 : ((w1.setCell ⟨b, 0, none⟩ x0).setCell ⟨b, 1, none⟩ x1).heap[b]? = some (.cells #[x0, x1, a2, a3, a4, a5, a6] t (0, 0)) := heap_setCell_same _ b 1 _ _ x1 r0
  have s1 := s0.setCell (p := ⟨b, 1, none⟩) hb x1
  have r2 : (((w1.setCell ⟨b, 0, none⟩ x0).setCell ⟨b, 1, none⟩ x1).setCell ⟨b, 2, none⟩ x2).heap[b]? = some (.cells #[x0, x1, x2, a3, a4, a5, a6] t (0, 0)) := heap_setCell_same _ b 2 _ _ x2 r1
  have s2 := s1.setCell (p := ⟨b, 2, none⟩) hb x2
  have r3 : ((((w1.setCell ⟨b, 0, none⟩ x0).setCell ⟨b, 1, none⟩ x1).setCell ⟨b, 2, none⟩ x2).setCell ⟨b, 3, none⟩ x3).heap[b]? = some (.cells #[x0, x1, x2, x3, a4, a5, a6] t (0, 0)) := heap_setCell_same _ b 3 _ _ x3 r2
  have s3 := s2.setCell (p := ⟨b, 3, none⟩) hb x3
  have r4 : (((((w1.setCell ⟨b, 0, none⟩ x0).setCell ⟨b, 1, none⟩ x1).setCell ⟨b, 2, none⟩ x2).setCell ⟨b, 3, none⟩ x3).setCell ⟨b, 4, none⟩ x4).heap[b]? = some (.cells #[x0, x1, x2, x3, x4, a5, a6] t (0, 0)) := heap_setCell_same _ b 4 _ _ x4 r3
  have s4 := s3.setCell (p := ⟨b, 4, none⟩) hb x4
  have r5 : ((((((w1.setCell ⟨b, 0, none⟩ x0).setCell ⟨b, 1, none⟩ x1).setCell ⟨b, 2, none⟩ x2).setCell ⟨b, 3, none⟩ x3).setCell ⟨b, 4, none⟩ x4).setCell ⟨b, 5, none⟩ x5).heap[b]? = some (.cells #[x0, x1, x2, x3, x4, x5, a6] t (0, 0)) := heap_setCell_same _ b 5 _ _ x5 r4
  have s5 := s4.setCell (p := ⟨b, 5, none⟩) hb x5
  have r6 : (((((((w1.setCell ⟨b, 0, none⟩ x0).setCell ⟨b, 1, none⟩ x1).setCell ⟨b, 2, none⟩ x2).setCell ⟨b, 3, none⟩ x3).setCell ⟨b, 4, none⟩ x4).setCell ⟨b, 5, none⟩ x5).setCell ⟨b, 6, none⟩ x6).heap[b]? = some (.cells #[x0, x1, x2, x3, x4, x5, x6] t (0, 0)) := heap_setCell_same _ b 6 _ _ x6 r5
  have s6 := s5.setCell (p := ⟨b, 6, none⟩) hb x6
  rw [hu] at r6 s6
  refine ⟨?_, ?_, ?_, ?_, ?_, ?_, ?_, s6⟩
  · rw [cell_of_row u b 0 _ _ _ r6]; rfl
  · rw [cell_of_row u b 1 _ _ _ r6]; rfl
  · rw [cell_of_row u b 2 _ _ _ r6]; rfl
  · rw [cell_of_row u b 3 _ _ _ r6]; rfl
  · rw [cell_of_row u b 4 _ _ _ r6]; rfl
  · rw [cell_of_row u b 5 _ _ _ r6]; rfl
  · rw [cell_of_row u b 6 _ _ _ r6]; rfl
end Go.Proofs.Ytnofmlkjagdklaa

namespace Go.Proofs.Ytnofmlkjagdklaa
open Go.RowKit

/-- What was in memory is as it was. -/
structure Bst (W w : World) : Prop where
  b : Below W.heap.size W w
theorem Bst.start (W : World) : Bst W W := ⟨Below.refl _ _⟩
theorem Bst.on {W w w' : World} (h : Bst W w) (hb : Below w.heap.size w w') : Bst W w' := ⟨below_on h.b hb⟩
theorem Bst.al {W w : World} (h : Bst W w) (o : Obj) : Bst W (w.alloc o) := h.on ((Below.refl w.heap.size w).alloc (Nat.le_refl _) o)
/-- Two structs of five cells and one of three between them, in memory. -/
def Thr (W : World) (bS bD bT : Nat) (m n d f x y p q : Int) (u : World) : Prop := u.cell? ⟨bS, 0, none⟩ = some (.int .i64 m) ∧ u.cell? ⟨bS, 1, none⟩ = some (.int .i64 n) ∧ u.cell? ⟨bS, 2, none⟩ = some (.int .i64 d) ∧ u.cell? ⟨bS, 3, none⟩ = some (.int .i64 f) ∧ u.cell? ⟨bS, 4, none⟩ = some (.int .i64 x) ∧ u.cell? ⟨bD, 0, none⟩ = some (.int .i64 y) ∧ u.cell? ⟨bD, 1, none⟩ = some (.int .i64 p) ∧ u.cell? ⟨bD, 2, none⟩ = some (.int .i64 q) ∧ u.cell? ⟨bT, 0, none⟩ = some (.int .i64 m) ∧ u.cell? ⟨bT, 1, none⟩ = some (.int .i64 n) ∧ u.cell? ⟨bT, 2, none⟩ = some (.int .i64 d) ∧ u.cell? ⟨bT, 3, none⟩ = some (.int .i64 f) ∧ u.cell? ⟨bT, 4, none⟩ = some (.int .i64 x) ∧ Below W.heap.size W u
theorem Thr.on {W : World} {bS bD bT : Nat} {m n d f x y p q : Int} {u u' : World} (h : Thr W bS bD bT m n d f x y p q u) (hb : Below u.heap.size u u') : Thr W bS bD bT m n d f x y p q u' := by
  obtain ⟨a0, a1, a2, a3, a4, a5, a6, a7, a8, a9, a10, a11, a12, z⟩ := h
  exact ⟨cell_below a0 hb, cell_below a1 hb, cell_below a2 hb, cell_below a3 hb, cell_below a4 hb, cell_below a5 hb, cell_below a6 hb, cell_below a7 hb, cell_below a8 hb, cell_below a9 hb, cell_below a10 hb, cell_below a11 hb, cell_below a12 hb, below_on z hb⟩
theorem Thr.drew {W : World} {bS bD bT : Nat} {m n d f x y p q : Int} {u : World} (h : Thr W bS bD bT m n d f x y p q u) : Thr W bS bD bT m n d f x y p q u.drew := h.on (below_dn (Below.refl _ _) 1)
end Go.Proofs.Ytnofmlkjagdklaa
