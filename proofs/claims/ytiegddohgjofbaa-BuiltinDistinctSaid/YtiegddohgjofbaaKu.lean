/- What earlier stages proved: Ue. -/
import Derived.Test.YtiegddohgjofbaaKe
import Derived.Test.YtiegddohgjofbaaKp
import Derived.Test.YtiegddohgjofbaaKa
import Derived.Test.YtiegddohgjofbaaKc
import Derived.Test.YtiegddohgjofbaaKr
import Derived.Test.YtiegddohgjofbaaKd
import Derived.Test.YtiegddohgjofbaaKw
namespace Go.Proofs.Ytiegddohgjofbaa
open Go.RowKit

/-- What was in memory is as it was. -/
structure Bst (W w : World) : Prop where
  b : Below W.heap.size W w
theorem Bst.start (W : World) : Bst W W := ⟨Below.refl _ _⟩
theorem Bst.on {W w w' : World} (h : Bst W w) (hb : Below w.heap.size w w') : Bst W w' := ⟨below_on h.b hb⟩
theorem Bst.al {W w : World} (h : Bst W w) (o : Obj) : Bst W (w.alloc o) := h.on ((Below.refl w.heap.size w).alloc (Nat.le_refl _) o)
/-- Two structs of five cells and one of three between them, in memory. -/
def Thr (W : World) (bS bD bT : Nat) (m n d f x y p q : Int) (u : World) : Prop := u.cell? ⟨bS, 0, none⟩ = some (.int .i64 m) ∧ u.cell? ⟨bS, 1, none⟩ = some (.int .i64 n) ∧ u.cell? ⟨bS, 2, none⟩ = some (.int .i64 d) ∧ u.cell? ⟨bS, 3, none⟩ = some (.int .i64 f) ∧ u.cell? ⟨bS, 4, none⟩ = some (.int .i64 x) ∧ u.cell? ⟨bD, 0, none⟩ = some (.int .i64 y) ∧ u.cell? ⟨bD, 1, none⟩ = some (.int .i64 p) ∧ u.cell? ⟨bD, 2, none⟩ = some (.int .i64 q) ∧ u.cell? ⟨bT, 0, none⟩ = some (.int .i64 m) ∧ u.cell? ⟨bT, 1, none⟩ = some (.int .i64 n) ∧ u.cell? ⟨bT, 2, none⟩ = some (.int .i64 d) ∧ u.cell? ⟨bT, 3, none⟩ = some (.int .i64 f) ∧ u.cell? ⟨bT, 4, none⟩ = some (.int .i64 x) ∧ Below W.heap.size W u
theorem Thr.on {W : World} {bS bD bT : Nat} {m n d f x y p q : Int} {u u' : World} (h : Thr W bS bD bT m n d f x y p q u) (hb : Below u.heap.size u u') : Thr W bS bD bT m n d f x y p q u' := by
  obtain ⟨a0, a1, a2, a3, a4, a5, a6, a7, a8, a9, a10, a11, a12, z⟩ := h
  exact ⟨cell_below a0 hb, cell_below a1 hb, cell_below a2 hb, cell_below a3 hb, cell_below a4 hb, cell_below a5 hb, cell_below a6 hb, cell_below a7 hb, cell_below a8 hb, cell_below a9 hb, cell_below a10 hb, cell_below a11 hb, cell_below a12 hb, below_on z hb⟩
theorem Thr.drew {W : World} {bS bD bT : Nat} {m n d f x y p q : Int} {u : World} (h : Thr W bS bD bT m n d f x y p q u) : Thr W bS bD bT m n d f x y p q u.drew := h.on (below_dn (Below.refl _ _) 1)
end Go.Proofs.Ytiegddohgjofbaa
