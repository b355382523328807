/- What earlier stages proved: Ua Ue. -/
import Derived.Test.YtaifhikhdcnacaaKc
import Derived.Test.YtaifhikhdcnacaaRows
import Derived.Test.YtaifhikhdcnacaaKa
import Derived.IntWalk
import Derived.Test.YtaifhikhdcnacaaKp
import Derived.Test.YtaifhikhdcnacaaKr
namespace Go.Proofs.Ytaifhikhdcnacaa

/-- The numbers of the method of Gauss. -/
def uM (c y : Int) : Int := if c = 1 then 15 else (15 - (13 + 8 * (y / 100)) / 25 + y / 100 - y / 100 / 4) % 30
def uN (c y : Int) : Int := if c = 1 then 6 else (4 + y / 100 - y / 100 / 4) % 7
def uD (c y : Int) : Int := (19 * (y % 19) + uM c y) % 30
def uE (c y : Int) : Int := (2 * (y % 4) + 4 * (y % 7) + 6 * uD c y + uN c y) % 7
def uX (c y : Int) : Int := if c = 1 then 0 else if uE c y = 6 then (if uD c y = 29 then 1 else if uD c y = 28 ∧ (11 * uM c y + 11) % 30 < 19 then 2 else 0) else 0
/-- How many days behind 21 March Easter is by the method. -/
def uO (c y : Int) : Int := if uX c y = 1 then 29 else if uX c y = 2 then 28 else uD c y + uE c y + 1
end Go.Proofs.Ytaifhikhdcnacaa

namespace Go.Proofs.Ytaifhikhdcnacaa
open Go.RowKit

/-- What was in memory is as it was. -/
structure Bst (W w : World) : Prop where
  b : Below W.heap.size W w
theorem Bst.start (W : World) : Bst W W := ⟨Below.refl _ _⟩
theorem Bst.on {W w w' : World} (h : Bst W w) (hb : Below w.heap.size w w') : Bst W w' := ⟨below_on h.b hb⟩
theorem Bst.al {W w : World} (h : Bst W w) (o : Obj) : Bst W (w.alloc o) := h.on ((Below.refl w.heap.size w).alloc (Nat.le_refl _) o)
/-- Two structs of five cells and one of three between them, in memory. -/
def Thr (W : World) (bS bD bT : Nat) (m n d f x y p q : Int) (u : World) : Prop := u.cell? ⟨bS, 0, none⟩ = some (.int .i64 m) ∧ u.cell? ⟨bS, 1, none⟩ = some (.int .i64 n) ∧ u.cell? ⟨bS, 2, none⟩ = some (.int .i64 d) ∧ u.cell? ⟨bS, 3, none⟩ = some (.int .i64 f) ∧ u.cell? ⟨bS, 4, none⟩ = some (.int .i64 x) ∧ u.cell? ⟨bD, 0, none⟩ = some (.int .i64 y) ∧ u.cell? ⟨bD, 1, none⟩ = some (.int .i64 p) ∧ u.cell? ⟨bD, 2, none⟩ = some (.int .i64 q) ∧ u.cell? ⟨bT, 0, none⟩ = some (.int .i64 m) ∧ u.cell? ⟨bT, 1, none⟩ = some (.int .i64 n) ∧ u.cell? ⟨bT, 2, none⟩ = some (.int .i64 d) ∧ u.cell? ⟨bT, 3, none⟩ = some (.int .i64 f) ∧ u.cell? ⟨bT, 4, none⟩ = some (.int .i64 x) ∧ Below W.heap.size W u
theorem Thr.on {W : World} {bS bD bT : Nat} {m n d f x y p q : Int} {u u' : World} (h : Thr W bS bD bT m n d f x y p q u) (hb : Below u.heap.size u u') : Thr W bS bD bT m n d f x y p q u' := by
  obtain ⟨a0, a1, a2, a3, a4, a5, a6, a7, a8, a9, a10, a11, a12, z⟩ := h
  exact ⟨cell_below a0 hb, cell_below a1 hb, cell_below a2 hb, cell_below a3 hb, cell_below a4 hb, cell_below a5 hb, cell_below a6 hb, cell_below a7 hb, cell_below a8 hb, cell_below a9 hb, cell_below a10 hb, cell_below a11 hb, cell_below a12 hb, below_on z hb⟩
theorem Thr.drew {W : World} {bS bD bT : Nat} {m n d f x y p q : Int} {u : World} (h : Thr W bS bD bT m n d f x y p q u) : Thr W bS bD bT m n d f x y p q u.drew := h.on (below_dn (Below.refl _ _) 1)
end Go.Proofs.Ytaifhikhdcnacaa
