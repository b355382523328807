/- What earlier stages proved: Tb Te. -/
import Derived.Test.YtiegddohgjofbaaKe
import Derived.Test.YtiegddohgjofbaaKp
import Derived.Test.YtiegddohgjofbaaKs
import Derived.Test.YtiegddohgjofbaaKa
import Derived.Test.YtiegddohgjofbaaKc
import Derived.LoopN
import Derived.Test.YtiegddohgjofbaaKr
import Derived.Test.YtiegddohgjofbaaKd
import Derived.Test.YtiegddohgjofbaaKw
import Derived.Test.YtiegddohgjofbaaKu
namespace Go.Proofs.Ytiegddohgjofbaa
open Go.RowKit

theorem row6 {w : World} {b t : Nat} {a0 a1 a2 a3 a4 a5 : Value} (h : w.heap[b]? = some (.cells #[a0, a1, a2, a3, a4, a5] t (0, 0))) :
    w.cell? ⟨b, 0, none⟩ = some a0 ∧ w.cell? ⟨b, 1, none⟩ = some a1 ∧ w.cell? ⟨b, 2, none⟩ = some a2 ∧ w.cell? ⟨b, 3, none⟩ = some a3 ∧ w.cell? ⟨b, 4, none⟩ = some a4 ∧ w.cell? ⟨b, 5, none⟩ = some a5 ∧
    w.frozen? ⟨b, 0, none⟩ = false ∧ w.frozen? ⟨b, 1, none⟩ = false ∧ w.frozen? ⟨b, 2, none⟩ = false ∧ w.frozen? ⟨b, 3, none⟩ = false ∧ w.frozen? ⟨b, 4, none⟩ = false ∧ w.frozen? ⟨b, 5, none⟩ = false ∧ b < w.heap.size := by
  have h0 : w.cell? ⟨b, 0, none⟩ = some a0 := by rw [cell_of_row w b 0 _ _ _ h]; rfl
  exact ⟨h0, by rw [cell_of_row w b 1 _ _ _ h]; rfl, by rw [cell_of_row w b 2 _ _ _ h]; rfl, by rw [cell_of_row w b 3 _ _ _ h]; rfl, by rw [cell_of_row w b 4 _ _ _ h]; rfl, by rw [cell_of_row w b 5 _ _ _ h]; rfl,
    frozen_of_row w b 0 _ _ h, frozen_of_row w b 1 _ _ h, frozen_of_row w b 2 _ _ h, frozen_of_row w b 3 _ _ h, frozen_of_row w b 4 _ _ h, frozen_of_row w b 5 _ _ h, World.block_lt_of_cell? w _ h0⟩
end Go.Proofs.Ytiegddohgjofbaa

namespace Go.Proofs.Ytiegddohgjofbaa
open Go.RowKit

/-- Three dates in memory, all the same. -/
def Tre (W : World) (b1 b2 b3 : Nat) (y p q : Int) (u : World) : Prop := u.cell? ⟨b1, 0, none⟩ = some (.int .i64 y) ∧ u.cell? ⟨b1, 1, none⟩ = some (.int .i64 p) ∧ u.cell? ⟨b1, 2, none⟩ = some (.int .i64 q) ∧ u.cell? ⟨b2, 0, none⟩ = some (.int .i64 y) ∧ u.cell? ⟨b2, 1, none⟩ = some (.int .i64 p) ∧ u.cell? ⟨b2, 2, none⟩ = some (.int .i64 q) ∧ u.cell? ⟨b3, 0, none⟩ = some (.int .i64 y) ∧ u.cell? ⟨b3, 1, none⟩ = some (.int .i64 p) ∧ u.cell? ⟨b3, 2, none⟩ = some (.int .i64 q) ∧ Below W.heap.size W u
theorem Tre.on {W : World} {b1 b2 b3 : Nat} {y p q : Int} {u u' : World} (h : Tre W b1 b2 b3 y p q u) (hb : Below u.heap.size u u') : Tre W b1 b2 b3 y p q u' := by
  obtain ⟨a0, a1, a2, a3, a4, a5, a6, a7, a8, z⟩ := h
  exact ⟨cell_below a0 hb, cell_below a1 hb, cell_below a2 hb, cell_below a3 hb, cell_below a4 hb, cell_below a5 hb, cell_below a6 hb, cell_below a7 hb, cell_below a8 hb, below_on z hb⟩
theorem Tre.drew {W : World} {b1 b2 b3 : Nat} {y p q : Int} {u : World} (h : Tre W b1 b2 b3 y p q u) : Tre W b1 b2 b3 y p q u.drew := h.on (below_dn (Below.refl _ _) 1)
end Go.Proofs.Ytiegddohgjofbaa
