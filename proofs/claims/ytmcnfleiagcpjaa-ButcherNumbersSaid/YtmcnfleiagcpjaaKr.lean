/- What earlier stages proved: Cq. -/
import Derived.Test.YtmcnfleiagcpjaaKc
import Derived.Test.YtmcnfleiagcpjaaKa
namespace Go.Proofs.Ytmcnfleiagcpjaa
open Go.RowKit

theorem row3 {w : World} {b t : Nat} {a0 a1 a2 : Value} (h : w.heap[b]? = some (.cells #[a0, a1, a2] t (0, 0))) :
    w.cell? ⟨b, 0, none⟩ = some a0 ∧ w.cell? ⟨b, 1, none⟩ = some a1 ∧ w.cell? ⟨b, 2, none⟩ = some a2 ∧ w.frozen? ⟨b, 0, none⟩ = false ∧ w.frozen? ⟨b, 1, none⟩ = false ∧ w.frozen? ⟨b, 2, none⟩ = false ∧ b < w.heap.size := by
  have h0 : w.cell? ⟨b, 0, none⟩ = some a0 := by rw [cell_of_row w b 0 _ _ _ h]; rfl
  exact ⟨h0, by rw [cell_of_row w b 1 _ _ _ h]; rfl, by rw [cell_of_row w b 2 _ _ _ h]; rfl, frozen_of_row w b 0 _ _ h, frozen_of_row w b 1 _ _ h, frozen_of_row w b 2 _ _ h, World.block_lt_of_cell? w _ h0⟩

end Go.Proofs.Ytmcnfleiagcpjaa
