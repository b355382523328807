/- The contract of package computusref05's FromYear: day by day through the year. -/
import Derived.Test.YtclnpnkjldddcaaDoorCm
import Derived.Test.YtclnpnkjldddcaaDoorNx
namespace Go.Proofs.YtclnpnkjldddcaaDoor
open Go.RowKit

theorem next_in_year (l : Bool) (y : Int) {m d i : Int} (m1 : 1 ≤ m) (m2 : m ≤ 12) (d1 : 1 ≤ d) (d2 : d ≤ dim l m) (e : cum l m + d = i) (hi : i < 365 + l01 l) :
    Cal.nextY l y m d = y ∧ 1 ≤ Cal.nextM l y m d ∧ Cal.nextM l y m d ≤ 12 ∧ 1 ≤ Cal.nextD l y m d ∧ Cal.nextD l y m d ≤ dim l (Cal.nextM l y m d) ∧ cum l (Cal.nextM l y m d) + Cal.nextD l y m d = i + 1 := by
  unfold Cal.nextY Cal.nextM Cal.nextD
  by_cases h : d < dim l m
  · rw [if_pos h, if_pos h, if_pos h]; exact ⟨rfl, m1, m2, by omega, by omega, by omega⟩
  · rw [if_neg h, if_neg h, if_neg h]
    by_cases h2 : m < 12
    · rw [if_pos h2, if_pos h2]
      have := dim_bd l (m + 1) (by omega) (by omega)
      have cs := cum_succ l m m1 m2
      exact ⟨rfl, by omega, by omega, by omega, by omega, by omega⟩
    · obtain rfl : m = 12 := by omega
      have cs := cum_succ l 12 m1 m2
      have ce := cum_end l
      rw [show (12 : Int) + 1 = 13 from rfl] at cs
      omega
theorem on_drew {w w' : World} (hb : Below w.drew.heap.size w.drew w') : Below w.heap.size w w' := (below_dn (Below.refl w.heap.size w) 1).trans hb
theorem set3_keep {W w2 : World} {b c t : Nat} {a0 a1 a2 : Value} {o : Obj} (ht : CTab W) (hS : St W w2) (hW : W.heap.size ≤ b) (hcb : c < b) (hR : w2.heap[c]? = some o) (hD : w2.heap[b]? = some (.cells #[a0, a1, a2] t (0, 0))) (x y z : Value) :
    St W (((w2.setCell ⟨b, 0, none⟩ x).setCell ⟨b, 1, none⟩ y).setCell ⟨b, 2, none⟩ z) ∧ (((w2.setCell ⟨b, 0, none⟩ x).setCell ⟨b, 1, none⟩ y).setCell ⟨b, 2, none⟩ z).heap[c]? = some o ∧ (((w2.setCell ⟨b, 0, none⟩ x).setCell ⟨b, 1, none⟩ y).setCell ⟨b, 2, none⟩ z).heap[b]? = some (.cells #[x, y, z] t (0, 0)) := by
  have h1 : Below W.heap.size W (((w2.setCell ⟨b, 0, none⟩ x).setCell ⟨b, 1, none⟩ y).setCell ⟨b, 2, none⟩ z) := below_set3 hS.b hW x y z rfl
  have h2 : Below b w2 (((w2.setCell ⟨b, 0, none⟩ x).setCell ⟨b, 1, none⟩ y).setCell ⟨b, 2, none⟩ z) := below_set3 (Below.refl b w2) (Nat.le_refl _) x y z rfl
  exact ⟨⟨ht.on h1, h1⟩, by rw [h2.block _ hcb]; exact hR, heap_setCell_same _ b 2 _ _ z (heap_setCell_same _ b 1 _ _ y (heap_setCell_same w2 b 0 _ _ x hD))⟩
section
variable (a y k s n : Int) (w : World)
end
end Go.Proofs.YtclnpnkjldddcaaDoor
