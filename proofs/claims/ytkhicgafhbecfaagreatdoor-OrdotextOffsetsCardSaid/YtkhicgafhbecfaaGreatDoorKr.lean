/- What earlier stages proved: Cn Cp Cq. -/
import Derived.Test.YtkhicgafhbecfaaGreatDoorKc
import Derived.Test.YtkhicgafhbecfaaGreatDoorKa
namespace Go.Proofs.YtkhicgafhbecfaaGreatDoor
open Go.RowKit

theorem next_in_year (l : Bool) (y : Int) {m d i : Int} (m1 : 1 ≤ m) (m2 : m ≤ 12) (d1 : 1 ≤ d) (d2 : d ≤ dim l m) (e : cum l m + d = i) (hi : i < 365 + l01 l) :
    Cal.nextY l y m d = y ∧ 1 ≤ Cal.nextM l y m d ∧ Cal.nextM l y m d ≤ 12 ∧ 1 ≤ Cal.nextD l y m d ∧ Cal.nextD l y m d ≤ dim l (Cal.nextM l y m d) ∧ cum l (Cal.nextM l y m d) + Cal.nextD l y m d = i + 1 := by
  unfold Cal.nextY Cal.nextM Cal.nextD
  by_cases h : d < dim l m
  · rw [if_pos h, if_pos h, if_pos h]; exact ⟨rfl, m1, m2, by omega, by omega, by omega⟩
  · rw [if_neg h, if_neg h, if_neg h]
    by_cases h2 : m < 12
    · rw [if_pos h2, if_pos h2]
      have := dim_bd l (m + 1) (by omega) (by omega)
      have cs := cum_succ l m m1 m2
      exact ⟨rfl, by omega, by omega, by omega, by omega, by omega⟩
    · obtain rfl : m = 12 := by omega
      have cs := cum_succ l 12 m1 m2
      have ce := cum_end l
      rw [show (12 : Int) + 1 = 13 from rfl] at cs
      omega
theorem on_drew {w w' : World} (hb : Below w.drew.heap.size w.drew w') : Below w.heap.size w w' := (below_dn (Below.refl w.heap.size w) 1).trans hb
theorem set3_keep {W w2 : World} {b c t : Nat} {a0 a1 a2 : Value} {o : Obj} (ht : CTab W) (hS : St W w2) (hW : W.heap.size ≤ b) (hcb : c < b) (hR : w2.heap[c]? = some o) (hD : w2.heap[b]? = some (.cells #[a0, a1, a2] t (0, 0))) (x y z : Value) :
    St W (((w2.setCell ⟨b, 0, none⟩ x).setCell ⟨b, 1, none⟩ y).setCell ⟨b, 2, none⟩ z) ∧ (((w2.setCell ⟨b, 0, none⟩ x).setCell ⟨b, 1, none⟩ y).setCell ⟨b, 2, none⟩ z).heap[c]? = some o ∧ (((w2.setCell ⟨b, 0, none⟩ x).setCell ⟨b, 1, none⟩ y).setCell ⟨b, 2, none⟩ z).heap[b]? = some (.cells #[x, y, z] t (0, 0)) := by
  have h1 : Below W.heap.size W (((w2.setCell ⟨b, 0, none⟩ x).setCell ⟨b, 1, none⟩ y).setCell ⟨b, 2, none⟩ z) := below_set3 hS.b hW x y z rfl
  have h2 : Below b w2 (((w2.setCell ⟨b, 0, none⟩ x).setCell ⟨b, 1, none⟩ y).setCell ⟨b, 2, none⟩ z) := below_set3 (Below.refl b w2) (Nat.le_refl _) x y z rfl
  exact ⟨⟨ht.on h1, h1⟩, by rw [h2.block _ hcb]; exact hR, heap_setCell_same _ b 2 _ _ z (heap_setCell_same _ b 1 _ _ y (heap_setCell_same w2 b 0 _ _ x hD))⟩
section
variable (a y k s n : Int) (w : World)
end
end Go.Proofs.YtkhicgafhbecfaaGreatDoor

namespace Go.Proofs.YtkhicgafhbecfaaGreatDoor
open Go.RowKit

theorem okC_lo {c : Int} (h : okC c = true) : ¬ c < 1 ∧ ¬ 2 < c := by have := okC_iff.1 h; omega
theorem okC_no {c : Int} (h : okC c = false) : c < 1 ∨ (¬ c < 1 ∧ 2 < c) := by
  have h1 : ¬ (c = 1 ∨ c = 2) := fun g => by rw [okC_iff.2 g] at h; cases h
  omega
theorem fE_one {c n : Int} (hc : okC c = true) (h : ¬ (-1 ≤ n ∧ n ≤ 365249999998)) : fE c n = 1 ∧ fY c n = 0 ∧ fM c n = 0 ∧ fD c n = 0 := by
  have a : fE c n = 1 := by unfold fE; rw [if_pos hc, if_neg (fun g => h (InD_bd g))]
  exact ⟨a, fE_no (by rw [a]; omega)⟩
section
variable (c y m d : Int) (w : World) (ht : CTab w)
include ht
end
end Go.Proofs.YtkhicgafhbecfaaGreatDoor

namespace Go.Proofs.YtkhicgafhbecfaaGreatDoor
open Go.RowKit

abbrev set3 (w : World) (b : Nat) (x y z : Value) : World := ((w.setCell ⟨b, 0, none⟩ x).setCell ⟨b, 1, none⟩ y).setCell ⟨b, 2, none⟩ z
theorem St.set {W w : World} (h : St W w) (ht : CTab W) {b : Nat} (hb : W.heap.size ≤ b) (x y z : Value) : St W (set3 w b x y z) := by
  have h1 : Below W.heap.size W (set3 w b x y z) := below_set3 h.b hb x y z rfl
  exact ⟨ht.on h1, h1⟩
theorem row_set {w : World} {b t : Nat} {a0 a1 a2 : Value} (h : w.heap[b]? = some (.cells #[a0, a1, a2] t (0, 0))) (x y z : Value) : (set3 w b x y z).heap[b]? = some (.cells #[x, y, z] t (0, 0)) :=
  heap_setCell_same _ b 2 _ _ z (heap_setCell_same _ b 1 _ _ y (heap_setCell_same w b 0 _ _ x h))
theorem row_oth {w : World} {b c : Nat} {o : Obj} (h : w.heap[c]? = some o) (hn : c ≠ b) (x y z : Value) : (set3 w b x y z).heap[c]? = some o := by
  unfold set3
  rw [heap_setCell_other _ _ _ _ hn, heap_setCell_other _ _ _ _ hn, heap_setCell_other _ _ _ _ hn]; exact h
theorem row3 {w : World} {b t : Nat} {a0 a1 a2 : Value} (h : w.heap[b]? = some (.cells #[a0, a1, a2] t (0, 0))) :
    w.cell? ⟨b, 0, none⟩ = some a0 ∧ w.cell? ⟨b, 1, none⟩ = some a1 ∧ w.cell? ⟨b, 2, none⟩ = some a2 ∧ w.frozen? ⟨b, 0, none⟩ = false ∧ w.frozen? ⟨b, 1, none⟩ = false ∧ w.frozen? ⟨b, 2, none⟩ = false ∧ b < w.heap.size := by
  have h0 : w.cell? ⟨b, 0, none⟩ = some a0 := by rw [cell_of_row w b 0 _ _ _ h]; rfl
  exact ⟨h0, by rw [cell_of_row w b 1 _ _ _ h]; rfl, by rw [cell_of_row w b 2 _ _ _ h]; rfl, frozen_of_row w b 0 _ _ h, frozen_of_row w b 1 _ _ h, frozen_of_row w b 2 _ _ h, World.block_lt_of_cell? w _ h0⟩

theorem ex_cv : vE 1582 10 4 1 2 = 0 ∧ vY 1582 10 4 1 2 = 1582 ∧ vM 1582 10 4 1 2 = 10 ∧ vD 1582 10 4 1 2 = 14 := by
  have t : tE 1 1582 10 4 = 0 := by decide
  have n : tN 1 1582 10 4 = 577735 := by decide
  obtain ⟨a, b, c, d⟩ := fE_at (c := 2) (y := 1582) (m := 10) (d := 14) (n := 577735) (by decide) (by decide) (by decide)
  have e : vE 1582 10 4 1 2 = 0 := by unfold vE; rw [t, n, a]; rfl
  unfold vY vM vD; rw [e, n]; exact ⟨rfl, b, c, d⟩
theorem ex_fy : xE 1 1900 366 = 0 ∧ xY 1 1900 366 = 1900 ∧ xM 1 1900 366 = 12 ∧ xD 1 1900 366 = 31 := by
  have e : xE 1 1900 366 = 0 := by decide
  obtain ⟨a, b, c, d⟩ := fE_at (c := 1) (y := 1900) (m := 12) (d := 31) (n := jul.fst 1900 + 366 - 1) (by decide) (by decide) (by decide)
  unfold xY xM xD; rw [e]; exact ⟨rfl, b, c, d⟩

end Go.Proofs.YtkhicgafhbecfaaGreatDoor
