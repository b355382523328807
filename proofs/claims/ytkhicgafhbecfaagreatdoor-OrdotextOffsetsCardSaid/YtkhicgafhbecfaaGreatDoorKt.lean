/- What earlier stages proved: Ta Tb Te. -/
import Derived.Test.YtkhicgafhbecfaaGreatDoorKu
import Derived.Test.YtkhicgafhbecfaaGreatDoorKa
import Derived.Test.YtkhicgafhbecfaaGreatDoorKc
import Derived.LoopN
namespace Go.Proofs.YtkhicgafhbecfaaGreatDoor

/-- The number of a year: 113 more than the days by which Easter is behind 21 March. -/
def bN (c y : Int) : Int := uO c y + 113
theorem b_jul_d (y : Int) : (19 * (y % 19) + 15) % 30 = uD 1 y := by unfold uD uM; rw [if_pos rfl]
theorem b_jul_e (y : Int) : (2 * (y % 4) + 4 * (y % 7) - uD 1 y + 34) % 7 = uE 1 y := by
  have h : uE 1 y = (2 * (y % 4) + 4 * (y % 7) + 6 * uD 1 y + uN 1 y) % 7 := rfl
  have hn : uN 1 y = 6 := rfl
  rw [h, hn]; omega
theorem b_jul_n (y : Int) : uD 1 y + uE 1 y + 114 = bN 1 y := by
  have hx : uX 1 y = 0 := by unfold uX; rw [if_pos rfl]
  have : uO 1 y = uD 1 y + uE 1 y + 1 := by unfold uO; rw [if_neg (by omega), if_neg (by omega)]
  unfold bN; omega
theorem b_corr (b : Int) : (b - (b + 8) / 25 + 1) / 3 = (13 + 8 * b) / 25 := by
  obtain ⟨q, r, rfl, r1, r2⟩ : ∃ q r, b = 25 * q + r ∧ 0 ≤ r ∧ r < 25 := ⟨b / 25, b % 25, by omega, by omega, by omega⟩
  have h1 : (25 * q + r + 8) / 25 = q + (r + 8) / 25 := by omega
  have h2 : (13 + 8 * (25 * q + r)) / 25 = 8 * q + (13 + 8 * r) / 25 := by omega
  rw [h1, h2]
  have : r < 17 ∨ 17 ≤ r := by omega
  rcases this with h | h
  · have : (r + 8) / 25 = 0 := by omega
    rw [this]; omega
  · have : (r + 8) / 25 = 1 := by omega
    rw [this]; omega
theorem b_greg_h (y : Int) : (19 * (y % 19) + y / 100 - y / 100 / 4 - (y / 100 - (y / 100 + 8) / 25 + 1) / 3 + 15) % 30 = uD 2 y := by
  have hd : uD 2 y = (19 * (y % 19) + uM 2 y) % 30 := rfl
  have hm : uM 2 y = (15 - (13 + 8 * (y / 100)) / 25 + y / 100 - y / 100 / 4) % 30 := by unfold uM; rw [if_neg (by omega)]
  rw [hd, hm, b_corr]
  generalize (13 + 8 * (y / 100)) / 25 = p
  generalize y / 100 / 4 = q
  generalize y / 100 = k
  generalize y % 19 = a
  omega
theorem b_greg_l (y : Int) : (32 + 2 * (y / 100 % 4) + 2 * (y % 100 / 4) - uD 2 y - y % 100 % 4) % 7 = uE 2 y := by
  have he : uE 2 y = (2 * (y % 4) + 4 * (y % 7) + 6 * uD 2 y + uN 2 y) % 7 := rfl
  have hn : uN 2 y = (4 + y / 100 - y / 100 / 4) % 7 := rfl
  rw [he, hn]
  generalize uD 2 y = d
  clear he hn
  obtain ⟨b, c, rfl, c1, c2⟩ : ∃ b c, y = 100 * b + c ∧ 0 ≤ c ∧ c < 100 := ⟨y / 100, y % 100, by omega, by omega, by omega⟩
  obtain ⟨i, k, rfl, k1, k2⟩ : ∃ i k, c = 4 * i + k ∧ 0 ≤ k ∧ k < 4 := ⟨c / 4, c % 4, by omega, by omega, by omega⟩
  obtain ⟨q, r, rfl, r1, r2⟩ : ∃ q r, b = 4 * q + r ∧ 0 ≤ r ∧ r < 4 := ⟨b / 4, b % 4, by omega, by omega, by omega⟩
  have h1 : (100 * (4 * q + r) + (4 * i + k)) / 100 = 4 * q + r := by omega
  have h2 : (100 * (4 * q + r) + (4 * i + k)) % 100 = 4 * i + k := by omega
  have h3 : (4 * q + r) % 4 = r := by omega
  have h4 : (4 * i + k) / 4 = i := by omega
  have h5 : (4 * i + k) % 4 = k := by omega
  have h6 : (100 * (4 * q + r) + (4 * i + k)) % 4 = k := by omega
  have h7 : (4 * q + r) / 4 = q := by omega
  rw [h1, h2, h3, h4, h5, h6, h7]
  clear h1 h2 h3 h4 h5 h6 h7
  omega
theorem b_greg_n (y : Int) : uD 2 y + uE 2 y - 7 * ((y % 19 + 11 * uD 2 y + 22 * uE 2 y) / 451) + 114 = bN 2 y := by
  have hx := uX_cases 2 y
  have hb := uD_bd 2 y
  have hb2 := uE_bd 2 y
  have ht := u_two (c := 2) (y := y)
  have hg : gold y = y % 19 + 1 := rfl
  rw [hg] at ht
  have a1 : 0 ≤ y % 19 := by omega
  have a2 : y % 19 ≤ 18 := by omega
  unfold bN uO
  generalize uX 2 y = x at *
  generalize uD 2 y = d at *
  generalize uE 2 y = f at *
  generalize (11 * uM 2 y + 11) % 30 = z at *
  generalize y % 19 = a at *
  rcases hx with ⟨rfl, h1, rfl, rfl⟩ | ⟨rfl, h1, rfl, rfl, h4⟩ | ⟨rfl, h⟩
  · rw [if_pos rfl]; omega
  · rw [if_neg (by omega), if_pos rfl]
    have := (ht rfl).1 h4
    omega
  · rw [if_neg (by omega), if_neg (by omega)]
    have : ¬ (d = 28 ∧ 11 < a + 1 ∧ f = 6) := fun q => by
      have := (ht q.1).2 q.2.1
      omega
    clear ht
    have : (a + 11 * d + 22 * f) / 451 = 0 := by omega
    omega
theorem bN_bd (c y : Int) (hc : c = 1 ∨ c = 2) : 114 ≤ bN c y ∧ bN c y ≤ 148 := by
  have := eaO_bd c y
  unfold bN; rw [u_easter hc]; omega
/-- The month and the day that follow from a number. -/
theorem b_mon (k : Int) (h1 : 1 ≤ k) (h2 : k ≤ 35) : (k + 113) / 31 = marM k ∧ (k + 113) % 31 + 1 = marD k := by
  unfold marM marD
  split <;> omega
theorem bN_mon {c y : Int} (hc : c = 1 ∨ c = 2) : bN c y / 31 = marM (eaO c y) ∧ bN c y % 31 + 1 = marD (eaO c y) := by
  have := eaO_bd c y
  unfold bN; rw [u_easter hc]
  exact b_mon _ (by omega) (by omega)
end Go.Proofs.YtkhicgafhbecfaaGreatDoor

namespace Go.Proofs.YtkhicgafhbecfaaGreatDoor
open Go.RowKit

theorem row6 {w : World} {b t : Nat} {a0 a1 a2 a3 a4 a5 : Value} (h : w.heap[b]? = some (.cells #[a0, a1, a2, a3, a4, a5] t (0, 0))) :
    w.cell? ⟨b, 0, none⟩ = some a0 ∧ w.cell? ⟨b, 1, none⟩ = some a1 ∧ w.cell? ⟨b, 2, none⟩ = some a2 ∧ w.cell? ⟨b, 3, none⟩ = some a3 ∧ w.cell? ⟨b, 4, none⟩ = some a4 ∧ w.cell? ⟨b, 5, none⟩ = some a5 ∧
    w.frozen? ⟨b, 0, none⟩ = false ∧ w.frozen? ⟨b, 1, none⟩ = false ∧ w.frozen? ⟨b, 2, none⟩ = false ∧ w.frozen? ⟨b, 3, none⟩ = false ∧ w.frozen? ⟨b, 4, none⟩ = false ∧ w.frozen? ⟨b, 5, none⟩ = false ∧ b < w.heap.size := by
  have h0 : w.cell? ⟨b, 0, none⟩ = some a0 := by rw [cell_of_row w b 0 _ _ _ h]; rfl
  exact ⟨h0, by rw [cell_of_row w b 1 _ _ _ h]; rfl, by rw [cell_of_row w b 2 _ _ _ h]; rfl, by rw [cell_of_row w b 3 _ _ _ h]; rfl, by rw [cell_of_row w b 4 _ _ _ h]; rfl, by rw [cell_of_row w b 5 _ _ _ h]; rfl,
    frozen_of_row w b 0 _ _ h, frozen_of_row w b 1 _ _ h, frozen_of_row w b 2 _ _ h, frozen_of_row w b 3 _ _ h, frozen_of_row w b 4 _ _ h, frozen_of_row w b 5 _ _ h, World.block_lt_of_cell? w _ h0⟩
/-- A struct of 6 cells, each written: the row then; and what lies below is as it was. -/
theorem put6 {W w1 : World} {b t : Nat} {a0 a1 a2 a3 a4 a5 : Value} (x0 x1 x2 x3 x4 x5 : Value) (h : w1.heap[b]? = some (.cells #[a0, a1, a2, a3, a4, a5] t (0, 0))) (hB : Below W.heap.size W w1) (hb : W.heap.size ≤ b) {u : World} (hu : ((((((w1.setCell ⟨b, 0, none⟩ x0).setCell ⟨b, 1, none⟩ x1).setCell ⟨b, 2, none⟩ x2).setCell ⟨b, 3, none⟩ x3).setCell ⟨b, 4, none⟩ x4).setCell ⟨b, 5, none⟩ x5) = u) :
    u.heap[b]? = some (.cells #[x0, x1, x2, x3, x4, x5] t (0, 0)) ∧ Below W.heap.size W u ∧ ∀ g, g ≠ b → u.heap[g]? = w1.heap[g]? := by
  have r0 : (w1.setCell ⟨b, 0, none⟩ x0).heap[b]? = some (.cells #[x0, a1, a2, a3, a4, a5] t (0, 0)) := heap_setCell_same _ b 0 _ _ x0 h
  have s0 := hB.setCell (p := ⟨b, 0, none⟩) hb x0
  have r1 : ((w1.setCell ⟨b, 0, none⟩ x0).setCell ⟨b, 1, none⟩ x1).heap[b]? = some (.cells #[x0, x1, a2, a3, a4, a5] t (0, 0)) := heap_setCell_same _ b 1 _ _ x1 r0
  have s1 := s0.setCell (p := ⟨b, 1, none⟩) hb x1
  have r2 : (((w1.setCell ⟨b, 0, none⟩ x0).setCell ⟨b, 1, none⟩ x1).setCell ⟨b, 2, none⟩ x2).heap[b]? = some (.cells #[x0, x1, x2, a3, a4, a5] t (0, 0)) := heap_setCell_same _ b 2 _ _ x2 r1
  have s2 := s1.setCell (p := ⟨b, 2, none⟩) hb x2
  have r3 : ((((w1.setCell ⟨b, 0, none⟩ x0).setCell ⟨b, 1, none⟩ x1).setCell ⟨b, 2, none⟩ x2).setCell ⟨b, 3, none⟩ x3).heap[b]? = some (.cells #[x0, x1, x2, x3, a4, a5] t (0, 0)) := heap_setCell_same _ b 3 _ _ x3 r2
  have s3 := s2.setCell (p := ⟨b, 3, none⟩) hb x3
  have r4 : (((((w1.setCell ⟨b, 0, none⟩ x0).setCell ⟨b, 1, none⟩ x1).setCell ⟨b, 2, none⟩ x2).setCell ⟨b, 3, none⟩ x3).setCell ⟨b, 4, none⟩ x4).heap[b]? = some (.cells #[x0, x1, x2, x3, x4, a5] t (0, 0)) := heap_setCell_same _ b 4 _ _ x4 r3
  have s4 := s3.setCell (p := ⟨b, 4, none⟩) hb x4
  have r5 : ((((((w1.setCell ⟨b, 0, none⟩ x0).setCell ⟨b, 1, none⟩ x1).setCell ⟨b, 2, none⟩ x2).setCell ⟨b, 3, none⟩ x3).setCell ⟨b, 4, none⟩ x4).setCell ⟨b, 5, none⟩ x5).heap[b]? = some (.cells #[x0, x1, x2, x3, x4, x5] t (0, 0)) := heap_setCell_same _ b 5 _ _ x5 r4
  have s5 := s4.setCell (p := ⟨b, 5, none⟩) hb x5
  rw [hu] at r5 s5
  exact ⟨r5, s5, fun g hg => by rw [← hu, heap_setCell_other _ _ _ _ hg, heap_setCell_other _ _ _ _ hg, heap_setCell_other _ _ _ _ hg, heap_setCell_other _ _ _ _ hg, heap_setCell_other _ _ _ _ hg, heap_setCell_other _ _ _ _ hg]⟩
theorem row12 {w : World} {b t : Nat} {a0 a1 a2 a3 a4 a5 a6 a7 a8 a9 a10 a11 : Value} (h : w.heap[b]? = some (.cells #[a0, a1, a2, a3, a4, a5, a6, a7, a8, a9, a10, a11] t (0, 0))) :
    w.cell? ⟨b, 0, none⟩ = some a0 ∧ w.cell? ⟨b, 1, none⟩ = some a1 ∧ w.cell? ⟨b, 2, none⟩ = some a2 ∧ w.cell? ⟨b, 3, none⟩ = some a3 ∧ w.cell? ⟨b, 4, none⟩ = some a4 ∧ w.cell? ⟨b, 5, none⟩ = some a5 ∧ w.cell? ⟨b, 6, none⟩ = some a6 ∧ w.cell? ⟨b, 7, none⟩ = some a7 ∧ w.cell? ⟨b, 8, none⟩ = some a8 ∧ w.cell? ⟨b, 9, none⟩ = some a9 ∧ w.cell? ⟨b, 10, none⟩ = some a10 ∧ w.cell? ⟨b, 11, none⟩ = some a11 ∧
    w.frozen? ⟨b, 0, none⟩ = false ∧ w.frozen? ⟨b, 1, none⟩ = false ∧ w.frozen? ⟨b, 2, none⟩ = false ∧ w.frozen? ⟨b, 3, none⟩ = false ∧ w.frozen? ⟨b, 4, none⟩ = false ∧ w.frozen? ⟨b, 5, none⟩ = false ∧ w.frozen? ⟨b, 6, none⟩ = false ∧ w.frozen? ⟨b, 7, none⟩ = false ∧ w.frozen? ⟨b, 8, none⟩ = false ∧ w.frozen? ⟨b, 9, none⟩ = false ∧ w.frozen? ⟨b, 10, none⟩ = false ∧ w.frozen? ⟨b, 11, none⟩ = false ∧ b < w.heap.size := by
  have h0 : w.cell? ⟨b, 0, none⟩ = some a0 := by rw [cell_of_row w b 0 _ _ _ h]; rfl
  exact ⟨h0, by rw [cell_of_row w b 1 _ _ _ h]; rfl, by rw [cell_of_row w b 2 _ _ _ h]; rfl, by rw [cell_of_row w b 3 _ _ _ h]; rfl, by rw [cell_of_row w b 4 _ _ _ h]; rfl, by rw [cell_of_row w b 5 _ _ _ h]; rfl, by rw [cell_of_row w b 6 _ _ _ h]; rfl, by rw [cell_of_row w b 7 _ _ _ h]; rfl, by rw [cell_of_row w b 8 _ _ _ h]; rfl, by rw [cell_of_row w b 9 _ _ _ h]; rfl, by rw [cell_of_row w b 10 _ _ _ h]; rfl, by rw [cell_of_row w b 11 _ _ _ h]; rfl,
    frozen_of_row w b 0 _ _ h, frozen_of_row w b 1 _ _ h, frozen_of_row w b 2 _ _ h, frozen_of_row w b 3 _ _ h, frozen_of_row w b 4 _ _ h, frozen_of_row w b 5 _ _ h, frozen_of_row w b 6 _ _ h, frozen_of_row w b 7 _ _ h, frozen_of_row w b 8 _ _ h, frozen_of_row w b 9 _ _ h, frozen_of_row w b 10 _ _ h, frozen_of_row w b 11 _ _ h, World.block_lt_of_cell? w _ h0⟩
/-- A struct of 12 cells, each written: the row then; and what lies below is as it was. -/
theorem put12 {W w1 : World} {b t : Nat} {a0 a1 a2 a3 a4 a5 a6 a7 a8 a9 a10 a11 : Value} (x0 x1 x2 x3 x4 x5 x6 x7 x8 x9 x10 x11 : Value) (h : w1.heap[b]? = some (.cells #[a0, a1, a2, a3, a4, a5, a6, a7, a8, a9, a10, a11] t (0, 0))) (hB : Below W.heap.size W w1) (hb : W.heap.size ≤ b) {u : World} (hu : ((((((((((((w1.setCell ⟨b, 0, none⟩ x0).setCell ⟨b, 1, none⟩ x1).setCell ⟨b, 2, none⟩ x2).setCell ⟨b, 3, none⟩ x3).setCell ⟨b, 4, none⟩ x4).setCell ⟨b, 5, none⟩ x5).setCell ⟨b, 6, none⟩ x6).setCell ⟨b, 7, none⟩ x7).setCell ⟨b, 8, none⟩ x8).setCell ⟨b, 9, none⟩ x9).setCell ⟨b, 10, none⟩ x10).setCell ⟨b, 11, none⟩ x11) = u) :
    u.heap[b]? = some (.cells #[x0, x1, x2, x3, x4, x5, x6, x7, x8, x9, x10, x11] t (0, 0)) ∧ Below W.heap.size W u ∧ ∀ g, g ≠ b → u.heap[g]? = w1.heap[g]? := by
  have r0 : (w1.setCell ⟨b, 0, none⟩ x0).heap[b]? = some (.cells #[x0, a1, a2, a3, a4, a5, a6, a7, a8, a9, a10, a11] t (0, 0)) := heap_setCell_same _ b 0 _ _ x0 h
  have s0 := hB.setCell (p := ⟨b, 0, none⟩) hb x0
  have r1 : ((w1.setCell ⟨b, 0, none⟩ x0).setCell ⟨b, 1, none⟩ x1).heap[b]? = some (.cells #[x0, x1, a2, a3, a4, a5, a6, a7, a8, a9, a10, a11] t (0, 0)) := heap_setCell_same _ b 1 _ _ x1 r0
  have s1 := s0.setCell (p := ⟨b, 1, none⟩) hb x1
  have r2 : (((w1.setCell ⟨b, 0, none⟩ x0).setCell ⟨b, 1, none⟩ x1).setCell ⟨b, 2, none⟩ x2).heap[b]? = some (.cells #[x0, x1, x2, a3, a4, a5, a6, a7, a8, a9, a10, a11] t (0, 0)) := heap_setCell_same _ b 2 _ _ x2 r1
  have s2 := s1.setCell (p := ⟨b, 2, none⟩) hb x2
  have r3 : ((((w1.setCell ⟨b, 0, none⟩ x0).setCell ⟨b, 1, none⟩ x1).setCell ⟨b, 2, none⟩ x2).setCell ⟨b, 3, none⟩ x3).heap[b]? = some (.cells #[x0, x1, x2, x3, a4, a5, a6, a7, a8, a9, a10, a11] t (0, 0)) := heap_setCell_same _ b 3 _ _ x3 r2
  have s3 := s2.setCell (p := ⟨b, 3, none⟩) hb x3
  have r4 : (((((w1.setCell ⟨b, 0, none⟩ x0).setCell ⟨b, 1, none⟩ x1).setCell ⟨b, 2, none⟩ x2).setCell ⟨b, 3, none⟩ x3).setCell ⟨b, 4, none⟩ x4).heap[b]? = some (.cells #[x0, x1, x2, x3, x4, a5, a6, a7, a8, a9, a10, a11] t (0, 0)) := heap_setCell_same _ b 4 _ _ x4 r3
  have s4 := s3.setCell (p := ⟨b, 4, none⟩) hb x4
  have r5 : ((((((w1.setCell ⟨b, 0, none⟩ x0).setCell ⟨b, 1, none⟩ x1).setCell ⟨b, 2, none⟩ x2).setCell ⟨b, 3, none⟩ x3).setCell ⟨b, 4, none⟩ x4).setCell ⟨b, 5, none⟩ x5).heap[b]? = some (.cells #[x0, x1, x2, x3, x4, x5, a6, a7, a8, a9, a10, a11] t (0, 0)) := heap_setCell_same _ b 5 _ _ x5 r4
  have s5 := s4.setCell (p := ⟨b, 5, none⟩) hb x5
  have r6 : (((((((w1.setCell ⟨b, 0, none⟩ x0).setCell ⟨b, 1, none⟩ x1).setCell ⟨b, 2, none⟩ x2).setCell ⟨b, 3, none⟩ x3).setCell ⟨b, 4, none⟩ x4).setCell ⟨b, 5, none⟩ x5).setCell ⟨b, 6, none⟩ x6).heap[b]? = some (.cells #[x0, x1, x2, x3, x4, x5, x6, a7, a8, a9, a10, a11] t (0, 0)) := heap_setCell_same _ b 6 _ _ x6 r5
  have s6 := s5.setCell (p := ⟨b, 6, none⟩) hb x6
  have r7 : ((((((((w1.setCell ⟨b, 0, none⟩ x0).setCell ⟨b, 1, none⟩ x1).setCell ⟨b, 2, none⟩ x2).setCell ⟨b, 3, none⟩ x3).setCell ⟨b, 4, none⟩ x4).setCell ⟨b, 5, none⟩ x5).setCell ⟨b, 6, none⟩ x6).setCell ⟨b, 7, none⟩ x7).heap[b]? = some (.cells #[x0, x1, x2, x3, x4, x5, x6, x7, a8, a9, a10, a11] t (0, 0)) := heap_setCell_same _ b 7 _ _ x7 r6
  have s7 := s6.setCell (p := ⟨b, 7, none⟩) hb x7
  have r8 : (((((((((w1.setCell ⟨b, 0, none⟩ x0).setCell ⟨b, 1, none⟩ x1).setCell ⟨b, 2, none⟩ x2).setCell ⟨b, 3, none⟩ x3).setCell ⟨b, 4, none⟩ x4).setCell ⟨b, 5, none⟩ x5).setCell ⟨b, 6, none⟩ x6).setCell ⟨b, 7, none⟩ x7).setCell ⟨b, 8, none⟩ x8).heap[b]? = some (.cells #[x0, x1, x2, x3, x4, x5, x6, x7, x8, a9, a10, a11] t (0, 0)) := heap_setCell_same _ b 8 _ _ x8 r7
  have s8 := s7.setCell (p := ⟨b, 8, none⟩) hb x8
  have r9 : ((((((((((w1.setCell ⟨b, 0, none⟩ x0).setCell ⟨b, 1, none⟩ x1).setCell ⟨b, 2, none⟩ x2).setCell ⟨b, 3, none⟩ x3).setCell ⟨b, 4, none⟩ x4).setCell ⟨b, 5, none⟩ x5).setCell ⟨b, 6, none⟩ x6).setCell ⟨b, 7, none⟩ x7).setCell ⟨b, 8, none⟩ x8).setCell ⟨b, 9, none⟩ x9).heap[b]? = some (.cells #[x0, x1, x2, x3, x4, x5, x6, x7, x8, x9, a10, a11] t (0, 0)) := heap_setCell_same _ b 9 _ _ x9 r8
  have s9 := s8.setCell (p := ⟨b, 9, none⟩) hb x9
  have r10 : (((((((((((w1.setCell ⟨b, 0, none⟩ x0).setCell ⟨b, 1, none⟩ x1).setCell ⟨b, 2, none⟩ x2).setCell ⟨b, 3, none⟩ x3).setCell ⟨b, 4, none⟩ x4).setCell ⟨b, 5, none⟩ x5).setCell ⟨b, 6, none⟩ x6).setCell ⟨b, 7, none⟩ x7).setCell ⟨b, 8, none⟩ x8).setCell ⟨b, 9, none⟩ x9).setCell ⟨b, 10, none⟩ x10).heap[b]? = some (.cells #[x0, x1, x2, x3, x4, x5, x6, x7, x8, x9, x10, a11] t (0, 0)) := heap_setCell_same _ b 10 _ _ x10 r9
  have s10 := s9.setCell (p := ⟨b, 10, none⟩) hb x10
  have r11 : ((((((((((((w1.setCell ⟨b, 0, none⟩ x0).setCell ⟨b, 1, none⟩ x1).setCell ⟨b, 2, none⟩ x2).setCell ⟨b, 3, none⟩ x3).setCell ⟨b, 4, none⟩ x4).setCell ⟨b, 5, none⟩ x5).setCell ⟨b, 6, none⟩ x6).setCell ⟨b, 7, none⟩ x7).setCell ⟨b, 8, none⟩ x8).setCell ⟨b, 9, none⟩ x9).setCell ⟨b, 10, none⟩ x10).setCell ⟨b, 11, none⟩ x11).heap[b]? = some (.cells #[x0, x1, x2, x3, x4, x5, x6, x7, x8, x9, x10, x11] t (0, 0)) := heap_setCell_same _ b 11 _ _ x11 r10
  have s11 := s10.setCell (p := ⟨b, 11, none⟩) hb x11
  rw [hu] at r11 s11
  exact ⟨r11, s11, fun g hg => by rw [← hu, heap_setCell_other _ _ _ _ hg, heap_setCell_other _ _ _ _ hg, heap_setCell_other _ _ _ _ hg, heap_setCell_other _ _ _ _ hg, heap_setCell_other _ _ _ _ hg, heap_setCell_other _ _ _ _ hg, heap_setCell_other _ _ _ _ hg, heap_setCell_other _ _ _ _ hg, heap_setCell_other _ _ _ _ hg, heap_setCell_other _ _ _ _ hg, heap_setCell_other _ _ _ _ hg, heap_setCell_other _ _ _ _ hg]⟩
abbrev jf (y a b c d f : Int) : Value := .agg #[.int .i64 y, .int .i64 a, .int .i64 b, .int .i64 c, .int .i64 d, .int .i64 f]
abbrev gf (y a b c d p g i k h l m : Int) : Value := .agg #[.int .i64 y, .int .i64 a, .int .i64 b, .int .i64 c, .int .i64 d, .int .i64 p, .int .i64 g, .int .i64 i, .int .i64 k, .int .i64 h, .int .i64 l, .int .i64 m]
end Go.Proofs.YtkhicgafhbecfaaGreatDoor

namespace Go.Proofs.YtkhicgafhbecfaaGreatDoor
open Go.RowKit

/-- Three dates in memory, all the same. -/
def Tre (W : World) (b1 b2 b3 : Nat) (y p q : Int) (u : World) : Prop := u.cell? ⟨b1, 0, none⟩ = some (.int .i64 y) ∧ u.cell? ⟨b1, 1, none⟩ = some (.int .i64 p) ∧ u.cell? ⟨b1, 2, none⟩ = some (.int .i64 q) ∧ u.cell? ⟨b2, 0, none⟩ = some (.int .i64 y) ∧ u.cell? ⟨b2, 1, none⟩ = some (.int .i64 p) ∧ u.cell? ⟨b2, 2, none⟩ = some (.int .i64 q) ∧ u.cell? ⟨b3, 0, none⟩ = some (.int .i64 y) ∧ u.cell? ⟨b3, 1, none⟩ = some (.int .i64 p) ∧ u.cell? ⟨b3, 2, none⟩ = some (.int .i64 q) ∧ Below W.heap.size W u
theorem Tre.on {W : World} {b1 b2 b3 : Nat} {y p q : Int} {u u' : World} (h : Tre W b1 b2 b3 y p q u) (hb : Below u.heap.size u u') : Tre W b1 b2 b3 y p q u' := by
  obtain ⟨a0, a1, a2, a3, a4, a5, a6, a7, a8, z⟩ := h
  exact ⟨cell_below a0 hb, cell_below a1 hb, cell_below a2 hb, cell_below a3 hb, cell_below a4 hb, cell_below a5 hb, cell_below a6 hb, cell_below a7 hb, cell_below a8 hb, below_on z hb⟩
theorem Tre.drew {W : World} {b1 b2 b3 : Nat} {y p q : Int} {u : World} (h : Tre W b1 b2 b3 y p q u) : Tre W b1 b2 b3 y p q u.drew := h.on (below_dn (Below.refl _ _) 1)
end Go.Proofs.YtkhicgafhbecfaaGreatDoor
