/- What earlier stages proved: Ta Tb Tc Td Te. -/
import Derived.Test.YtnaglaecoephnaaKu
import Derived.Test.YtnaglaecoephnaaKa
import Derived.Test.YtnaglaecoephnaaKc
import Derived.LoopN
namespace Go.Proofs.Ytnaglaecoephnaa

/-- The number of a year: 113 more than the days by which Easter is behind 21 March. -/
def bN (c y : Int) : Int := uO c y + 113
theorem b_jul_d (y : Int) : (19 * (y % 19) + 15) % 30 = uD 1 y := by unfold uD uM; rw [if_pos rfl]
theorem b_jul_e (y : Int) : (2 * (y % 4) + 4 * (y % 7) - uD 1 y + 34) % 7 = uE 1 y := by
  have h : uE 1 y = (2 * (y % 4) + 4 * (y % 7) + 6 * uD 1 y + uN 1 y) % 7 := rfl
  have hn : uN 1 y = 6 := rfl
  rw [h, hn]; omega
theorem b_jul_n (y : Int) : uD 1 y + uE 1 y + 114 = bN 1 y := by
  have hx : uX 1 y = 0 := by unfold uX; rw [if_pos rfl]
  have : uO 1 y = uD 1 y + uE 1 y + 1 := by unfold uO; rw [if_neg (by omega), if_neg (by omega)]
  unfold bN; omega
theorem b_corr (b : Int) : (b - (b + 8) / 25 + 1) / 3 = (13 + 8 * b) / 25 := by
  obtain ⟨q, r, rfl, r1, r2⟩ : ∃ q r, b = 25 * q + r ∧ 0 ≤ r ∧ r < 25 := ⟨b / 25, b % 25, by omega, by omega, by omega⟩
  have h1 : (25 * q + r + 8) / 25 = q + (r + 8) / 25 := by omega
  have h2 : (13 + 8 * (25 * q + r)) / 25 = 8 * q + (13 + 8 * r) / 25 := by omega
  rw [h1, h2]
  have : r < 17 ∨ 17 ≤ r := by omega
  rcases this with h | h
  · have : (r + 8) / 25 = 0 := by omega
    rw [this]; omega
  · have : (r + 8) / 25 = 1 := by omega
    rw [this]; omega
theorem b_greg_h (y : Int) : (19 * (y % 19) + y / 100 - y / 100 / 4 - (y / 100 - (y / 100 + 8) / 25 + 1) / 3 + 15) % 30 = uD 2 y := by
  have hd : uD 2 y = (19 * (y % 19) + uM 2 y) % 30 := rfl
  have hm : uM 2 y = (15 - (13 + 8 * (y / 100)) / 25 + y / 100 - y / 100 / 4) % 30 := by unfold uM; rw [if_neg (by omega)]
  rw [hd, hm, b_corr]
  generalize (13 + 8 * (y / 100)) / 25 = p
  generalize y / 100 / 4 = q
  generalize y / 100 = k
  generalize y % 19 = a
  omega
theorem b_greg_l (y : Int) : (32 + 2 * (y / 100 % 4) + 2 * (y % 100 / 4) - uD 2 y - y % 100 % 4) % 7 = uE 2 y := by
  have he : uE 2 y = (2 * (y % 4) + 4 * (y % 7) + 6 * uD 2 y + uN 2 y) % 7 := rfl
  have hn : uN 2 y = (4 + y / 100 - y / 100 / 4) % 7 := rfl
  rw [he, hn]
  generalize uD 2 y = d
  clear he hn
  obtain ⟨b, c, rfl, c1, c2⟩ : ∃ b c, y = 100 * b + c ∧ 0 ≤ c ∧ c < 100 := ⟨y / 100, y % 100, by omega, by omega, by omega⟩
  obtain ⟨i, k, rfl, k1, k2⟩ : ∃ i k, c = 4 * i + k ∧ 0 ≤ k ∧ k < 4 := ⟨c / 4, c % 4, by omega, by omega, by omega⟩
  obtain ⟨q, r, rfl, r1, r2⟩ : ∃ q r, b = 4 * q + r ∧ 0 ≤ r ∧ r < 4 := ⟨b / 4, b % 4, by omega, by omega, by omega⟩
  have h1 : (100 * (4 * q + r) + (4 * i + k)) / 100 = 4 * q + r := by omega
  have h2 : (100 * (4 * q + r) + (4 * i + k)) % 100 = 4 * i + k := by omega
  have h3 : (4 * q + r) % 4 = r := by omega
  have h4 : (4 * i + k) / 4 = i := by omega
  have h5 : (4 * i + k) % 4 = k := by omega
  have h6 : (100 * (4 * q + r) + (4 * i + k)) % 4 = k := by omega
  have h7 : (4 * q + r) / 4 = q := by omega
  rw [h1, h2, h3, h4, h5, h6, h7]
  clear h1 h2 h3 h4 h5 h6 h7
  omega
theorem b_greg_n (y : Int) : uD 2 y + uE 2 y - 7 * ((y % 19 + 11 * uD 2 y + 22 * uE 2 y) / 451) + 114 = bN 2 y := by
  have hx := uX_cases 2 y
  have hb := uD_bd 2 y
  have hb2 := uE_bd 2 y
  have ht := u_two (c := 2) (y := y)
  have hg : gold y = y % 19 + 1 := rfl
  rw [hg] at ht
  have a1 : 0 ≤ y % 19 := by omega
  have a2 : y % 19 ≤ 18 := by omega
  unfold bN uO
  generalize uX 2 y = x at *
  generalize uD 2 y = d at *
  generalize uE 2 y = f at *
  generalize (11 * uM 2 y + 11) % 30 = z at *
  generalize y % 19 = a at *
  rcases hx with ⟨rfl, h1, rfl, rfl⟩ | ⟨rfl, h1, rfl, rfl, h4⟩ | ⟨rfl, h⟩
  · rw [if_pos rfl]; omega
  · rw [if_neg (by omega), if_pos rfl]
    have := (ht rfl).1 h4
    omega
  · rw [if_neg (by omega), if_neg (by omega)]
    have : ¬ (d = 28 ∧ 11 < a + 1 ∧ f = 6) := fun q => by
      have := (ht q.1).2 q.2.1
      omega
    clear ht
    have : (a + 11 * d + 22 * f) / 451 = 0 := by omega
    omega
theorem bN_bd (c y : Int) (hc : c = 1 ∨ c = 2) : 114 ≤ bN c y ∧ bN c y ≤ 148 := by
  have := eaO_bd c y
  unfold bN; rw [u_easter hc]; omega
end Go.Proofs.Ytnaglaecoephnaa

namespace Go.Proofs.Ytnaglaecoephnaa
open Go.RowKit

theorem row6 {w : World} {b t : Nat} {a0 a1 a2 a3 a4 a5 : Value} (h : w.heap[b]? = some (.cells #[a0, a1, a2, a3, a4, a5] t (0, 0))) :
    w.cell? ⟨b, 0, none⟩ = some a0 ∧ w.cell? ⟨b, 1, none⟩ = some a1 ∧ w.cell? ⟨b, 2, none⟩ = some a2 ∧ w.cell? ⟨b, 3, none⟩ = some a3 ∧ w.cell? ⟨b, 4, none⟩ = some a4 ∧ w.cell? ⟨b, 5, none⟩ = some a5 ∧
    w.frozen? ⟨b, 0, none⟩ = false ∧ w.frozen? ⟨b, 1, none⟩ = false ∧ w.frozen? ⟨b, 2, none⟩ = false ∧ w.frozen? ⟨b, 3, none⟩ = false ∧ w.frozen? ⟨b, 4, none⟩ = false ∧ w.frozen? ⟨b, 5, none⟩ = false ∧ b < w.heap.size := by
  have h0 : w.cell? ⟨b, 0, none⟩ = some a0 := by rw [cell_of_row w b 0 _ _ _ h]; rfl
  exact ⟨h0, by rw [cell_of_row w b 1 _ _ _ h]; rfl, by rw [cell_of_row w b 2 _ _ _ h]; rfl, by rw [cell_of_row w b 3 _ _ _ h]; rfl, by rw [cell_of_row w b 4 _ _ _ h]; rfl, by rw [cell_of_row w b 5 _ _ _ h]; rfl,
    frozen_of_row w b 0 _ _ h, frozen_of_row w b 1 _ _ h, frozen_of_row w b 2 _ _ h, frozen_of_row w b 3 _ _ h, frozen_of_row w b 4 _ _ h, frozen_of_row w b 5 _ _ h, World.block_lt_of_cell? w _ h0⟩
/-- A struct of 6 cells, each written: the row then; and what lies below is as it was. -/
theorem put6 {W w1 : World} {b t : Nat} {a0 a1 a2 a3 a4 a5 : Value} (x0 x1 x2 x3 x4 x5 : Value) (h : w1.heap[b]? = some (.cells #[a0, a1, a2, a3, a4, a5] t (0, 0))) (hB : Below W.heap.size W w1) (hb : W.heap.size ≤ b) {u : World} (hu : ((((((w1.setCell ⟨b, 0, none⟩ x0).setCell ⟨b, 1, none⟩ x1).setCell ⟨b, 2, none⟩ x2).setCell ⟨b, 3, none⟩ x3).setCell ⟨b, 4, none⟩ x4).setCell ⟨b, 5, none⟩ x5) = u) :
    u.heap[b]? = some (.cells #[x0, x1, x2, x3, x4, x5] t (0, 0)) ∧ Below W.heap.size W u ∧ ∀ g, g ≠ b → u.heap[g]? = w1.heap[g]? := by
  have r0 : (w1.setCell ⟨b, 0, none⟩ x0).heap[b]? = some (.cells #[x0, a1, a2, a3, a4, a5] t (0, 0)) := heap_setCell_same _ b 0 _ _ x0 h
  have s0 := hB.setCell (p := ⟨b, 0, none⟩) hb x0
  have r1 : ((w1.setCell ⟨b, 0, none⟩ x0).setCell ⟨b, 1, none⟩ x1).heap[b]? = some (.cells #[x0, x1, a2, a3, a4, a5] t (0, 0)) := heap_setCell_same _ b 1 _ _ x1 r0
  have s1 := s0.setCell (p := ⟨b, 1, none⟩) hb x1
  have r2 : (((w1.setCell ⟨b, 0, none⟩ x0).setCell ⟨b, 1, none⟩ x1).setCell ⟨b, 2, none⟩ x2).heap[b]? = some (.cells #[x0, x1, x2, a3, a4, a5] t (0, 0)) := heap_setCell_same _ b 2 _ _ x2 r1
  have s2 := s1.setCell (p := ⟨b, 2, none⟩) hb x2
  have r3 : ((((w1.setCell ⟨b, 0, none⟩ x0).setCell ⟨b, 1, none⟩ x1).setCell ⟨b, 2, none⟩ x2).setCell ⟨b, 3, none⟩ x3).heap[b]? = some (.cells #[x0, x1, x2, x3, a4, a5] t (0, 0)) := heap_setCell_same _ b 3 _ _ x3 r2
  have s3 := s2.setCell (p := ⟨b, 3, none⟩) hb x3
  have r4 : (((((w1.setCell ⟨b, 0, none⟩ x0).setCell ⟨b, 1, none⟩ x1).setCell ⟨b, 2, none⟩ x2).setCell ⟨b, 3, none⟩ x3).setCell ⟨b, 4, none⟩ x4).heap[b]? = some (.cells #[x0, x1, x2, x3, x4, a5] t (0, 0)) := heap_setCell_same _ b 4 _ _ x4 r3
  have s4 := s3.setCell (p := ⟨b, 4, none⟩) hb x4
  have r5 : ((((((w1.setCell ⟨b, 0, none⟩ x0).setCell ⟨b, 1, none⟩ x1).setCell ⟨b, 2, none⟩ x2).setCell ⟨b, 3, none⟩ x3).setCell ⟨b, 4, none⟩ x4).setCell ⟨b, 5, none⟩ x5).heap[b]? = some (.cells #[x0, x1, x2, x3, x4, x5] t (0, 0)) := heap_setCell_same _ b 5 _ _ x5 r4
  have s5 := s4.setCell (p := ⟨b, 5, none⟩) hb x5
  rw [hu] at r5 s5
  exact ⟨r5, s5, fun g hg => by rw [← hu, heap_setCell_other _ _ _ _ hg, heap_setCell_other _ _ _ _ hg, heap_setCell_other _ _ _ _ hg, heap_setCell_other _ _ _ _ hg, heap_setCell_other _ _ _ _ hg, heap_setCell_other _ _ _ _ hg]⟩
theorem row12 {w : World} {b t : Nat} {a0 a1 a2 a3 a4 a5 a6 a7 a8 a9 a10 a11 : Value} (h : w.heap[b]? = some (.cells #[a0, a1, a2, a3, a4, a5, a6, a7, a8, a9, a10, a11] t (0, 0))) :
    w.cell? ⟨b, 0, none⟩ = some a0 ∧ w.cell? ⟨b, 1, none⟩ = some a1 ∧ w.cell? ⟨b, 2, none⟩ = some a2 ∧ w.cell? ⟨b, 3, none⟩ = some a3 ∧ w.cell? ⟨b, 4, none⟩ = some a4 ∧ w.cell? ⟨b, 5, none⟩ = some a5 ∧ w.cell? ⟨b, 6, none⟩ = some a6 ∧ w.cell? ⟨b, 7, none⟩ = some a7 ∧ w.cell? ⟨b, 8, none⟩ = some a8 ∧ w.cell? ⟨b, 9, none⟩ = some a9 ∧ w.cell? ⟨b, 10, none⟩ = some a10 ∧ w.cell? ⟨b, 11, none⟩ = some a11 ∧
    w.frozen? ⟨b, 0, none⟩ = false ∧ w.frozen? ⟨b, 1, none⟩ = false ∧ w.frozen? ⟨b, 2, none⟩ = false ∧ w.frozen? ⟨b, 3, none⟩ = false ∧ w.frozen? ⟨b, 4, none⟩ = false ∧ w.frozen? ⟨b, 5, none⟩ = false ∧ w.frozen? ⟨b, 6, none⟩ = false ∧ w.frozen? ⟨b, 7, none⟩ = false ∧ w.frozen? ⟨b, 8, none⟩ = false ∧ w.frozen? ⟨b, 9, none⟩ = false ∧ w.frozen? ⟨b, 10, none⟩ = false ∧ w.frozen? ⟨b, 11, none⟩ = false ∧ b < w.heap.size := by
  have h0 : w.cell? ⟨b, 0, none⟩ = some a0 := by rw [cell_of_row w b 0 _ _ _ h]; rfl
  exact ⟨h0, by rw [cell_of_row w b 1 _ _ _ h]; rfl, by rw [cell_of_row w b 2 _ _ _ h]; rfl, by rw [cell_of_row w b 3 _ _ _ h]; rfl, by rw [cell_of_row w b 4 _ _ _ h]; rfl, by rw [cell_of_row w b 5 _ _ _ h]; rfl, by rw [cell_of_row w b 6 _ _ _ h]; rfl, by rw [cell_of_row w b 7 _ _ _ h]; rfl, by rw [cell_of_row w b 8 _ _ _ h]; rfl, by rw [cell_of_row w b 9 _ _ _ h]; rfl, by rw [cell_of_row w b 10 _ _ _ h]; rfl, by rw [cell_of_row w b 11 _ _ _ h]; rfl,
    frozen_of_row w b 0 _ _ h, frozen_of_row w b 1 _ _ h, frozen_of_row w b 2 _ _ h, frozen_of_row w b 3 _ _ h, frozen_of_row w b 4 _ _ h, frozen_of_row w b 5 _ _ h, frozen_of_row w b 6 _ _ h, frozen_of_row w b 7 _ _ h, frozen_of_row w b 8 _ _ h, frozen_of_row w b 9 _ _ h, frozen_of_row w b 10 _ _ h, frozen_of_row w b 11 _ _ h, World.block_lt_of_cell? w _ h0⟩
/-- A struct of 12 cells, each written: the row then; and what lies below is as it was. -/
theorem put12 {W w1 : World} {b t : Nat} {a0 a1 a2 a3 a4 a5 a6 a7 a8 a9 a10 a11 : Value} (x0 x1 x2 x3 x4 x5 x6 x7 x8 x9 x10 x11 : Value) (h : w1.heap[b]? = some (.cells #[a0, a1, a2, a3, a4, a5, a6, a7, a8, a9, a10, a11] t (0, 0))) (hB : Below W.heap.size W w1) (hb : W.heap.size ≤ b) {u : World} (hu : ((((((((((((w1.setCell ⟨b, 0, none⟩ x0).setCell ⟨b, 1, none⟩ x1).setCell ⟨b, 2, none⟩ x2).setCell ⟨b, 3, none⟩ x3).setCell ⟨b, 4, none⟩ x4).setCell ⟨b, 5, none⟩ x5).setCell ⟨b, 6, none⟩ x6).setCell ⟨b, 7, none⟩ x7).setCell ⟨b, 8, none⟩ x8).setCell ⟨b, 9, none⟩ x9).setCell ⟨b, 10, none⟩ x10).setCell ⟨b, 11, none⟩ x11) = u) :
    u.heap[b]? = some (.cells #[x0, x1, x2, x3, x4, x5, x6, x7, x8, x9, x10, x11] t (0, 0)) ∧ Below W.heap.size W u ∧ ∀ g, g ≠ b → u.heap[g]? = w1.heap[g]? := by
  have r0 : (w1.setCell ⟨b, 0, none⟩ x0).heap[b]? = some (.cells #[x0, a1, a2, a3, a4, a5, a6, a7, a8, a9, a10, a11] t (0, 0)) := heap_setCell_same _ b 0 _ _ x0 h
  have s0 := hB.setCell (p := ⟨b, 0, none⟩) hb x0
  have r1 : ((w1.setCell ⟨b, 0, none⟩ x0).setCell ⟨b, 1, none⟩ x1).heap[b]? = some (.cells #[x0, x1, a2, a3, a4, a5, a6, a7, a8, a9, a10, a11] t (0, 0)) := heap_setCell_same _ b 1 _ _ x1 r0
  have s1 := s0.setCell (p := ⟨b, 1, none⟩) hb x1
  have r2 : (((w1.setCell ⟨b, 0, none⟩ x0).setCell ⟨b, 1, none⟩ x1).setCell ⟨b, 2, none⟩ x2).heap[b]? = some (.cells #[x0, x1, x2, a3, a4, a5, a6, a7, a8, a9, a10, a11] t (0, 0)) := heap_setCell_same _ b 2 _ _ x2 r1
  have s2 := s1.setCell (p := ⟨b, 2, none⟩) hb x2
  have r3 : ((((w1.setCell ⟨b, 0, none⟩ x0).setCell ⟨b, 1, none⟩ x1).setCell ⟨b, 2, none⟩ x2).setCell ⟨b, 3, none⟩ x3).heap[b]? = some (.cells #[x0, x1, x2, x3, a4, a5, a6, a7, a8, a9, a10, a11] t (0, 0)) := heap_setCell_same _ b 3 _ _ x3 r2
  have s3 := s2.setCell (p := ⟨b, 3, none⟩) hb x3
  have r4 : (((((w1.setCell ⟨b, 0, none⟩ x0).setCell ⟨b, 1, none⟩ x1).setCell ⟨b, 2, none⟩ x2).setCell ⟨b, 3, none⟩ x3).setCell ⟨b, 4, none⟩ x4).heap[b]? = some (.cells #[x0, x1, x2, x3, x4, a5, a6, a7, a8, a9, a10, a11] t (0, 0)) := heap_setCell_same _ b 4 _ _ x4 r3
  have s4 := s3.setCell (p := ⟨b, 4, none⟩) hb x4
  have r5 : ((((((w1.setCell ⟨b, 0, none⟩ x0).setCell ⟨b, 1, none⟩ x1).setCell ⟨b, 2, none⟩ x2).setCell ⟨b, 3, none⟩ x3).setCell ⟨b, 4, none⟩ x4).setCell ⟨b, 5, none⟩ x5).heap[b]? = some (.cells #[x0, x1, x2, x3, x4, x5, a6, a7, a8, a9, a10, a11] t (0, 0)) := heap_setCell_same _ b 5 _ _ x5 r4
  have s5 := s4.setCell (p := ⟨b, 5, none⟩) hb x5
  have r6 : (((((((w1.setCell ⟨b, 0, none⟩ x0).setCell ⟨b, 1, none⟩ x1).setCell ⟨b, 2, none⟩ x2).setCell ⟨b, 3, none⟩ x3).setCell ⟨b, 4, none⟩ x4).setCell ⟨b, 5, none⟩ x5).setCell ⟨b, 6, none⟩ x6).heap[b]? = some (.cells #[x0, x1, x2, x3, x4, x5, x6, a7, a8, a9, a10, a11] t (0, 0)) := heap_setCell_same _ b 6 _ _ x6 r5
  have s6 := s5.setCell (p := ⟨b, 6, none⟩) hb x6
  have r7 : ((((((((w1.setCell ⟨b, 0, none⟩ x0).setCell ⟨b, 1, none⟩ x1).setCell ⟨b, 2, none⟩ x2).setCell ⟨b, 3, none⟩ x3).setCell ⟨b, 4, none⟩ x4).setCell ⟨b, 5, none⟩ x5).setCell ⟨b, 6, none⟩ x6).setCell ⟨b, 7, none⟩ x7).heap[b]? = some (.cells #[x0, x1, x2, x3, x4, x5, x6, x7, a8, a9, a10, a11] t (0, 0)) := heap_setCell_same _ b 7 _ _ x7 r6
  have s7 := s6.setCell (p := ⟨b, 7, none⟩) hb x7
  have r8 : (((((((((w1.setCell ⟨b, 0, none⟩ x0).setCell ⟨b, 1, none⟩ x1).setCell ⟨b, 2, none⟩ x2).setCell ⟨b, 3, none⟩ x3).setCell ⟨b, 4, none⟩ x4).setCell ⟨b, 5, none⟩ x5).setCell ⟨b, 6, none⟩ x6).setCell ⟨b, 7, none⟩ x7).setCell ⟨b, 8, none⟩ x8).heap[b]? = some (.cells #[x0, x1, x2, x3, x4, x5, x6, x7, x8, a9, a10, a11] t (0, 0)) := heap_setCell_same _ b 8 _ _ x8 r7
  have s8 := s7.setCell (p := ⟨b, 8, none⟩) hb x8
  have r9 : ((((((((((w1.setCell ⟨b, 0, none⟩ x0).setCell ⟨b, 1, none⟩ x1).setCell ⟨b, 2, none⟩ x2).setCell ⟨b, 3, none⟩ x3).setCell ⟨b, 4, none⟩ x4).setCell ⟨b, 5, none⟩ x5).setCell ⟨b, 6, none⟩ x6).setCell ⟨b, 7, none⟩ x7).setCell ⟨b, 8, none⟩ x8).setCell ⟨b, 9, none⟩ x9).heap[b]? = some (.cells #[x0, x1, x2, x3, x4, x5, x6, x7, x8, x9, a10, a11] t (0, 0)) := heap_setCell_same _ b 9 _ _ x9 r8
  have s9 := s8.setCell (p := ⟨b, 9, none⟩) hb x9
  have r10 : (((((((((((w1.setCell ⟨b, 0, none⟩ x0).setCell ⟨b, 1, none⟩ x1).setCell ⟨b, 2, none⟩ x2).setCell ⟨b, 3, none⟩ x3).setCell ⟨b, 4, none⟩ x4).setCell ⟨b, 5, none⟩ x5).setCell ⟨b, 6, none⟩ x6).setCell ⟨b, 7, none⟩ x7).setCell ⟨b, 8, none⟩ x8).setCell ⟨b, 9, none⟩ x9).setCell ⟨b, 10, none⟩ x10).heap[b]? = some (.cells #[x0, x1, x2, x3, x4, x5, x6, x7, x8, x9, x10, a11] t (0, 0)) := heap_setCell_same _ b 10 _ _ x10 r9
  have s10 := s9.setCell (p := ⟨b, 10, none⟩) hb x10
  have r11 : ((((((((((((w1.setCell ⟨b, 0, none⟩ x0).setCell ⟨b, 1, none⟩ x1).setCell ⟨b, 2, none⟩ x2).setCell ⟨b, 3, none⟩ x3).setCell ⟨b, 4, none⟩ x4).setCell ⟨b, 5, none⟩ x5).setCell ⟨b, 6, none⟩ x6).setCell ⟨b, 7, none⟩ x7).setCell ⟨b, 8, none⟩ x8).setCell ⟨b, 9, none⟩ x9).setCell ⟨b, 10, none⟩ x10).setCell ⟨b, 11, none⟩ x11).heap[b]? = some (.cells #[x0, x1, x2, x3, x4, x5, x6, x7, x8, x9, x10, x11] t (0, 0)) := heap_setCell_same _ b 11 _ _ x11 r10
  have s11 := s10.setCell (p := ⟨b, 11, none⟩) hb x11
  rw [hu] at r11 s11
  exact ⟨r11, s11, fun g hg => by rw [← hu, heap_setCell_other _ _ _ _ hg, heap_setCell_other _ _ _ _ hg, heap_setCell_other _ _ _ _ hg, heap_setCell_other _ _ _ _ hg, heap_setCell_other _ _ _ _ hg, heap_setCell_other _ _ _ _ hg, heap_setCell_other _ _ _ _ hg, heap_setCell_other _ _ _ _ hg, heap_setCell_other _ _ _ _ hg, heap_setCell_other _ _ _ _ hg, heap_setCell_other _ _ _ _ hg, heap_setCell_other _ _ _ _ hg]⟩
abbrev jf (y a b c d f : Int) : Value := .agg #[.int .i64 y, .int .i64 a, .int .i64 b, .int .i64 c, .int .i64 d, .int .i64 f]
abbrev gf (y a b c d p g i k h l m : Int) : Value := .agg #[.int .i64 y, .int .i64 a, .int .i64 b, .int .i64 c, .int .i64 d, .int .i64 p, .int .i64 g, .int .i64 i, .int .i64 k, .int .i64 h, .int .i64 l, .int .i64 m]
abbrev jfo (y a b c d f : Int) : Obj := .cells #[.int .i64 y, .int .i64 a, .int .i64 b, .int .i64 c, .int .i64 d, .int .i64 f] 73 (0, 0)
abbrev gfo (y a b c d p g i k h l m : Int) : Obj := .cells #[.int .i64 y, .int .i64 a, .int .i64 b, .int .i64 c, .int .i64 d, .int .i64 p, .int .i64 g, .int .i64 i, .int .i64 k, .int .i64 h, .int .i64 l, .int .i64 m] 79 (0, 0)
theorem bdiv (a b : Int) (w : World) (h1 : 0 ≤ a) (h2 : a ≤ 1000000000000) (hb : b = 19 ∨ b = 100 ∨ b = 4 ∨ b = 25 ∨ b = 3 ∨ b = 30 ∨ b = 7 ∨ b = 451 ∨ b = 31) : Calls Try.prog 77 #[.int .i64 a, .int .i64 b] w fun e w' => e = .returned (numv (a / b) (a % b)) ∧ w' = w.drew := by
  rcases hb with rfl | rfl | rfl | rfl | rfl | rfl | rfl | rfl | rfl
  all_goals
    go_enter Try.func77, Try.ntmps77
    go_wp2
    go_region
    go_wp2
    go_ret2
    exact ⟨rfl, rfl⟩
set_option maxRecDepth 100000 in
set_option maxHeartbeats 1600000 in
theorem jsplit (y q1 q2 q3 a b c : Int) (W : World)
    (H1 : ∀ w, Calls Try.prog 77 #[.int .i64 y, .int .i64 4] w fun e w' => e = .returned (numv q1 a) ∧ w' = w.drew)
    (H2 : ∀ w, Calls Try.prog 77 #[.int .i64 y, .int .i64 7] w fun e w' => e = .returned (numv q2 b) ∧ w' = w.drew)
    (H3 : ∀ w, Calls Try.prog 77 #[.int .i64 y, .int .i64 19] w fun e w' => e = .returned (numv q3 c) ∧ w' = w.drew)
    : Calls Try.prog 62 #[jf y 0 0 0 0 0] W fun e w' => e = .returned (jf y a b c 0 0) ∧ Below W.heap.size W w' := by
  go_enter Try.func62, Try.ntmps62
  go_wp2_with fail
  refine (H1 _).mono ?_
  rintro e w' ⟨rfl, rfl⟩
  go_wp2_with fail
  refine (H2 _).mono ?_
  rintro e w' ⟨rfl, rfl⟩
  go_wp2_with fail
  refine (H3 _).mono ?_
  rintro e w' ⟨rfl, rfl⟩
  go_wp2_with fail
  exact bodyPost_ret (v := jf y a b c 0 0) (by simp [results, Try.results62, go_sem]) rfl ⟨rfl, (below_dn (below_dn (below_dn (((Below.refl _ _).alloc (Nat.le_refl _) _).alloc (by simp) _) 1) 1) 1)⟩
set_option maxRecDepth 100000 in
set_option maxHeartbeats 1600000 in
theorem jmoon (y a b c d q : Int) (W : World) (c1 : 0 ≤ c) (c2 : c ≤ 18)
    (H1 : ∀ w, Calls Try.prog 77 #[.int .i64 (19 * c + 15), .int .i64 30] w fun e w' => e = .returned (numv q d) ∧ w' = w.drew)
    : Calls Try.prog 63 #[jf y a b c 0 0] W fun e w' => e = .returned (jf y a b c d 0) ∧ Below W.heap.size W w' := by
  go_enter Try.func63, Try.ntmps63
  go_wp2_with fail
  refine (H1 _).mono ?_
  rintro e w' ⟨rfl, rfl⟩
  go_wp2_with fail
  exact bodyPost_ret (v := jf y a b c d 0) (by simp [results, Try.results63, go_sem]) rfl ⟨rfl, (below_dn (((Below.refl _ _).alloc (Nat.le_refl _) _).alloc (by simp) _) 1)⟩
set_option maxRecDepth 100000 in
set_option maxHeartbeats 1600000 in
theorem jsun (y a b c d f q : Int) (W : World) (a1 : 0 ≤ a) (a2 : a ≤ 3) (b1 : 0 ≤ b) (b2 : b ≤ 6) (d1 : 0 ≤ d) (d2 : d ≤ 29)
    (H1 : ∀ w, Calls Try.prog 77 #[.int .i64 (2 * a + 4 * b - d + 34), .int .i64 7] w fun e w' => e = .returned (numv q f) ∧ w' = w.drew)
    : Calls Try.prog 64 #[jf y a b c d 0] W fun e w' => e = .returned (jf y a b c d f) ∧ Below W.heap.size W w' := by
  go_enter Try.func64, Try.ntmps64
  go_wp2_with fail
  refine (H1 _).mono ?_
  rintro e w' ⟨rfl, rfl⟩
  go_wp2_with fail
  exact bodyPost_ret (v := jf y a b c d f) (by simp [results, Try.results64, go_sem]) rfl ⟨rfl, (below_dn (((Below.refl _ _).alloc (Nat.le_refl _) _).alloc (by simp) _) 1)⟩
set_option maxRecDepth 100000 in
set_option maxHeartbeats 1600000 in
theorem gsplit (y q a b c d p i k : Int) (W : World)
    (H1 : ∀ w, Calls Try.prog 77 #[.int .i64 y, .int .i64 19] w fun e w' => e = .returned (numv q a) ∧ w' = w.drew)
    (H2 : ∀ w, Calls Try.prog 77 #[.int .i64 y, .int .i64 100] w fun e w' => e = .returned (numv b c) ∧ w' = w.drew)
    (H3 : ∀ w, Calls Try.prog 77 #[.int .i64 b, .int .i64 4] w fun e w' => e = .returned (numv d p) ∧ w' = w.drew)
    (H4 : ∀ w, Calls Try.prog 77 #[.int .i64 c, .int .i64 4] w fun e w' => e = .returned (numv i k) ∧ w' = w.drew)
    : Calls Try.prog 67 #[gf y 0 0 0 0 0 0 0 0 0 0 0] W fun e w' => e = .returned (gf y a b c d p 0 i k 0 0 0) ∧ Below W.heap.size W w' := by
  go_enter Try.func67, Try.ntmps67
  go_wp2_with fail
  refine (H1 _).mono ?_
  rintro e w' ⟨rfl, rfl⟩
  go_wp2_with fail
  refine (H2 _).mono ?_
  rintro e w' ⟨rfl, rfl⟩
  go_wp2_with fail
  refine (H3 _).mono ?_
  rintro e w' ⟨rfl, rfl⟩
  go_wp2_with fail
  refine (H4 _).mono ?_
  rintro e w' ⟨rfl, rfl⟩
  go_wp2_with fail
  exact bodyPost_ret (v := gf y a b c d p 0 i k 0 0 0) (by simp [results, Try.results67, go_sem]) rfl ⟨rfl, (below_dn (below_dn (below_dn (below_dn (((Below.refl _ _).alloc (Nat.le_refl _) _).alloc (by simp) _) 1) 1) 1) 1)⟩
set_option maxRecDepth 100000 in
set_option maxHeartbeats 1600000 in
theorem gcorr (y a b c d p g i k v r r2 : Int) (W : World) (b1 : 0 ≤ b) (b2 : b ≤ 10000000) (v1 : 0 ≤ v) (v2 : v ≤ 10000000)
    (H1 : ∀ w, Calls Try.prog 77 #[.int .i64 (b + 8), .int .i64 25] w fun e w' => e = .returned (numv v r) ∧ w' = w.drew)
    (H2 : ∀ w, Calls Try.prog 77 #[.int .i64 (b - v + 1), .int .i64 3] w fun e w' => e = .returned (numv g r2) ∧ w' = w.drew)
    : Calls Try.prog 68 #[gf y a b c d p 0 i k 0 0 0] W fun e w' => e = .returned (gf y a b c d p g i k 0 0 0) ∧ Below W.heap.size W w' := by
  go_enter Try.func68, Try.ntmps68
  go_wp2_with fail
  refine (H1 _).mono ?_
  rintro e w' ⟨rfl, rfl⟩
  go_wp2_with fail
  refine (H2 _).mono ?_
  rintro e w' ⟨rfl, rfl⟩
  go_wp2_with fail
  exact bodyPost_ret (v := gf y a b c d p g i k 0 0 0) (by simp [results, Try.results68, go_sem]) rfl ⟨rfl, (below_dn (below_dn (((Below.refl _ _).alloc (Nat.le_refl _) _).alloc (by simp) _) 1) 1)⟩
set_option maxRecDepth 100000 in
set_option maxHeartbeats 1600000 in
theorem gmoon (y a b c d p g i k h q : Int) (W : World) (a1 : 0 ≤ a) (a2 : a ≤ 18) (b1 : 0 ≤ b) (b2 : b ≤ 10000000) (d1 : 0 ≤ d) (d2 : d ≤ 10000000) (g1 : 0 ≤ g) (g2 : g ≤ 10000000)
    (H1 : ∀ w, Calls Try.prog 77 #[.int .i64 (19 * a + b - d - g + 15), .int .i64 30] w fun e w' => e = .returned (numv q h) ∧ w' = w.drew)
    : Calls Try.prog 69 #[gf y a b c d p g i k 0 0 0] W fun e w' => e = .returned (gf y a b c d p g i k h 0 0) ∧ Below W.heap.size W w' := by
  go_enter Try.func69, Try.ntmps69
  go_wp2_with fail
  refine (H1 _).mono ?_
  rintro e w' ⟨rfl, rfl⟩
  go_wp2_with fail
  exact bodyPost_ret (v := gf y a b c d p g i k h 0 0) (by simp [results, Try.results69, go_sem]) rfl ⟨rfl, (below_dn (((Below.refl _ _).alloc (Nat.le_refl _) _).alloc (by simp) _) 1)⟩
set_option maxRecDepth 100000 in
set_option maxHeartbeats 1600000 in
theorem gsun (y a b c d p g i k h l q : Int) (W : World) (p1 : 0 ≤ p) (p2 : p ≤ 3) (i1 : 0 ≤ i) (i2 : i ≤ 24) (k1 : 0 ≤ k) (k2 : k ≤ 3) (h1 : 0 ≤ h) (h2 : h ≤ 29)
    (H1 : ∀ w, Calls Try.prog 77 #[.int .i64 (32 + 2 * p + 2 * i - h - k), .int .i64 7] w fun e w' => e = .returned (numv q l) ∧ w' = w.drew)
    : Calls Try.prog 70 #[gf y a b c d p g i k h 0 0] W fun e w' => e = .returned (gf y a b c d p g i k h l 0) ∧ Below W.heap.size W w' := by
  go_enter Try.func70, Try.ntmps70
  go_wp2_with fail
  refine (H1 _).mono ?_
  rintro e w' ⟨rfl, rfl⟩
  go_wp2_with fail
  exact bodyPost_ret (v := gf y a b c d p g i k h l 0) (by simp [results, Try.results70, go_sem]) rfl ⟨rfl, (below_dn (((Below.refl _ _).alloc (Nat.le_refl _) _).alloc (by simp) _) 1)⟩
set_option maxRecDepth 100000 in
set_option maxHeartbeats 1600000 in
theorem gweek (y a b c d p g i k h l m r : Int) (W : World) (a1 : 0 ≤ a) (a2 : a ≤ 18) (h1 : 0 ≤ h) (h2 : h ≤ 29) (l1 : 0 ≤ l) (l2 : l ≤ 6)
    (H1 : ∀ w, Calls Try.prog 77 #[.int .i64 (a + 11 * h + 22 * l), .int .i64 451] w fun e w' => e = .returned (numv m r) ∧ w' = w.drew)
    : Calls Try.prog 71 #[gf y a b c d p g i k h l 0] W fun e w' => e = .returned (gf y a b c d p g i k h l m) ∧ Below W.heap.size W w' := by
  go_enter Try.func71, Try.ntmps71
  go_wp2_with fail
  refine (H1 _).mono ?_
  rintro e w' ⟨rfl, rfl⟩
  go_wp2_with fail
  exact bodyPost_ret (v := gf y a b c d p g i k h l m) (by simp [results, Try.results71, go_sem]) rfl ⟨rfl, (below_dn (((Below.refl _ _).alloc (Nat.le_refl _) _).alloc (by simp) _) 1)⟩
theorem jnum (y a b c d f : Int) (W : World) (d1 : 0 ≤ d) (d2 : d ≤ 29) (f1 : 0 ≤ f) (f2 : f ≤ 6) : Calls Try.prog 65 #[jf y a b c d f] W fun e w' => e = .returned (.int .i64 (d + f + 114)) ∧ Below W.heap.size W w' := by
  go_enter Try.func65, Try.ntmps65
  go_wp2
  go_ret
  exact ⟨rfl, (Below.refl _ _).alloc (Nat.le_refl _) _⟩
theorem gnum (y a b c d p g i k h l m : Int) (W : World) (h1 : 0 ≤ h) (h2 : h ≤ 29) (l1 : 0 ≤ l) (l2 : l ≤ 6) (m1 : 0 ≤ m) (m2 : m ≤ 1) : Calls Try.prog 72 #[gf y a b c d p g i k h l m] W fun e w' => e = .returned (.int .i64 (h + l - 7 * m + 114)) ∧ Below W.heap.size W w' := by
  go_enter Try.func72, Try.ntmps72
  go_wp2
  go_ret
  exact ⟨rfl, (Below.refl _ _).alloc (Nat.le_refl _) _⟩
end Go.Proofs.Ytnaglaecoephnaa

namespace Go.Proofs.Ytnaglaecoephnaa
open Go.RowKit

set_option maxRecDepth 100000 in
set_option maxHeartbeats 1600000 in
theorem jcomb (B cap n0 n1 n2 t : Nat) (y a b c d f : Int) (W : World)
    (R0 : W.heap[B]? = some (.cells #[Value.func (.func n0) #[] #[], Value.func (.func n1) #[] #[], Value.func (.func n2) #[] #[]] t (0, 0)))
    (E0 : ∀ (args : Array Value) (w : World), (callFunc n0 args).run Try.prog w = .ok (.enter n0 args) w)
    (H0 : ∀ w, Calls Try.prog n0 #[jf y 0 0 0 0 0] w fun e w' => e = .returned (jf y a b c 0 0) ∧ Below w.heap.size w w')
    (E1 : ∀ (args : Array Value) (w : World), (callFunc n1 args).run Try.prog w = .ok (.enter n1 args) w)
    (H1 : ∀ w, Calls Try.prog n1 #[jf y a b c 0 0] w fun e w' => e = .returned (jf y a b c d 0) ∧ Below w.heap.size w w')
    (E2 : ∀ (args : Array Value) (w : World), (callFunc n2 args).run Try.prog w = .ok (.enter n2 args) w)
    (H2 : ∀ w, Calls Try.prog n2 #[jf y a b c d 0] w fun e w' => e = .returned (jf y a b c d f) ∧ Below w.heap.size w w')
    : Calls Try.prog 61 #[jf y 0 0 0 0 0, .slice (some ⟨B, 0, none⟩) 3 cap] W fun e w' => e = .returned (jf y a b c d f) ∧ Below W.heap.size W w' := by
  have Q := Lib.hid R0
  clear R0
  go_enter Try.func61, Try.ntmps61
  go_wp2
  refine wp_loop_rounds 4 ?_
  generalize hw : (W.alloc (jfo y 0 0 0 0 0)).alloc (jfo 0 0 0 0 0 0) = w0
  have A0 : Hid (w0.heap[W.heap.size]? = some (jfo y 0 0 0 0 0)) := Lib.hid (by rw [← hw]; exact row_al (heap_alloc_new _ _) _)
  have Z0 : Hid (w0.heap[W.heap.size + 1]? = some (jfo 0 0 0 0 0 0)) := Lib.hid (by rw [← hw]; exact row_new1 _ _ _)
  have B0 : Hid (Below W.heap.size W w0) := Lib.hid (by rw [← hw]; exact ((Below.refl _ _).alloc (Nat.le_refl _) _).alloc (by simp) _)
  clear hw
  rw [rounds_succ]
  obtain ⟨c0, c1, c2, c3, c4, c5, f0, f1, f2, f3, f4, f5, z⟩ := row6 A0.out
  have d0 : w0.cell? ⟨B, 0, none⟩ = some (.func (.func n0) #[] #[]) := by rw [cell_of_row w0 B 0 _ _ _ (row_on Q.out B0.out)]; rfl
  go_wp2_with fail
  refine (H0 _).mono ?_
  rintro e v0 ⟨rfl, hb⟩
  have X0 := Lib.hid (row_on A0.out hb)
  have Y0 := Lib.hid (row_on Z0.out hb)
  have C0 := Lib.hid (below_on B0.out hb)
  clear hb c0 c1 c2 c3 c4 c5 f0 f1 f2 f3 f4 f5 z d0 A0 Z0 B0 H0 E0
  obtain ⟨c0, c1, c2, c3, c4, c5, f0, f1, f2, f3, f4, f5, z⟩ := row6 X0.out
  go_wp2_with fail
  generalize hu : ((((((v0.setCell ⟨W.heap.size, 0, none⟩ (.int .i64 y)).setCell ⟨W.heap.size, 1, none⟩ (.int .i64 a)).setCell ⟨W.heap.size, 2, none⟩ (.int .i64 b)).setCell ⟨W.heap.size, 3, none⟩ (.int .i64 c)).setCell ⟨W.heap.size, 4, none⟩ (.int .i64 0)).setCell ⟨W.heap.size, 5, none⟩ (.int .i64 0)) = w1
  have q := put6 (.int .i64 y) (.int .i64 a) (.int .i64 b) (.int .i64 c) (.int .i64 0) (.int .i64 0) X0.out C0.out (Nat.le_refl _) hu
  have A1 : Hid (w1.heap[W.heap.size]? = some (jfo y a b c 0 0)) := Lib.hid q.1
  have B1 : Hid (Below W.heap.size W w1) := Lib.hid q.2.1
  have Z1 : Hid (w1.heap[W.heap.size + 1]? = some (jfo 0 0 0 0 0 0)) := Lib.hid ((q.2.2 _ (by omega)).trans Y0.out)
  clear hu q c0 c1 c2 c3 c4 c5 f0 f1 f2 f3 f4 f5 z X0 Y0 C0 v0 w0
  rw [rounds_succ]
  obtain ⟨c0, c1, c2, c3, c4, c5, f0, f1, f2, f3, f4, f5, z⟩ := row6 A1.out
  have d1 : w1.cell? ⟨B, 1, none⟩ = some (.func (.func n1) #[] #[]) := by rw [cell_of_row w1 B 1 _ _ _ (row_on Q.out B1.out)]; rfl
  go_wp2_with fail
  refine (H1 _).mono ?_
  rintro e v1 ⟨rfl, hb⟩
  have X1 := Lib.hid (row_on A1.out hb)
  have Y1 := Lib.hid (row_on Z1.out hb)
  have C1 := Lib.hid (below_on B1.out hb)
  clear hb c0 c1 c2 c3 c4 c5 f0 f1 f2 f3 f4 f5 z d1 A1 Z1 B1 H1 E1
  obtain ⟨c0, c1, c2, c3, c4, c5, f0, f1, f2, f3, f4, f5, z⟩ := row6 X1.out
  go_wp2_with fail
  generalize hu : ((((((v1.setCell ⟨W.heap.size, 0, none⟩ (.int .i64 y)).setCell ⟨W.heap.size, 1, none⟩ (.int .i64 a)).setCell ⟨W.heap.size, 2, none⟩ (.int .i64 b)).setCell ⟨W.heap.size, 3, none⟩ (.int .i64 c)).setCell ⟨W.heap.size, 4, none⟩ (.int .i64 d)).setCell ⟨W.heap.size, 5, none⟩ (.int .i64 0)) = w2
  have q := put6 (.int .i64 y) (.int .i64 a) (.int .i64 b) (.int .i64 c) (.int .i64 d) (.int .i64 0) X1.out C1.out (Nat.le_refl _) hu
  have A2 : Hid (w2.heap[W.heap.size]? = some (jfo y a b c d 0)) := Lib.hid q.1
  have B2 : Hid (Below W.heap.size W w2) := Lib.hid q.2.1
  have Z2 : Hid (w2.heap[W.heap.size + 1]? = some (jfo 0 0 0 0 0 0)) := Lib.hid ((q.2.2 _ (by omega)).trans Y1.out)
  clear hu q c0 c1 c2 c3 c4 c5 f0 f1 f2 f3 f4 f5 z X1 Y1 C1 v1 w1
  rw [rounds_succ]
  obtain ⟨c0, c1, c2, c3, c4, c5, f0, f1, f2, f3, f4, f5, z⟩ := row6 A2.out
  have d2 : w2.cell? ⟨B, 2, none⟩ = some (.func (.func n2) #[] #[]) := by rw [cell_of_row w2 B 2 _ _ _ (row_on Q.out B2.out)]; rfl
  go_wp2_with fail
  refine (H2 _).mono ?_
  rintro e v2 ⟨rfl, hb⟩
  have X2 := Lib.hid (row_on A2.out hb)
  have Y2 := Lib.hid (row_on Z2.out hb)
  have C2 := Lib.hid (below_on B2.out hb)
  clear hb c0 c1 c2 c3 c4 c5 f0 f1 f2 f3 f4 f5 z d2 A2 Z2 B2 H2 E2
  obtain ⟨c0, c1, c2, c3, c4, c5, f0, f1, f2, f3, f4, f5, z⟩ := row6 X2.out
  go_wp2_with fail
  generalize hu : ((((((v2.setCell ⟨W.heap.size, 0, none⟩ (.int .i64 y)).setCell ⟨W.heap.size, 1, none⟩ (.int .i64 a)).setCell ⟨W.heap.size, 2, none⟩ (.int .i64 b)).setCell ⟨W.heap.size, 3, none⟩ (.int .i64 c)).setCell ⟨W.heap.size, 4, none⟩ (.int .i64 d)).setCell ⟨W.heap.size, 5, none⟩ (.int .i64 f)) = w3
  have q := put6 (.int .i64 y) (.int .i64 a) (.int .i64 b) (.int .i64 c) (.int .i64 d) (.int .i64 f) X2.out C2.out (Nat.le_refl _) hu
  have A3 : Hid (w3.heap[W.heap.size]? = some (jfo y a b c d f)) := Lib.hid q.1
  have B3 : Hid (Below W.heap.size W w3) := Lib.hid q.2.1
  have Z3 : Hid (w3.heap[W.heap.size + 1]? = some (jfo 0 0 0 0 0 0)) := Lib.hid ((q.2.2 _ (by omega)).trans Y2.out)
  clear hu q c0 c1 c2 c3 c4 c5 f0 f1 f2 f3 f4 f5 z X2 Y2 C2 v2 w2
  rw [rounds_succ]
  obtain ⟨c0, c1, c2, c3, c4, c5, f0, f1, f2, f3, f4, f5, z⟩ := row6 A3.out
  obtain ⟨g0, g1, g2, g3, g4, g5, h0, h1, h2, h3, h4, h5, zz⟩ := row6 Z3.out
  go_wp2_with fail
  generalize hu : ((((((w3.setCell ⟨W.heap.size + 1, 0, none⟩ (.int .i64 y)).setCell ⟨W.heap.size + 1, 1, none⟩ (.int .i64 a)).setCell ⟨W.heap.size + 1, 2, none⟩ (.int .i64 b)).setCell ⟨W.heap.size + 1, 3, none⟩ (.int .i64 c)).setCell ⟨W.heap.size + 1, 4, none⟩ (.int .i64 d)).setCell ⟨W.heap.size + 1, 5, none⟩ (.int .i64 f)) = u
  have q := put6 (.int .i64 y) (.int .i64 a) (.int .i64 b) (.int .i64 c) (.int .i64 d) (.int .i64 f) Z3.out B3.out (Nat.le_add_right _ _) hu
  clear hu c0 c1 c2 c3 c4 c5 f0 f1 f2 f3 f4 f5 z g0 g1 g2 g3 g4 g5 h0 h1 h2 h3 h4 h5 zz
  obtain ⟨c0, c1, c2, c3, c4, c5, f0, f1, f2, f3, f4, f5, z⟩ := row6 q.1
  have Bq := Lib.hid q.2.1
  clear q
  exact bodyPost_ret (v := jf y a b c d f) (by simp [results, Try.results61, go_sem, c0, c1, c2, c3, c4, c5]) rfl ⟨rfl, Bq.out⟩
set_option maxRecDepth 100000 in
set_option maxHeartbeats 1600000 in
theorem gcomb (B cap n0 n1 n2 n3 n4 t : Nat) (y a b c d p g i k h l m : Int) (W : World)
    (R0 : W.heap[B]? = some (.cells #[Value.func (.func n0) #[] #[], Value.func (.func n1) #[] #[], Value.func (.func n2) #[] #[], Value.func (.func n3) #[] #[], Value.func (.func n4) #[] #[]] t (0, 0)))
    (E0 : ∀ (args : Array Value) (w : World), (callFunc n0 args).run Try.prog w = .ok (.enter n0 args) w)
    (H0 : ∀ w, Calls Try.prog n0 #[gf y 0 0 0 0 0 0 0 0 0 0 0] w fun e w' => e = .returned (gf y a b c d p 0 i k 0 0 0) ∧ Below w.heap.size w w')
    (E1 : ∀ (args : Array Value) (w : World), (callFunc n1 args).run Try.prog w = .ok (.enter n1 args) w)
    (H1 : ∀ w, Calls Try.prog n1 #[gf y a b c d p 0 i k 0 0 0] w fun e w' => e = .returned (gf y a b c d p g i k 0 0 0) ∧ Below w.heap.size w w')
    (E2 : ∀ (args : Array Value) (w : World), (callFunc n2 args).run Try.prog w = .ok (.enter n2 args) w)
    (H2 : ∀ w, Calls Try.prog n2 #[gf y a b c d p g i k 0 0 0] w fun e w' => e = .returned (gf y a b c d p g i k h 0 0) ∧ Below w.heap.size w w')
    (E3 : ∀ (args : Array Value) (w : World), (callFunc n3 args).run Try.prog w = .ok (.enter n3 args) w)
    (H3 : ∀ w, Calls Try.prog n3 #[gf y a b c d p g i k h 0 0] w fun e w' => e = .returned (gf y a b c d p g i k h l 0) ∧ Below w.heap.size w w')
    (E4 : ∀ (args : Array Value) (w : World), (callFunc n4 args).run Try.prog w = .ok (.enter n4 args) w)
    (H4 : ∀ w, Calls Try.prog n4 #[gf y a b c d p g i k h l 0] w fun e w' => e = .returned (gf y a b c d p g i k h l m) ∧ Below w.heap.size w w')
    : Calls Try.prog 66 #[gf y 0 0 0 0 0 0 0 0 0 0 0, .slice (some ⟨B, 0, none⟩) 5 cap] W fun e w' => e = .returned (gf y a b c d p g i k h l m) ∧ Below W.heap.size W w' := by
  have Q := Lib.hid R0
  clear R0
  go_enter Try.func66, Try.ntmps66
  go_wp2
  refine wp_loop_rounds 6 ?_
  generalize hw : (W.alloc (gfo y 0 0 0 0 0 0 0 0 0 0 0)).alloc (gfo 0 0 0 0 0 0 0 0 0 0 0 0) = w0
  have A0 : Hid (w0.heap[W.heap.size]? = some (gfo y 0 0 0 0 0 0 0 0 0 0 0)) := Lib.hid (by rw [← hw]; exact row_al (heap_alloc_new _ _) _)
  have Z0 : Hid (w0.heap[W.heap.size + 1]? = some (gfo 0 0 0 0 0 0 0 0 0 0 0 0)) := Lib.hid (by rw [← hw]; exact row_new1 _ _ _)
  have B0 : Hid (Below W.heap.size W w0) := Lib.hid (by rw [← hw]; exact ((Below.refl _ _).alloc (Nat.le_refl _) _).alloc (by simp) _)
  clear hw
  rw [rounds_succ]
  obtain ⟨c0, c1, c2, c3, c4, c5, c6, c7, c8, c9, c10, c11, f0, f1, f2, f3, f4, f5, f6, f7, f8, f9, f10, f11, z⟩ := row12 A0.out
  have d0 : w0.cell? ⟨B, 0, none⟩ = some (.func (.func n0) #[] #[]) := by rw [cell_of_row w0 B 0 _ _ _ (row_on Q.out B0.out)]; rfl
  go_wp2_with fail
  refine (H0 _).mono ?_
  rintro e v0 ⟨rfl, hb⟩
  have X0 := Lib.hid (row_on A0.out hb)
  have Y0 := Lib.hid (row_on Z0.out hb)
  have C0 := Lib.hid (below_on B0.out hb)
  clear hb c0 c1 c2 c3 c4 c5 c6 c7 c8 c9 c10 c11 f0 f1 f2 f3 f4 f5 f6 f7 f8 f9 f10 f11 z d0 A0 Z0 B0 H0 E0
  obtain ⟨c0, c1, c2, c3, c4, c5, c6, c7, c8, c9, c10, c11, f0, f1, f2, f3, f4, f5, f6, f7, f8, f9, f10, f11, z⟩ := row12 X0.out
  go_wp2_with fail
  generalize hu : ((((((((((((v0.setCell ⟨W.heap.size, 0, none⟩ (.int .i64 y)).setCell ⟨W.heap.size, 1, none⟩ (.int .i64 a)).setCell ⟨W.heap.size, 2, none⟩ (.int .i64 b)).setCell ⟨W.heap.size, 3, none⟩ (.int .i64 c)).setCell ⟨W.heap.size, 4, none⟩ (.int .i64 d)).setCell ⟨W.heap.size, 5, none⟩ (.int .i64 p)).setCell ⟨W.heap.size, 6, none⟩ (.int .i64 0)).setCell ⟨W.heap.size, 7, none⟩ (.int .i64 i)).setCell ⟨W.heap.size, 8, none⟩ (.int .i64 k)).setCell ⟨W.heap.size, 9, none⟩ (.int .i64 0)).setCell ⟨W.heap.size, 10, none⟩ (.int .i64 0)).setCell ⟨W.heap.size, 11, none⟩ (.int .i64 0)) = w1
  have q := put12 (.int .i64 y) (.int .i64 a) (.int .i64 b) (.int .i64 c) (.int .i64 d) (.int .i64 p) (.int .i64 0) (.int .i64 i) (.int .i64 k) (.int .i64 0) (.int .i64 0) (.int .i64 0) X0.out C0.out (Nat.le_refl _) hu
  have A1 : Hid (w1.heap[W.heap.size]? = some (gfo y a b c d p 0 i k 0 0 0)) := Lib.hid q.1
  have B1 : Hid (Below W.heap.size W w1) := Lib.hid q.2.1
  have Z1 : Hid (w1.heap[W.heap.size + 1]? = some (gfo 0 0 0 0 0 0 0 0 0 0 0 0)) := Lib.hid ((q.2.2 _ (by omega)).trans Y0.out)
  clear hu q c0 c1 c2 c3 c4 c5 c6 c7 c8 c9 c10 c11 f0 f1 f2 f3 f4 f5 f6 f7 f8 f9 f10 f11 z X0 Y0 C0 v0 w0
  rw [rounds_succ]
  obtain ⟨c0, c1, c2, c3, c4, c5, c6, c7, c8, c9, c10, c11, f0, f1, f2, f3, f4, f5, f6, f7, f8, f9, f10, f11, z⟩ := row12 A1.out
  have d1 : w1.cell? ⟨B, 1, none⟩ = some (.func (.func n1) #[] #[]) := by rw [cell_of_row w1 B 1 _ _ _ (row_on Q.out B1.out)]; rfl
  go_wp2_with fail
  refine (H1 _).mono ?_
  rintro e v1 ⟨rfl, hb⟩
  have X1 := Lib.hid (row_on A1.out hb)
  have Y1 := Lib.hid (row_on Z1.out hb)
  have C1 := Lib.hid (below_on B1.out hb)
  clear hb c0 c1 c2 c3 c4 c5 c6 c7 c8 c9 c10 c11 f0 f1 f2 f3 f4 f5 f6 f7 f8 f9 f10 f11 z d1 A1 Z1 B1 H1 E1
  obtain ⟨c0, c1, c2, c3, c4, c5, c6, c7, c8, c9, c10, c11, f0, f1, f2, f3, f4, f5, f6, f7, f8, f9, f10, f11, z⟩ := row12 X1.out
  go_wp2_with fail
  generalize hu : ((((((((((((v1.setCell ⟨W.heap.size, 0, none⟩ (.int .i64 y)).setCell ⟨W.heap.size, 1, none⟩ (.int .i64 a)).setCell ⟨W.heap.size, 2, none⟩ (.int .i64 b)).setCell ⟨W.heap.size, 3, none⟩ (.int .i64 c)).setCell ⟨W.heap.size, 4, none⟩ (.int .i64 d)).setCell ⟨W.heap.size, 5, none⟩ (.int .i64 p)).setCell ⟨W.heap.size, 6, none⟩ (.int .i64 g)).setCell ⟨W.heap.size, 7, none⟩ (.int .i64 i)).setCell ⟨W.heap.size, 8, none⟩ (.int .i64 k)).setCell ⟨W.heap.size, 9, none⟩ (.int .i64 0)).setCell ⟨W.heap.size, 10, none⟩ (.int .i64 0)).setCell ⟨W.heap.size, 11, none⟩ (.int .i64 0)) = w2
  have q := put12 (.int .i64 y) (.int .i64 a) (.int .i64 b) (.int .i64 c) (.int .i64 d) (.int .i64 p) (.int .i64 g) (.int .i64 i) (.int .i64 k) (.int .i64 0) (.int .i64 0) (.int .i64 0) X1.out C1.out (Nat.le_refl _) hu
  have A2 : Hid (w2.heap[W.heap.size]? = some (gfo y a b c d p g i k 0 0 0)) := Lib.hid q.1
  have B2 : Hid (Below W.heap.size W w2) := Lib.hid q.2.1
  have Z2 : Hid (w2.heap[W.heap.size + 1]? = some (gfo 0 0 0 0 0 0 0 0 0 0 0 0)) := Lib.hid ((q.2.2 _ (by omega)).trans Y1.out)
  clear hu q c0 c1 c2 c3 c4 c5 c6 c7 c8 c9 c10 c11 f0 f1 f2 f3 f4 f5 f6 f7 f8 f9 f10 f11 z X1 Y1 C1 v1 w1
  rw [rounds_succ]
  obtain ⟨c0, c1, c2, c3, c4, c5, c6, c7, c8, c9, c10, c11, f0, f1, f2, f3, f4, f5, f6, f7, f8, f9, f10, f11, z⟩ := row12 A2.out
  have d2 : w2.cell? ⟨B, 2, none⟩ = some (.func (.func n2) #[] #[]) := by rw [cell_of_row w2 B 2 _ _ _ (row_on Q.out B2.out)]; rfl
  go_wp2_with fail
  refine (H2 _).mono ?_
  rintro e v2 ⟨rfl, hb⟩
  have X2 := Lib.hid (row_on A2.out hb)
  have Y2 := Lib.hid (row_on Z2.out hb)
  have C2 := Lib.hid (below_on B2.out hb)
  clear hb c0 c1 c2 c3 c4 c5 c6 c7 c8 c9 c10 c11 f0 f1 f2 f3 f4 f5 f6 f7 f8 f9 f10 f11 z d2 A2 Z2 B2 H2 E2
  obtain ⟨c0, c1, c2, c3, c4, c5, c6, c7, c8, c9, c10, c11, f0, f1, f2, f3, f4, f5, f6, f7, f8, f9, f10, f11, z⟩ := row12 X2.out
  go_wp2_with fail
  generalize hu : ((((((((((((v2.setCell ⟨W.heap.size, 0, none⟩ (.int .i64 y)).setCell ⟨W.heap.size, 1, none⟩ (.int .i64 a)).setCell ⟨W.heap.size, 2, none⟩ (.int .i64 b)).setCell ⟨W.heap.size, 3, none⟩ (.int .i64 c)).setCell ⟨W.heap.size, 4, none⟩ (.int .i64 d)).setCell ⟨W.heap.size, 5, none⟩ (.int .i64 p)).setCell ⟨W.heap.size, 6, none⟩ (.int .i64 g)).setCell ⟨W.heap.size, 7, none⟩ (.int .i64 i)).setCell ⟨W.heap.size, 8, none⟩ (.int .i64 k)).setCell ⟨W.heap.size, 9, none⟩ (.int .i64 h)).setCell ⟨W.heap.size, 10, none⟩ (.int .i64 0)).setCell ⟨W.heap.size, 11, none⟩ (.int .i64 0)) = w3
  have q := put12 (.int .i64 y) (.int .i64 a) (.int .i64 b) (.int .i64 c) (.int .i64 d) (.int .i64 p) (.int .i64 g) (.int .i64 i) (.int .i64 k) (.int .i64 h) (.int .i64 0) (.int .i64 0) X2.out C2.out (Nat.le_refl _) hu
  have A3 : Hid (w3.heap[W.heap.size]? = some (gfo y a b c d p g i k h 0 0)) := Lib.hid q.1
  have B3 : Hid (Below W.heap.size W w3) := Lib.hid q.2.1
  have Z3 : Hid (w3.heap[W.heap.size + 1]? = some (gfo 0 0 0 0 0 0 0 0 0 0 0 0)) := Lib.hid ((q.2.2 _ (by omega)).trans Y2.out)
  clear hu q c0 c1 c2 c3 c4 c5 c6 c7 c8 c9 c10 c11 f0 f1 f2 f3 f4 f5 f6 f7 f8 f9 f10 f11 z X2 Y2 C2 v2 w2
  rw [rounds_succ]
  obtain ⟨c0, c1, c2, c3, c4, c5, c6, c7, c8, c9, c10, c11, f0, f1, f2, f3, f4, f5, f6, f7, f8, f9, f10, f11, z⟩ := row12 A3.out
  have d3 : w3.cell? ⟨B, 3, none⟩ = some (.func (.func n3) #[] #[]) := by rw [cell_of_row w3 B 3 _ _ _ (row_on Q.out B3.out)]; rfl
  go_wp2_with fail
  refine (H3 _).mono ?_
  rintro e v3 ⟨rfl, hb⟩
  have X3 := Lib.hid (row_on A3.out hb)
  have Y3 := Lib.hid (row_on Z3.out hb)
  have C3 := Lib.hid (below_on B3.out hb)
  clear hb c0 c1 c2 c3 c4 c5 c6 c7 c8 c9 c10 c11 f0 f1 f2 f3 f4 f5 f6 f7 f8 f9 f10 f11 z d3 A3 Z3 B3 H3 E3
  obtain ⟨c0, c1, c2, c3, c4, c5, c6, c7, c8, c9, c10, c11, f0, f1, f2, f3, f4, f5, f6, f7, f8, f9, f10, f11, z⟩ := row12 X3.out
  go_wp2_with fail
  generalize hu : ((((((((((((v3.setCell ⟨W.heap.size, 0, none⟩ (.int .i64 y)).setCell ⟨W.heap.size, 1, none⟩ (.int .i64 a)).setCell ⟨W.heap.size, 2, none⟩ (.int .i64 b)).setCell ⟨W.heap.size, 3, none⟩ (.int .i64 c)).setCell ⟨W.heap.size, 4, none⟩ (.int .i64 d)).setCell ⟨W.heap.size, 5, none⟩ (.int .i64 p)).setCell ⟨W.heap.size, 6, none⟩ (.int .i64 g)).setCell ⟨W.heap.size, 7, none⟩ (.int .i64 i)).setCell ⟨W.heap.size, 8, none⟩ (.int .i64 k)).setCell ⟨W.heap.size, 9, none⟩ (.int .i64 h)).setCell ⟨W.heap.size, 10, none⟩ (.int .i64 l)).setCell ⟨W.heap.size, 11, none⟩ (.int .i64 0)) = w4
  have q := put12 (.int .i64 y) (.int .i64 a) (.int .i64 b) (.int .i64 c) (.int .i64 d) (.int .i64 p) (.int .i64 g) (.int .i64 i) (.int .i64 k) (.int .i64 h) (.int .i64 l) (.int .i64 0) X3.out C3.out (Nat.le_refl _) hu
  have A4 : Hid (w4.heap[W.heap.size]? = some (gfo y a b c d p g i k h l 0)) := Lib.hid q.1
  have B4 : Hid (Below W.heap.size W w4) := Lib.hid q.2.1
  have Z4 : Hid (w4.heap[W.heap.size + 1]? = some (gfo 0 0 0 0 0 0 0 0 0 0 0 0)) := Lib.hid ((q.2.2 _ (by omega)).trans Y3.out)
  clear hu q c0 c1 c2 c3 c4 c5 c6 c7 c8 c9 c10 c11 f0 f1 f2 f3 f4 f5 f6 f7 f8 f9 f10 f11 z X3 Y3 C3 v3 w3
  rw [rounds_succ]
  obtain ⟨c0, c1, c2, c3, c4, c5, c6, c7, c8, c9, c10, c11, f0, f1, f2, f3, f4, f5, f6, f7, f8, f9, f10, f11, z⟩ := row12 A4.out
  have d4 : w4.cell? ⟨B, 4, none⟩ = some (.func (.func n4) #[] #[]) := by rw [cell_of_row w4 B 4 _ _ _ (row_on Q.out B4.out)]; rfl
  go_wp2_with fail
  refine (H4 _).mono ?_
  rintro e v4 ⟨rfl, hb⟩
  have X4 := Lib.hid (row_on A4.out hb)
  have Y4 := Lib.hid (row_on Z4.out hb)
  have C4 := Lib.hid (below_on B4.out hb)
  clear hb c0 c1 c2 c3 c4 c5 c6 c7 c8 c9 c10 c11 f0 f1 f2 f3 f4 f5 f6 f7 f8 f9 f10 f11 z d4 A4 Z4 B4 H4 E4
  obtain ⟨c0, c1, c2, c3, c4, c5, c6, c7, c8, c9, c10, c11, f0, f1, f2, f3, f4, f5, f6, f7, f8, f9, f10, f11, z⟩ := row12 X4.out
  go_wp2_with fail
  generalize hu : ((((((((((((v4.setCell ⟨W.heap.size, 0, none⟩ (.int .i64 y)).setCell ⟨W.heap.size, 1, none⟩ (.int .i64 a)).setCell ⟨W.heap.size, 2, none⟩ (.int .i64 b)).setCell ⟨W.heap.size, 3, none⟩ (.int .i64 c)).setCell ⟨W.heap.size, 4, none⟩ (.int .i64 d)).setCell ⟨W.heap.size, 5, none⟩ (.int .i64 p)).setCell ⟨W.heap.size, 6, none⟩ (.int .i64 g)).setCell ⟨W.heap.size, 7, none⟩ (.int .i64 i)).setCell ⟨W.heap.size, 8, none⟩ (.int .i64 k)).setCell ⟨W.heap.size, 9, none⟩ (.int .i64 h)).setCell ⟨W.heap.size, 10, none⟩ (.int .i64 l)).setCell ⟨W.heap.size, 11, none⟩ (.int .i64 m)) = w5
  have q := put12 (.int .i64 y) (.int .i64 a) (.int .i64 b) (.int .i64 c) (.int .i64 d) (.int .i64 p) (.int .i64 g) (.int .i64 i) (.int .i64 k) (.int .i64 h) (.int .i64 l) (.int .i64 m) X4.out C4.out (Nat.le_refl _) hu
  have A5 : Hid (w5.heap[W.heap.size]? = some (gfo y a b c d p g i k h l m)) := Lib.hid q.1
  have B5 : Hid (Below W.heap.size W w5) := Lib.hid q.2.1
  have Z5 : Hid (w5.heap[W.heap.size + 1]? = some (gfo 0 0 0 0 0 0 0 0 0 0 0 0)) := Lib.hid ((q.2.2 _ (by omega)).trans Y4.out)
  clear hu q c0 c1 c2 c3 c4 c5 c6 c7 c8 c9 c10 c11 f0 f1 f2 f3 f4 f5 f6 f7 f8 f9 f10 f11 z X4 Y4 C4 v4 w4
  rw [rounds_succ]
  obtain ⟨c0, c1, c2, c3, c4, c5, c6, c7, c8, c9, c10, c11, f0, f1, f2, f3, f4, f5, f6, f7, f8, f9, f10, f11, z⟩ := row12 A5.out
  obtain ⟨g0, g1, g2, g3, g4, g5, g6, g7, g8, g9, g10, g11, h0, h1, h2, h3, h4, h5, h6, h7, h8, h9, h10, h11, zz⟩ := row12 Z5.out
  go_wp2_with fail
  generalize hu : ((((((((((((w5.setCell ⟨W.heap.size + 1, 0, none⟩ (.int .i64 y)).setCell ⟨W.heap.size + 1, 1, none⟩ (.int .i64 a)).setCell ⟨W.heap.size + 1, 2, none⟩ (.int .i64 b)).setCell ⟨W.heap.size + 1, 3, none⟩ (.int .i64 c)).setCell ⟨W.heap.size + 1, 4, none⟩ (.int .i64 d)).setCell ⟨W.heap.size + 1, 5, none⟩ (.int .i64 p)).setCell ⟨W.heap.size + 1, 6, none⟩ (.int .i64 g)).setCell ⟨W.heap.size + 1, 7, none⟩ (.int .i64 i)).setCell ⟨W.heap.size + 1, 8, none⟩ (.int .i64 k)).setCell ⟨W.heap.size + 1, 9, none⟩ (.int .i64 h)).setCell ⟨W.heap.size + 1, 10, none⟩ (.int .i64 l)).setCell ⟨W.heap.size + 1, 11, none⟩ (.int .i64 m)) = u
  have q := put12 (.int .i64 y) (.int .i64 a) (.int .i64 b) (.int .i64 c) (.int .i64 d) (.int .i64 p) (.int .i64 g) (.int .i64 i) (.int .i64 k) (.int .i64 h) (.int .i64 l) (.int .i64 m) Z5.out B5.out (Nat.le_add_right _ _) hu
  clear hu c0 c1 c2 c3 c4 c5 c6 c7 c8 c9 c10 c11 f0 f1 f2 f3 f4 f5 f6 f7 f8 f9 f10 f11 z g0 g1 g2 g3 g4 g5 g6 g7 g8 g9 g10 g11 h0 h1 h2 h3 h4 h5 h6 h7 h8 h9 h10 h11 zz
  obtain ⟨c0, c1, c2, c3, c4, c5, c6, c7, c8, c9, c10, c11, f0, f1, f2, f3, f4, f5, f6, f7, f8, f9, f10, f11, z⟩ := row12 q.1
  have Bq := Lib.hid q.2.1
  clear q
  exact bodyPost_ret (v := gf y a b c d p g i k h l m) (by simp [results, Try.results66, go_sem, c0, c1, c2, c3, c4, c5, c6, c7, c8, c9, c10, c11]) rfl ⟨rfl, Bq.out⟩
end Go.Proofs.Ytnaglaecoephnaa

namespace Go.Proofs.Ytnaglaecoephnaa
open Go.RowKit

set_option maxRecDepth 100000 in
set_option maxHeartbeats 800000 in
theorem bnumj0 (y a b c d f n : Int) (W : World)
    (H1 : ∀ w, Calls Try.prog 62 #[jf y 0 0 0 0 0] w fun e w' => e = .returned (jf y a b c 0 0) ∧ Below w.heap.size w w')
    (H2 : ∀ w, Calls Try.prog 63 #[jf y a b c 0 0] w fun e w' => e = .returned (jf y a b c d 0) ∧ Below w.heap.size w w')
    (H3 : ∀ w, Calls Try.prog 64 #[jf y a b c d 0] w fun e w' => e = .returned (jf y a b c d f) ∧ Below w.heap.size w w')
    (HN : ∀ w, Calls Try.prog 65 #[jf y a b c d f] w fun e w' => e = .returned (.int .i64 n) ∧ Below w.heap.size w w')
    : Calls Try.prog 45 #[.int .i64 y] W fun e w' => e = .returned (.int .i64 n) ∧ Below W.heap.size W w' := by
  go_enter Try.func45, Try.ntmps45
  go_wp2_with fail
  refine (jcomb _ _ _ _ _ _ y a b c d f _ (heap_alloc_new _ _) Try.call62 H1 Try.call63 H2 Try.call64 H3).mono ?_
  rintro e w1 ⟨rfl, hb1⟩
  go_wp2_with fail
  refine (HN _).mono ?_
  rintro e w2 ⟨rfl, hb2⟩
  go_wp2_with fail
  go_ret
  exact ⟨rfl, below_on (below_on ((Below.refl _ _).alloc (Nat.le_refl _) _) hb1) hb2⟩
set_option maxRecDepth 100000 in
set_option maxHeartbeats 800000 in
theorem bnumg0 (y a b c d p g i k h l m n : Int) (W : World)
    (H1 : ∀ w, Calls Try.prog 67 #[gf y 0 0 0 0 0 0 0 0 0 0 0] w fun e w' => e = .returned (gf y a b c d p 0 i k 0 0 0) ∧ Below w.heap.size w w')
    (H2 : ∀ w, Calls Try.prog 68 #[gf y a b c d p 0 i k 0 0 0] w fun e w' => e = .returned (gf y a b c d p g i k 0 0 0) ∧ Below w.heap.size w w')
    (H3 : ∀ w, Calls Try.prog 69 #[gf y a b c d p g i k 0 0 0] w fun e w' => e = .returned (gf y a b c d p g i k h 0 0) ∧ Below w.heap.size w w')
    (H4 : ∀ w, Calls Try.prog 70 #[gf y a b c d p g i k h 0 0] w fun e w' => e = .returned (gf y a b c d p g i k h l 0) ∧ Below w.heap.size w w')
    (H5 : ∀ w, Calls Try.prog 71 #[gf y a b c d p g i k h l 0] w fun e w' => e = .returned (gf y a b c d p g i k h l m) ∧ Below w.heap.size w w')
    (HN : ∀ w, Calls Try.prog 72 #[gf y a b c d p g i k h l m] w fun e w' => e = .returned (.int .i64 n) ∧ Below w.heap.size w w')
    : Calls Try.prog 46 #[.int .i64 y] W fun e w' => e = .returned (.int .i64 n) ∧ Below W.heap.size W w' := by
  go_enter Try.func46, Try.ntmps46
  go_wp2_with fail
  refine (gcomb _ _ _ _ _ _ _ _ y a b c d p g i k h l m _ (heap_alloc_new _ _) Try.call67 H1 Try.call68 H2 Try.call69 H3 Try.call70 H4 Try.call71 H5).mono ?_
  rintro e w1 ⟨rfl, hb1⟩
  go_wp2_with fail
  refine (HN _).mono ?_
  rintro e w2 ⟨rfl, hb2⟩
  go_wp2_with fail
  go_ret
  exact ⟨rfl, below_on (below_on ((Below.refl _ _).alloc (Nat.le_refl _) _) hb1) hb2⟩
theorem bnumj (y : Int) (W : World) (y1 : 1 ≤ y) (y2 : y ≤ 1000000000) : Calls Try.prog 45 #[.int .i64 y] W fun e w' => e = .returned (.int .i64 (bN 1 y)) ∧ Below W.heap.size W w' := by
  have H1 := fun w => jsplit y _ _ _ (y % 4) (y % 7) (y % 19) w (fun w => bdiv y 4 w (by omega) (by omega) (by omega)) (fun w => bdiv y 7 w (by omega) (by omega) (by omega)) (fun w => bdiv y 19 w (by omega) (by omega) (by omega))
  have dv2 := fun w => bdiv (19 * (y % 19) + 15) 30 w (by omega) (by omega) (by omega)
  rw [b_jul_d] at dv2
  obtain ⟨d1, d2⟩ := uD_bd 1 y
  obtain ⟨f1, f2⟩ := uE_bd 1 y
  have dv3 := fun w => bdiv (2 * (y % 4) + 4 * (y % 7) - uD 1 y + 34) 7 w (by omega) (by omega) (by omega)
  rw [b_jul_e] at dv3
  have HN := fun w => jnum y (y % 4) (y % 7) (y % 19) (uD 1 y) (uE 1 y) w d1 d2 f1 f2
  rw [b_jul_n] at HN
  exact bnumj0 y _ _ _ _ _ _ W H1 (fun w => jmoon y _ _ _ _ _ w (by omega) (by omega) dv2) (fun w => jsun y _ _ _ _ _ _ w (by omega) (by omega) (by omega) (by omega) d1 d2 dv3) HN
theorem bnumg (y : Int) (W : World) (y1 : 1 ≤ y) (y2 : y ≤ 1000000000) : Calls Try.prog 46 #[.int .i64 y] W fun e w' => e = .returned (.int .i64 (bN 2 y)) ∧ Below W.heap.size W w' := by
  have h100 : 0 ≤ y / 100 ∧ y / 100 ≤ 10000000 := by omega
  have H1 := fun w => gsplit y _ (y % 19) (y / 100) (y % 100) (y / 100 / 4) (y / 100 % 4) (y % 100 / 4) (y % 100 % 4) w (fun w => bdiv y 19 w (by omega) (by omega) (by omega)) (fun w => bdiv y 100 w (by omega) (by omega) (by omega)) (fun w => bdiv (y / 100) 4 w (by omega) (by omega) (by omega)) (fun w => bdiv (y % 100) 4 w (by omega) (by omega) (by omega))
  have dv2 := fun w => bdiv (y / 100 + 8) 25 w (by omega) (by omega) (by omega)
  have dv3 := fun w => bdiv (y / 100 - (y / 100 + 8) / 25 + 1) 3 w (by omega) (by omega) (by omega)
  have dv4 := fun w => bdiv (19 * (y % 19) + y / 100 - y / 100 / 4 - (y / 100 - (y / 100 + 8) / 25 + 1) / 3 + 15) 30 w (by omega) (by omega) (by omega)
  rw [b_greg_h] at dv4
  obtain ⟨d1, d2⟩ := uD_bd 2 y
  obtain ⟨f1, f2⟩ := uE_bd 2 y
  have dv5 := fun w => bdiv (32 + 2 * (y / 100 % 4) + 2 * (y % 100 / 4) - uD 2 y - y % 100 % 4) 7 w (by omega) (by omega) (by omega)
  rw [b_greg_l] at dv5
  have dv6 := fun w => bdiv (y % 19 + 11 * uD 2 y + 22 * uE 2 y) 451 w (by omega) (by omega) (by omega)
  have HN := fun w => gnum y (y % 19) (y / 100) (y % 100) (y / 100 / 4) (y / 100 % 4) ((y / 100 - (y / 100 + 8) / 25 + 1) / 3) (y % 100 / 4) (y % 100 % 4) (uD 2 y) (uE 2 y) ((y % 19 + 11 * uD 2 y + 22 * uE 2 y) / 451) w d1 d2 f1 f2 (by omega) (by omega)
  rw [b_greg_n] at HN
  exact bnumg0 y _ _ _ _ _ _ _ _ _ _ _ _ W H1 (fun w => gcorr y _ _ _ _ _ _ _ _ _ _ _ w h100.1 h100.2 (by omega) (by omega) dv2 dv3) (fun w => gmoon y _ _ _ _ _ _ _ _ _ _ w (by omega) (by omega) h100.1 h100.2 (by omega) (by omega) (by omega) (by omega) dv4) (fun w => gsun y _ _ _ _ _ _ _ _ _ _ _ w (by omega) (by omega) (by omega) (by omega) (by omega) (by omega) d1 d2 dv5) (fun w => gweek y _ _ _ _ _ _ _ _ _ _ _ _ w (by omega) (by omega) d1 d2 f1 f2 dv6) HN
theorem bn1 (y n : Int) (W : World) (y1 : 1 ≤ y) (y2 : y ≤ 1000000000) (H : ∀ w, Calls Try.prog 45 #[.int .i64 y] w fun e w' => e = .returned (.int .i64 n) ∧ Below w.heap.size w w') : Calls Try.prog 36 #[.int .i64 1, .int .i64 y] W fun e w' => e = .returned (numv n 0) ∧ Below W.heap.size W w' := by
  go_enter Try.func36, Try.ntmps36
  go_wp2_with fail
  refine (H _).mono ?_
  rintro e w1 ⟨rfl, hb1⟩
  go_wp2_with fail
  go_ret2
  exact ⟨rfl, hb1⟩
theorem bn2 (y n : Int) (W : World) (y1 : 1583 ≤ y) (y2 : y ≤ 1000000000) (H : ∀ w, Calls Try.prog 46 #[.int .i64 y] w fun e w' => e = .returned (.int .i64 n) ∧ Below w.heap.size w w') : Calls Try.prog 36 #[.int .i64 2, .int .i64 y] W fun e w' => e = .returned (numv n 0) ∧ Below W.heap.size W w' := by
  go_enter Try.func36, Try.ntmps36
  go_wp2_with fail
  refine (H _).mono ?_
  rintro e w1 ⟨rfl, hb1⟩
  go_wp2_with fail
  go_ret2
  exact ⟨rfl, hb1⟩
theorem bnum_any (c y : Int) (W : World) (h : epE c y = 0) : Calls Try.prog 36 #[.int .i64 c, .int .i64 y] W fun e w' => e = .returned (numv (bN c y) 0) ∧ Below W.heap.size W w' := by
  obtain ⟨y1, y2⟩ := epE_inY h
  rcases (epE_zero h).1 with rfl | rfl
  · exact bn1 y _ W y1 y2 (fun w => bnumj y w y1 y2)
  · have hg : inG y = true := by
      cases hq : inG y
      · have e9 : epE 2 y = eB (inG y) := rfl
        rw [e9, hq] at h; cases h
      · rfl
    have := inG_iff.1 hg
    exact bn2 y _ W this.1 y2 (fun w => bnumg y w y1 y2)
end Go.Proofs.Ytnaglaecoephnaa

namespace Go.Proofs.Ytnaglaecoephnaa
open Go.RowKit

/-- Three dates in memory, all the same. -/
def Tre (W : World) (b1 b2 b3 : Nat) (y p q : Int) (u : World) : Prop := u.cell? ⟨b1, 0, none⟩ = some (.int .i64 y) ∧ u.cell? ⟨b1, 1, none⟩ = some (.int .i64 p) ∧ u.cell? ⟨b1, 2, none⟩ = some (.int .i64 q) ∧ u.cell? ⟨b2, 0, none⟩ = some (.int .i64 y) ∧ u.cell? ⟨b2, 1, none⟩ = some (.int .i64 p) ∧ u.cell? ⟨b2, 2, none⟩ = some (.int .i64 q) ∧ u.cell? ⟨b3, 0, none⟩ = some (.int .i64 y) ∧ u.cell? ⟨b3, 1, none⟩ = some (.int .i64 p) ∧ u.cell? ⟨b3, 2, none⟩ = some (.int .i64 q) ∧ Below W.heap.size W u
theorem Tre.on {W : World} {b1 b2 b3 : Nat} {y p q : Int} {u u' : World} (h : Tre W b1 b2 b3 y p q u) (hb : Below u.heap.size u u') : Tre W b1 b2 b3 y p q u' := by
  obtain ⟨a0, a1, a2, a3, a4, a5, a6, a7, a8, z⟩ := h
  exact ⟨cell_below a0 hb, cell_below a1 hb, cell_below a2 hb, cell_below a3 hb, cell_below a4 hb, cell_below a5 hb, cell_below a6 hb, cell_below a7 hb, cell_below a8 hb, below_on z hb⟩
theorem Tre.drew {W : World} {b1 b2 b3 : Nat} {y p q : Int} {u : World} (h : Tre W b1 b2 b3 y p q u) : Tre W b1 b2 b3 y p q u.drew := h.on (below_dn (Below.refl _ _) 1)
end Go.Proofs.Ytnaglaecoephnaa
