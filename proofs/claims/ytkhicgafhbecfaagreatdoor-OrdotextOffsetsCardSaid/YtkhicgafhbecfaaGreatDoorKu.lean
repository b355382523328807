/- What earlier stages proved: Ua Ub Uc Ud Ue Uz. -/
import Derived.Test.YtkhicgafhbecfaaGreatDoorKe
import Derived.Test.YtkhicgafhbecfaaGreatDoorKp
import Derived.Test.YtkhicgafhbecfaaGreatDoorKa
import Derived.Test.YtkhicgafhbecfaaGreatDoorKc
import Derived.Test.YtkhicgafhbecfaaGreatDoorKr
import Derived.Test.YtkhicgafhbecfaaGreatDoorKs
namespace Go.Proofs.YtkhicgafhbecfaaGreatDoor

/-- The numbers of the method of Gauss. -/
def uM (c y : Int) : Int := if c = 1 then 15 else (15 - (13 + 8 * (y / 100)) / 25 + y / 100 - y / 100 / 4) % 30
def uN (c y : Int) : Int := if c = 1 then 6 else (4 + y / 100 - y / 100 / 4) % 7
def uD (c y : Int) : Int := (19 * (y % 19) + uM c y) % 30
def uE (c y : Int) : Int := (2 * (y % 4) + 4 * (y % 7) + 6 * uD c y + uN c y) % 7
def uX (c y : Int) : Int := if c = 1 then 0 else if uE c y = 6 then (if uD c y = 29 then 1 else if uD c y = 28 ∧ (11 * uM c y + 11) % 30 < 19 then 2 else 0) else 0
/-- How many days behind 21 March Easter is by the method. -/
def uO (c y : Int) : Int := if uX c y = 1 then 29 else if uX c y = 2 then 28 else uD c y + uE c y + 1
theorem uM_bd (c y : Int) : 0 ≤ uM c y ∧ uM c y ≤ 29 := by unfold uM; split <;> omega
theorem uN_bd (c y : Int) : 0 ≤ uN c y ∧ uN c y ≤ 6 := by unfold uN; split <;> omega
theorem uD_bd (c y : Int) : 0 ≤ uD c y ∧ uD c y ≤ 29 := by unfold uD; omega
theorem uE_bd (c y : Int) : 0 ≤ uE c y ∧ uE c y ≤ 6 := by unfold uE; omega
theorem uX_cases (c y : Int) : (uX c y = 1 ∧ ¬ c = 1 ∧ uE c y = 6 ∧ uD c y = 29) ∨ (uX c y = 2 ∧ ¬ c = 1 ∧ uE c y = 6 ∧ uD c y = 28 ∧ (11 * uM c y + 11) % 30 < 19) ∨ (uX c y = 0 ∧ (c = 1 ∨ ¬ uE c y = 6 ∨ (¬ uD c y = 29 ∧ ¬ (uD c y = 28 ∧ (11 * uM c y + 11) % 30 < 19)))) := by
  unfold uX
  by_cases h1 : c = 1
  · rw [if_pos h1]; exact Or.inr (Or.inr ⟨rfl, Or.inl h1⟩)
  · rw [if_neg h1]
    by_cases h6 : uE c y = 6
    · rw [if_pos h6]
      by_cases h29 : uD c y = 29
      · rw [if_pos h29]; exact Or.inl ⟨rfl, h1, h6, h29⟩
      · rw [if_neg h29]
        by_cases hv : uD c y = 28 ∧ (11 * uM c y + 11) % 30 < 19
        · rw [if_pos hv]; exact Or.inr (Or.inl ⟨rfl, h1, h6, hv⟩)
        · rw [if_neg hv]; exact Or.inr (Or.inr ⟨rfl, Or.inr (Or.inr ⟨h29, hv⟩)⟩)
    · rw [if_neg h6]; exact Or.inr (Or.inr ⟨rfl, Or.inr (Or.inl h6)⟩)
theorem jul_ep (y : Int) : ¬ uD 1 y = 29 ∧ (uD 1 y = 28 → ¬ 11 < gold y) := by
  unfold uD uM gold
  simp only [if_true]
  have : y % 19 < 19 := by omega
  have : 0 ≤ y % 19 := by omega
  generalize y % 19 = a at *
  omega
end Go.Proofs.YtkhicgafhbecfaaGreatDoor

namespace Go.Proofs.YtkhicgafhbecfaaGreatDoor
open Go.RowKit

theorem row5 {w : World} {b t : Nat} {a0 a1 a2 a3 a4 : Value} (h : w.heap[b]? = some (.cells #[a0, a1, a2, a3, a4] t (0, 0))) :
    w.cell? ⟨b, 0, none⟩ = some a0 ∧ w.cell? ⟨b, 1, none⟩ = some a1 ∧ w.cell? ⟨b, 2, none⟩ = some a2 ∧ w.cell? ⟨b, 3, none⟩ = some a3 ∧ w.cell? ⟨b, 4, none⟩ = some a4 ∧
    w.frozen? ⟨b, 0, none⟩ = false ∧ w.frozen? ⟨b, 1, none⟩ = false ∧ w.frozen? ⟨b, 2, none⟩ = false ∧ w.frozen? ⟨b, 3, none⟩ = false ∧ w.frozen? ⟨b, 4, none⟩ = false ∧ b < w.heap.size := by
  have h0 : w.cell? ⟨b, 0, none⟩ = some a0 := by rw [cell_of_row w b 0 _ _ _ h]; rfl
  exact ⟨h0, by rw [cell_of_row w b 1 _ _ _ h]; rfl, by rw [cell_of_row w b 2 _ _ _ h]; rfl, by rw [cell_of_row w b 3 _ _ _ h]; rfl, by rw [cell_of_row w b 4 _ _ _ h]; rfl,
    frozen_of_row w b 0 _ _ h, frozen_of_row w b 1 _ _ h, frozen_of_row w b 2 _ _ h, frozen_of_row w b 3 _ _ h, frozen_of_row w b 4 _ _ h, World.block_lt_of_cell? w _ h0⟩
theorem row7 {w : World} {b t : Nat} {a0 a1 a2 a3 a4 a5 a6 : Value} (h : w.heap[b]? = some (.cells #[a0, a1, a2, a3, a4, a5, a6] t (0, 0))) :
    w.cell? ⟨b, 0, none⟩ = some a0 ∧ w.cell? ⟨b, 1, none⟩ = some a1 ∧ w.cell? ⟨b, 2, none⟩ = some a2 ∧ w.cell? ⟨b, 3, none⟩ = some a3 ∧ w.cell? ⟨b, 4, none⟩ = some a4 ∧ w.cell? ⟨b, 5, none⟩ = some a5 ∧ w.cell? ⟨b, 6, none⟩ = some a6 ∧
    w.frozen? ⟨b, 0, none⟩ = false ∧ w.frozen? ⟨b, 1, none⟩ = false ∧ w.frozen? ⟨b, 2, none⟩ = false ∧ w.frozen? ⟨b, 3, none⟩ = false ∧ w.frozen? ⟨b, 4, none⟩ = false ∧ w.frozen? ⟨b, 5, none⟩ = false ∧ w.frozen? ⟨b, 6, none⟩ = false ∧ b < w.heap.size := by
  have h0 : w.cell? ⟨b, 0, none⟩ = some a0 := by rw [cell_of_row w b 0 _ _ _ h]; rfl
  exact ⟨h0, by rw [cell_of_row w b 1 _ _ _ h]; rfl, by rw [cell_of_row w b 2 _ _ _ h]; rfl, by rw [cell_of_row w b 3 _ _ _ h]; rfl, by rw [cell_of_row w b 4 _ _ _ h]; rfl, by rw [cell_of_row w b 5 _ _ _ h]; rfl, by rw [cell_of_row w b 6 _ _ _ h]; rfl,
    frozen_of_row w b 0 _ _ h, frozen_of_row w b 1 _ _ h, frozen_of_row w b 2 _ _ h, frozen_of_row w b 3 _ _ h, frozen_of_row w b 4 _ _ h, frozen_of_row w b 5 _ _ h, frozen_of_row w b 6 _ _ h, World.block_lt_of_cell? w _ h0⟩
/-- A struct of 5 cells, each written: what the cells hold then; and what lies below is as it was. -/
theorem five_set {W w1 : World} {b t : Nat} {a0 a1 a2 a3 a4 : Value} (x0 x1 x2 x3 x4 : Value) (h : w1.heap[b]? = some (.cells #[a0, a1, a2, a3, a4] t (0, 0))) (hB : Below W.heap.size W w1) (hb : W.heap.size ≤ b) {u : World} (hu : (((((w1.setCell ⟨b, 0, none⟩ x0).setCell ⟨b, 1, none⟩ x1).setCell ⟨b, 2, none⟩ x2).setCell ⟨b, 3, none⟩ x3).setCell ⟨b, 4, none⟩ x4) = u) :
    u.cell? ⟨b, 0, none⟩ = some x0 ∧ u.cell? ⟨b, 1, none⟩ = some x1 ∧ u.cell? ⟨b, 2, none⟩ = some x2 ∧ u.cell? ⟨b, 3, none⟩ = some x3 ∧ u.cell? ⟨b, 4, none⟩ = some x4 ∧ Below W.heap.size W u := by
  have r0 : (w1.setCell ⟨b, 0, none⟩ x0).heap[b]? = some (.cells #[x0, a1, a2, a3, a4] t (0, 0)) := heap_setCell_same _ b 0 _ _ x0 h
  have s0 := hB.setCell (p := ⟨b, 0, none⟩) hb x0
  have r1 : ((w1.setCell ⟨b, 0, none⟩ x0).setCell ⟨b, 1, none⟩ x1).heap[b]? = some (.cells #[x0, x1, a2, a3, a4] t (0, 0)) := heap_setCell_same _ b 1 _ _ x1 r0
  have s1 := s0.setCell (p := ⟨b, 1, none⟩) hb x1
  have r2 : (((w1.setCell ⟨b, 0, none⟩ x0).setCell ⟨b, 1, none⟩ x1).setCell ⟨b, 2, none⟩ x2).heap[b]? = some (.cells #[x0, x1, x2, a3, a4] t (0, 0)) := heap_setCell_same _ b 2 _ _ x2 r1
  have s2 := s1.setCell (p := ⟨b, 2, none⟩) hb x2
  have r3 : ((((w1.setCell ⟨b, 0, none⟩ x0).setCell ⟨b, 1, none⟩ x1).setCell ⟨b, 2, none⟩ x2).setCell ⟨b, 3, none⟩ x3).heap[b]? = some (.cells #[x0, x1, x2, x3, a4] t (0, 0)) := heap_setCell_same _ b 3 _ _ x3 r2
  have s3 := s2.setCell (p := ⟨b, 3, none⟩) hb x3
  have r4 : (((((w1.setCell ⟨b, 0, none⟩ x0).setCell ⟨b, 1, none⟩ x1).setCell ⟨b, 2, none⟩ x2).setCell ⟨b, 3, none⟩ x3).setCell ⟨b, 4, none⟩ x4).heap[b]? = some (.cells #[x0, x1, x2, x3, x4] t (0, 0)) := heap_setCell_same _ b 4 _ _ x4 r3
  have s4 := s3.setCell (p := ⟨b, 4, none⟩) hb x4
  rw [hu] at r4 s4
  refine ⟨?_, ?_, ?_, ?_, ?_, s4⟩
  · rw [cell_of_row u b 0 _ _ _ r4]; rfl
  · rw [cell_of_row u b 1 _ _ _ r4]; rfl
  · rw [cell_of_row u b 2 _ _ _ r4]; rfl
  · rw [cell_of_row u b 3 _ _ _ r4]; rfl
  · rw [cell_of_row u b 4 _ _ _ r4]; rfl
/-- A struct of 7 cells, each written: what the cells hold then; and what lies below is as it was. -/
theorem seven_set {W w1 : World} {b t : Nat} {a0 a1 a2 a3 a4 a5 a6 : Value} (x0 x1 x2 x3 x4 x5 x6 : Value) (h : w1.heap[b]? = some (.cells #[a0, a1, a2, a3, a4, a5, a6] t (0, 0))) (hB : Below W.heap.size W w1) (hb : W.heap.size ≤ b) {u : World} (hu : (((((((w1.setCell ⟨b, 0, none⟩ x0).setCell ⟨b, 1, none⟩ x1).setCell ⟨b, 2, none⟩ x2).setCell ⟨b, 3, none⟩ x3).setCell ⟨b, 4, none⟩ x4).setCell ⟨b, 5, none⟩ x5).setCell ⟨b, 6, none⟩ x6) = u) :
    u.cell? ⟨b, 0, none⟩ = some x0 ∧ u.cell? ⟨b, 1, none⟩ = some x1 ∧ u.cell? ⟨b, 2, none⟩ = some x2 ∧ u.cell? ⟨b, 3, none⟩ = some x3 ∧ u.cell? ⟨b, 4, none⟩ = some x4 ∧ u.cell? ⟨b, 5, none⟩ = some x5 ∧ u.cell? ⟨b, 6, none⟩ = some x6 ∧ Below W.heap.size W u := by
  have r0 : (w1.setCell ⟨b, 0, none⟩ x0).heap[b]? = some (.cells #[x0, a1, a2, a3, a4, a5, a6] t (0, 0)) := heap_setCell_same _ b 0 _ _ x0 h
  have s0 := hB.setCell (p := ⟨b, 0, none⟩) hb x0
  have r1 : ((w1.setCell ⟨b, 0, none⟩ x0).setCell ⟨b, 1, none⟩ x1).heap[b]? = some (.cells #[x0, x1, a2, a3, a4, a5, a6] t (0, 0)) := heap_setCell_same _ b 1 _ _ x1 r0
  have s1 := s0.setCell (p := ⟨b, 1, none⟩) hb x1
  have r2 : (((w1.setCell ⟨b, 0, none⟩ x0).setCell ⟨b, 1, none⟩ x1).setCell ⟨b, 2, none⟩ x2).heap[b]? = some (.cells #[x0, x1, x2, a3, a4, a5, a6] t (0, 0)) := heap_setCell_same _ b 2 _ _ x2 r1
  have s2 := s1.setCell (p := ⟨b, 2, none⟩) hb x2
  have r3 : ((((w1.setCell ⟨b, 0, none⟩ x0).setCell ⟨b, 1, none⟩ x1).setCell ⟨b, 2, none⟩ x2).setCell ⟨b, 3, none⟩ x3).heap[b]? = some (.cells #[x0, x1, x2, x3, a4, a5, a6] t (0, 0)) := heap_setCell_same _ b 3 _ _ x3 r2
  have s3 := s2.setCell (p := ⟨b, 3, none⟩) hb x3
  have r4 : (((((w1.setCell ⟨b, 0, none⟩ x0).setCell ⟨b, 1, none⟩ x1).setCell ⟨b, 2, none⟩ x2).setCell ⟨b, 3, none⟩ x3).setCell ⟨b, 4, none⟩ x4).heap[b]? = some (.cells #[x0, x1, x2, x3, x4, a5, a6] t (0, 0)) := heap_setCell_same _ b 4 _ _ x4 r3
  have s4 := s3.setCell (p := ⟨b, 4, none⟩) hb x4
  have r5 : ((((((w1.setCell ⟨b, 0, none⟩ x0).setCell ⟨b, 1, none⟩ x1).setCell ⟨b, 2, none⟩ x2).setCell ⟨b, 3, none⟩ x3).setCell ⟨b, 4, none⟩ x4).setCell ⟨b, 5, none⟩ x5).heap[b]? = some (.cells #[x0, x1, x2, x3, x4, x5, a6] t (0, 0)) := heap_setCell_same _ b 5 _ _ x5 r4
  have s5 := s4.setCell (p := ⟨b, 5, none⟩) hb x5
  have r6 : (((((((w1.setCell ⟨b, 0, none⟩ x0).setCell ⟨b, 1, none⟩ x1).setCell ⟨b, 2, none⟩ x2).setCell ⟨b, 3, none⟩ x3).setCell ⟨b, 4, none⟩ x4).setCell ⟨b, 5, none⟩ x5).setCell ⟨b, 6, none⟩ x6).heap[b]? = some (.cells #[x0, x1, x2, x3, x4, x5, x6] t (0, 0)) := heap_setCell_same _ b 6 _ _ x6 r5
  have s6 := s5.setCell (p := ⟨b, 6, none⟩) hb x6
  rw [hu] at r6 s6
  refine ⟨?_, ?_, ?_, ?_, ?_, ?_, ?_, s6⟩
  · rw [cell_of_row u b 0 _ _ _ r6]; rfl
  · rw [cell_of_row u b 1 _ _ _ r6]; rfl
  · rw [cell_of_row u b 2 _ _ _ r6]; rfl
  · rw [cell_of_row u b 3 _ _ _ r6]; rfl
  · rw [cell_of_row u b 4 _ _ _ r6]; rfl
  · rw [cell_of_row u b 5 _ _ _ r6]; rfl
  · rw [cell_of_row u b 6 _ _ _ r6]; rfl
/-- The same, and a block made before or behind. -/
theorem five_al {W w1 : World} {b t : Nat} {a0 a1 a2 a3 a4 : Value} {o : Obj} (x0 x1 x2 x3 x4 : Value) (h : w1.heap[b]? = some (.cells #[a0, a1, a2, a3, a4] t (0, 0))) (hB : Below W.heap.size W w1) (hb : W.heap.size ≤ b) {u : World} (hu : (((((w1.setCell ⟨b, 0, none⟩ x0).setCell ⟨b, 1, none⟩ x1).setCell ⟨b, 2, none⟩ x2).setCell ⟨b, 3, none⟩ x3).setCell ⟨b, 4, none⟩ x4).alloc o = u) :
    u.cell? ⟨b, 0, none⟩ = some x0 ∧ u.cell? ⟨b, 1, none⟩ = some x1 ∧ u.cell? ⟨b, 2, none⟩ = some x2 ∧ u.cell? ⟨b, 3, none⟩ = some x3 ∧ u.cell? ⟨b, 4, none⟩ = some x4 ∧ Below W.heap.size W u := by
  obtain ⟨k0, k1, k2, k3, k4, kb⟩ := five_set x0 x1 x2 x3 x4 h hB hb rfl
  subst hu
  have hl : ∀ v : World, Below v.heap.size v (v.alloc o) := fun v => (Below.refl v.heap.size v).alloc (Nat.le_refl _) o
  exact ⟨cell_below k0 (hl _), cell_below k1 (hl _), cell_below k2 (hl _), cell_below k3 (hl _), cell_below k4 (hl _), below_on kb (hl _)⟩
end Go.Proofs.YtkhicgafhbecfaaGreatDoor

namespace Go.Proofs.YtkhicgafhbecfaaGreatDoor
open Go.RowKit

section
variable (c y : Int) (w : World)
end
theorem uM2 (y : Int) : uM 2 y = (15 - (13 + 8 * (y / 100)) / 25 + y / 100 - y / 100 / 4) % 30 := by unfold uM; rw [if_neg (by omega)]
theorem uN2 (y : Int) : uN 2 y = (4 + y / 100 - y / 100 / 4) % 7 := by unfold uN; rw [if_neg (by omega)]
section
variable (M N D E X c y : Int) (b : Nat) (w : World)
end
theorem uX_val (c y : Int) (hc : c = 1 ∨ c = 2) : (c = 1 ∧ uX c y = 0) ∨ (c = 2 ∧ ¬ uE c y = 6 ∧ uX c y = 0) ∨ (c = 2 ∧ uE c y = 6 ∧ uD c y = 29 ∧ uX c y = 1) ∨ (c = 2 ∧ uE c y = 6 ∧ uD c y = 28 ∧ (11 * uM c y + 11) % 30 < 19 ∧ uX c y = 2) ∨ (c = 2 ∧ uE c y = 6 ∧ uD c y = 28 ∧ ¬ (11 * uM c y + 11) % 30 < 19 ∧ uX c y = 0) ∨ (c = 2 ∧ uE c y = 6 ∧ ¬ uD c y = 29 ∧ ¬ uD c y = 28 ∧ uX c y = 0) := by
  rcases uX_cases c y with ⟨a1, a2, a3, a4⟩ | ⟨a1, a2, a3, a4, a5⟩ | ⟨a1, a2⟩
  · exact Or.inr (Or.inr (Or.inl ⟨by omega, a3, a4, a1⟩))
  · exact Or.inr (Or.inr (Or.inr (Or.inl ⟨by omega, a3, a4, a5, a1⟩)))
  · rcases hc with h | h
    · exact Or.inl ⟨h, a1⟩
    · rcases a2 with h1 | h6 | ⟨n29, nv⟩
      · omega
      · exact Or.inr (Or.inl ⟨h, h6, a1⟩)
      · by_cases e6 : uE c y = 6
        · by_cases d28 : uD c y = 28
          · exact Or.inr (Or.inr (Or.inr (Or.inr (Or.inl ⟨h, e6, d28, fun z => nv ⟨d28, z⟩, a1⟩))))
          · exact Or.inr (Or.inr (Or.inr (Or.inr (Or.inr ⟨h, e6, n29, d28, a1⟩))))
        · exact Or.inr (Or.inl ⟨h, e6, a1⟩)
/-- The values of a computation and of the steps with an error. -/
abbrev stv (M N D E X k : Int) : Value := .tuple #[.agg #[.int .i64 M, .int .i64 N, .int .i64 D, .int .i64 E, .int .i64 X], .int .i64 k]
abbrev cpv (M N D E X c y : Int) : Value := .agg #[.int .i64 M, .int .i64 N, .int .i64 D, .int .i64 E, .int .i64 X, .int .i64 c, .int .i64 y]
section
variable (c y : Int) (W : World)
end
section
variable (M N D E c y : Int) (b : Nat) (w : World)
end
theorem marM_u (k : Int) : marM k = if 21 + k ≤ 31 then 3 else 4 := by unfold marM; split <;> split <;> omega
theorem marD_u (k : Int) : marD k = if 21 + k ≤ 31 then 21 + k else 21 + k - 31 := by unfold marD; split <;> split <;> omega
section
variable (c y : Int) (W : World)
end
end Go.Proofs.YtkhicgafhbecfaaGreatDoor

namespace Go.Proofs.YtkhicgafhbecfaaGreatDoor
open Go.RowKit

abbrev rsv (M N D E X : Int) : Value := .agg #[.int .i64 M, .int .i64 N, .int .i64 D, .int .i64 E, .int .i64 X]
section
variable (y : Int) (W : World)
end
section
variable (c y : Int) (W : World)
end
end Go.Proofs.YtkhicgafhbecfaaGreatDoor

namespace Go.Proofs.YtkhicgafhbecfaaGreatDoor
open Go.RowKit

/-- What was in memory is as it was. -/
structure Bst (W w : World) : Prop where
  b : Below W.heap.size W w
theorem Bst.start (W : World) : Bst W W := ⟨Below.refl _ _⟩
theorem Bst.on {W w w' : World} (h : Bst W w) (hb : Below w.heap.size w w') : Bst W w' := ⟨below_on h.b hb⟩
theorem Bst.al {W w : World} (h : Bst W w) (o : Obj) : Bst W (w.alloc o) := h.on ((Below.refl w.heap.size w).alloc (Nat.le_refl _) o)
theorem eq3 (y m d : Int) (w : World) : (binOp .eql 37 (dtv y m d) (dtv y m d)).run Tryz.prog w = .ok (.bool true) w := by simp [go_sem]
/-- Two structs of five cells and one of three between them, in memory. -/
def Thr (W : World) (bS bD bT : Nat) (m n d f x y p q : Int) (u : World) : Prop := u.cell? ⟨bS, 0, none⟩ = some (.int .i64 m) ∧ u.cell? ⟨bS, 1, none⟩ = some (.int .i64 n) ∧ u.cell? ⟨bS, 2, none⟩ = some (.int .i64 d) ∧ u.cell? ⟨bS, 3, none⟩ = some (.int .i64 f) ∧ u.cell? ⟨bS, 4, none⟩ = some (.int .i64 x) ∧ u.cell? ⟨bD, 0, none⟩ = some (.int .i64 y) ∧ u.cell? ⟨bD, 1, none⟩ = some (.int .i64 p) ∧ u.cell? ⟨bD, 2, none⟩ = some (.int .i64 q) ∧ u.cell? ⟨bT, 0, none⟩ = some (.int .i64 m) ∧ u.cell? ⟨bT, 1, none⟩ = some (.int .i64 n) ∧ u.cell? ⟨bT, 2, none⟩ = some (.int .i64 d) ∧ u.cell? ⟨bT, 3, none⟩ = some (.int .i64 f) ∧ u.cell? ⟨bT, 4, none⟩ = some (.int .i64 x) ∧ Below W.heap.size W u
theorem Thr.on {W : World} {bS bD bT : Nat} {m n d f x y p q : Int} {u u' : World} (h : Thr W bS bD bT m n d f x y p q u) (hb : Below u.heap.size u u') : Thr W bS bD bT m n d f x y p q u' := by
  obtain ⟨a0, a1, a2, a3, a4, a5, a6, a7, a8, a9, a10, a11, a12, z⟩ := h
  exact ⟨cell_below a0 hb, cell_below a1 hb, cell_below a2 hb, cell_below a3 hb, cell_below a4 hb, cell_below a5 hb, cell_below a6 hb, cell_below a7 hb, cell_below a8 hb, cell_below a9 hb, cell_below a10 hb, cell_below a11 hb, cell_below a12 hb, below_on z hb⟩
theorem Thr.drew {W : World} {bS bD bT : Nat} {m n d f x y p q : Int} {u : World} (h : Thr W bS bD bT m n d f x y p q u) : Thr W bS bD bT m n d f x y p q u.drew := h.on (below_dn (Below.refl _ _) 1)
end Go.Proofs.YtkhicgafhbecfaaGreatDoor

namespace Go.Proofs.YtkhicgafhbecfaaGreatDoor

theorem u_week {c y : Int} (hc : c = 1 ∨ c = 2) : (uE c y + uD c y + marN c y) % 7 = 6 := by
  have hd : uE c y = (2 * (y % 4) + 4 * (y % 7) + 6 * uD c y + uN c y) % 7 := rfl
  rw [hd]
  generalize uD c y = d
  rcases hc with rfl | rfl
  · have hm : marN 1 y = -1 + (y - 1) * 365 + (y - 1) / 4 + 59 + l01 (jlp y) + 20 := by
      show jfst y + cum (jlp y) 3 + 21 - 1 = _
      unfold jfst cum; rw [if_neg (by omega)]; omega
    have hl : l01 (jlp y) = y / 4 - (y - 1) / 4 := by
      unfold jlp
      by_cases h : y % 4 = 0
      · rw [decide_eq_true h]; show 1 = _; omega
      · rw [decide_eq_false h]; show 0 = _; omega
    have hm2 : marN 1 y = y * 365 - 287 + y / 4 := by rw [hm, hl]; omega
    rw [hm2, show uN 1 y = 6 from rfl]
    clear hm hl hm2 hd
    omega
  · have hm : marN 2 y = 1 + (y - 1) * 365 + ((y - 1) / 4 - (y - 1) / 100 + (y - 1) / 400) + 59 + l01 (glp y) + 20 := by
      show gfst y + cum (glp y) 3 + 21 - 1 = _
      unfold gfst cum; rw [if_neg (by omega)]; omega
    have hs := gstep y
    unfold gfst at hs
    have e : (y + 1 - 1 : Int) = y := by omega
    rw [e] at hs
    have hl : l01 (glp y) = y / 4 - y / 100 + y / 400 - ((y - 1) / 4 - (y - 1) / 100 + (y - 1) / 400) := by omega
    have hn : uN 2 y = (4 + y / 100 - y / 100 / 4) % 7 := rfl
    have hq : y / 400 = y / 100 / 4 := by omega
    have hm2 : marN 2 y = y * 365 - 285 + y / 4 - y / 100 + y / 100 / 4 := by rw [hm, hl, hq]; omega
    rw [hm2, hn]
    clear hm hl hs hm2 hq hd hn e
    generalize y / 100 / 4 = q
    generalize y / 100 = k
    omega
theorem u_dist {c y : Int} (hc : c = 1 ∨ c = 2) : (uD c y + epF c y - 23) % 30 = 0 := by
  unfold uD epF
  rcases hc with rfl | rfl
  · unfold epJ uM gold; simp only [if_true]; omega
  · unfold epG uM gold solr lunr cent
    rw [if_neg (by omega), if_neg (by omega)]
    have hq : 3 * (y / 100 + 1) / 4 = y / 100 - y / 100 / 4 := by
      generalize y / 100 = k
      omega
    have hp : (8 * (y / 100 + 1) + 5) / 25 = (13 + 8 * (y / 100)) / 25 := by congr 1; omega
    rw [hq, hp]
    omega
/-- The condition of the second exception is that of the label's variant. -/
theorem u_two {c y : Int} (hd : uD c y = 28) : ((11 * uM c y + 11) % 30 < 19) ↔ 11 < gold y := by
  unfold uD at hd
  unfold gold
  generalize uM c y = m at *
  have : y % 19 < 19 := by omega
  have : 0 ≤ y % 19 := by omega
  generalize y % 19 = a at *
  have : (11 * m + 11) % 30 = (19 + a) % 30 := by
    obtain ⟨t, ht⟩ : ∃ t, m = 28 - 19 * a + 30 * t := ⟨(19 * a + m) / 30, by omega⟩
    omega
  omega
theorem u_ep {c y : Int} (hc : c = 1 ∨ c = 2) : epc c y = if uD c y ≤ 22 then 23 - uD c y else 53 - uD c y := by
  have h := u_dist (y := y) hc
  have hb := uD_bd c y
  have h2 := ep30_bd (epF c y)
  have h3 := ep30_mod (epF c y)
  show ep30 (epF c y) = _
  split <;> omega
/-- How far behind 21 March the full moon is, by D. -/
theorem u_off {c y : Int} (hc : c = 1 ∨ c = 2) : (off (lab c y) : Int) = if uD c y = 29 then 28 else if uD c y = 28 ∧ 11 < gold y then 27 else uD c y := by
  have he := u_ep (y := y) hc
  have hb := uD_bd c y
  have x : (off (lab c y) : Int) = offX (lab c y) := off_x (lab_bd c y).1 (lab_bd c y).2
  have hl : lab c y = lbl (epc c y) (gold y) := rfl
  rw [x, hl, he]
  generalize uD c y = d at *
  generalize gold y = g at *
  clear he x hl
  by_cases h22 : d ≤ 22
  · have e : lbl (23 - d) g = 23 - d := by unfold lbl; rw [if_neg (by omega)]
    rw [if_pos h22, e, if_neg (by omega), if_neg (by omega)]
    unfold offX; rw [if_pos (by omega)]; omega
  · rw [if_neg h22]
    by_cases h29 : d = 29
    · have e : lbl (53 - d) g = 24 := by unfold lbl; rw [if_neg (by omega)]; omega
      rw [e, if_pos h29]; rfl
    · rw [if_neg h29]
      by_cases hv : d = 28 ∧ 11 < g
      · have e : lbl (53 - d) g = 31 := by unfold lbl; rw [if_pos (by omega)]
        rw [e, if_pos hv]; rfl
      · have e : lbl (53 - d) g = 53 - d := by unfold lbl; rw [if_neg (by omega)]
        rw [e, if_neg hv]
        unfold offX; rw [if_neg (by omega), if_neg (by omega), if_pos (by omega)]; omega
/-- The method's Easter is that of the tables. -/
theorem u_easter {c y : Int} (hc : c = 1 ∨ c = 2) : uO c y = eaO c y := by
  have hw := u_week (y := y) hc
  have ho := u_off (y := y) hc
  have hb := uD_bd c y
  have hb2 := uE_bd c y
  have ht := u_two (c := c) (y := y)
  have hx := uX_cases c y
  have hj : c = 1 → ¬ uD c y = 29 ∧ (uD c y = 28 → ¬ 11 < gold y) := fun h => by subst h; exact jul_ep y
  unfold eaO uO
  generalize (off (lab c y) : Int) = o at *
  generalize uX c y = x at *
  generalize uD c y = d at *
  generalize uE c y = e at *
  generalize marN c y = n at *
  generalize gold y = g at *
  generalize (11 * uM c y + 11) % 30 = z at *
  have hd : (d = 29 ∧ o = 28) ∨ (d = 28 ∧ 11 < g ∧ o = 27) ∨ (¬ d = 29 ∧ ¬ (d = 28 ∧ 11 < g) ∧ o = d) := by
    split at ho
    · omega
    · split at ho <;> omega
  clear ho
  rcases hx with ⟨rfl, h1, h2, h3⟩ | ⟨rfl, h1, h2, h3, h4⟩ | ⟨rfl, h⟩
  · rw [if_pos rfl]; omega
  · rw [if_neg (by omega), if_pos rfl]
    have := (ht h3).1 h4
    omega
  · rw [if_neg (by omega), if_neg (by omega)]
    rcases hd with ⟨rfl, rfl⟩ | ⟨rfl, h5, rfl⟩ | ⟨h5, h6, rfl⟩
    · omega
    · have := (ht rfl).2 h5
      omega
    · omega
end Go.Proofs.YtkhicgafhbecfaaGreatDoor
