/- What earlier stages proved: Ua Ub Uc Ud Ue Uz. -/
import Derived.Test.YtnaglaecoephnaaKe
import Derived.Test.YtnaglaecoephnaaKp
import Derived.Test.YtnaglaecoephnaaKa
import Derived.Test.YtnaglaecoephnaaKc
import Derived.Test.YtnaglaecoephnaaKr
import Derived.Test.YtnaglaecoephnaaKs
namespace Go.Proofs.Ytnaglaecoephnaa

/-- The numbers of the method of Gauss. -/
def uM (c y : Int) : Int := if c = 1 then 15 else (15 - (13 + 8 * (y / 100)) / 25 + y / 100 - y / 100 / 4) % 30
def uN (c y : Int) : Int := if c = 1 then 6 else (4 + y / 100 - y / 100 / 4) % 7
def uD (c y : Int) : Int := (19 * (y % 19) + uM c y) % 30
def uE (c y : Int) : Int := (2 * (y % 4) + 4 * (y % 7) + 6 * uD c y + uN c y) % 7
def uX (c y : Int) : Int := if c = 1 then 0 else if uE c y = 6 then (if uD c y = 29 then 1 else if uD c y = 28 ∧ (11 * uM c y + 11) % 30 < 19 then 2 else 0) else 0
/-- How many days behind 21 March Easter is by the method. -/
def uO (c y : Int) : Int := if uX c y = 1 then 29 else if uX c y = 2 then 28 else uD c y + uE c y + 1
theorem uM_bd (c y : Int) : 0 ≤ uM c y ∧ uM c y ≤ 29 := by unfold uM; split <;> omega
theorem uN_bd (c y : Int) : 0 ≤ uN c y ∧ uN c y ≤ 6 := by unfold uN; split <;> omega
theorem uD_bd (c y : Int) : 0 ≤ uD c y ∧ uD c y ≤ 29 := by unfold uD; omega
theorem uE_bd (c y : Int) : 0 ≤ uE c y ∧ uE c y ≤ 6 := by unfold uE; omega
theorem uX_cases (c y : Int) : (uX c y = 1 ∧ ¬ c = 1 ∧ uE c y = 6 ∧ uD c y = 29) ∨ (uX c y = 2 ∧ ¬ c = 1 ∧ uE c y = 6 ∧ uD c y = 28 ∧ (11 * uM c y + 11) % 30 < 19) ∨ (uX c y = 0 ∧ (c = 1 ∨ ¬ uE c y = 6 ∨ (¬ uD c y = 29 ∧ ¬ (uD c y = 28 ∧ (11 * uM c y + 11) % 30 < 19)))) := by
  unfold uX
  by_cases h1 : c = 1
  · rw [if_pos h1]; exact Or.inr (Or.inr ⟨rfl, Or.inl h1⟩)
  · rw [if_neg h1]
    by_cases h6 : uE c y = 6
    · rw [if_pos h6]
      by_cases h29 : uD c y = 29
      · rw [if_pos h29]; exact Or.inl ⟨rfl, h1, h6, h29⟩
      · rw [if_neg h29]
        by_cases hv : uD c y = 28 ∧ (11 * uM c y + 11) % 30 < 19
        · rw [if_pos hv]; exact Or.inr (Or.inl ⟨rfl, h1, h6, hv⟩)
        · rw [if_neg hv]; exact Or.inr (Or.inr ⟨rfl, Or.inr (Or.inr ⟨h29, hv⟩)⟩)
    · rw [if_neg h6]; exact Or.inr (Or.inr ⟨rfl, Or.inr (Or.inl h6)⟩)
theorem jul_ep (y : Int) : ¬ uD 1 y = 29 ∧ (uD 1 y = 28 → ¬ 11 < gold y) := by
  unfold uD uM gold
  simp only [if_true]
  have : y % 19 < 19 := by omega
  have : 0 ≤ y % 19 := by omega
  generalize y % 19 = a at *
  omega
end Go.Proofs.Ytnaglaecoephnaa

namespace Go.Proofs.Ytnaglaecoephnaa
open Go.RowKit

theorem row7 {w : World} {b t : Nat} {a0 a1 a2 a3 a4 a5 a6 : Value} (h : w.heap[b]? = some (.cells #[a0, a1, a2, a3, a4, a5, a6] t (0, 0))) :
    w.cell? ⟨b, 0, none⟩ = some a0 ∧ w.cell? ⟨b, 1, none⟩ = some a1 ∧ w.cell? ⟨b, 2, none⟩ = some a2 ∧ w.cell? ⟨b, 3, none⟩ = some a3 ∧ w.cell? ⟨b, 4, none⟩ = some a4 ∧ w.cell? ⟨b, 5, none⟩ = some a5 ∧ w.cell? ⟨b, 6, none⟩ = some a6 ∧
    w.frozen? ⟨b, 0, none⟩ = false ∧ w.frozen? ⟨b, 1, none⟩ = false ∧ w.frozen? ⟨b, 2, none⟩ = false ∧ w.frozen? ⟨b, 3, none⟩ = false ∧ w.frozen? ⟨b, 4, none⟩ = false ∧ w.frozen? ⟨b, 5, none⟩ = false ∧ w.frozen? ⟨b, 6, none⟩ = false ∧ b < w.heap.size := by
  have h0 : w.cell? ⟨b, 0, none⟩ = some a0 := by rw [cell_of_row w b 0 _ _ _ h]; rfl
  exact ⟨h0, by rw [cell_of_row w b 1 _ _ _ h]; rfl, by rw [cell_of_row w b 2 _ _ _ h]; rfl, by rw [cell_of_row w b 3 _ _ _ h]; rfl, by rw [cell_of_row w b 4 _ _ _ h]; rfl, by rw [cell_of_row w b 5 _ _ _ h]; rfl, by rw [cell_of_row w b 6 _ _ _ h]; rfl,
    frozen_of_row w b 0 _ _ h, frozen_of_row w b 1 _ _ h, frozen_of_row w b 2 _ _ h, frozen_of_row w b 3 _ _ h, frozen_of_row w b 4 _ _ h, frozen_of_row w b 5 _ _ h, frozen_of_row w b 6 _ _ h, World.block_lt_of_cell? w _ h0⟩
/-- A struct of 7 cells, each written: what the cells hold then; and what lies below is as it was. -/
theorem seven_set {W w1 : World} {b t : Nat} {a0 a1 a2 a3 a4 a5 a6 : Value} (x0 x1 x2 x3 x4 x5 x6 : Value) (h : w1.heap[b]? = some (.cells #[a0, a1, a2, a3, a4, a5, a6] t (0, 0))) (hB : Below W.heap.size W w1) (hb : W.heap.size ≤ b) {u : World} (hu : (((((((w1.setCell ⟨b, 0, none⟩ x0).setCell ⟨b, 1, none⟩ x1).setCell ⟨b, 2, none⟩ x2).setCell ⟨b, 3, none⟩ x3).setCell ⟨b, 4, none⟩ x4).setCell ⟨b, 5, none⟩ x5).setCell ⟨b, 6, none⟩ x6) = u) :
    u.cell? ⟨b, 0, none⟩ = some x0 ∧ u.cell? ⟨b, 1, none⟩ = some x1 ∧ u.cell? ⟨b, 2, none⟩ = some x2 ∧ u.cell? ⟨b, 3, none⟩ = some x3 ∧ u.cell? ⟨b, 4, none⟩ = some x4 ∧ u.cell? ⟨b, 5, none⟩ = some x5 ∧ u.cell? ⟨b, 6, none⟩ = some x6 ∧ Below W.heap.size W u := by
  have r0 : (w1.setCell ⟨b, 0, none⟩ x0).heap[b]? = some (.cells #[x0, a1, a2, a3, a4, a5, a6] t (0, 0)) := heap_setCell_same _ b 0 _ _ x0 h
  have s0 := hB.setCell (p := ⟨b, 0, none⟩) hb x0
  have r1 : ((w1.setCell ⟨b, 0, none⟩ x0).setCell ⟨b, 1, none⟩ x1).heap[b]? = some (.cells #[x0, x1, a2, a3, a4, a5, a6] t (0, 0)) := heap_setCell_same _ b 1 _ _ x1 r0
  have s1 := s0.setCell (p := ⟨b, 1, none⟩) hb x1
  have r2 : (((w1.setCell ⟨b, 0, none⟩ x0).setCell ⟨b, 1, none⟩ x1).setCell ⟨b, 2, none⟩ x2).heap[b]? = some (.cells #[x0, x1, x2, a3, a4, a5, a6] t (0, 0)) := heap_setCell_same _ b 2 _ _ x2 r1
  have s2 := s1.setCell (p := ⟨b, 2, none⟩) hb x2
  have r3 : ((((w1.setCell ⟨b, 0, none⟩ x0).setCell ⟨b, 1, none⟩ x1).setCell ⟨b, 2, none⟩ x2).setCell ⟨b, 3, none⟩ x3).heap[b]? = some (.cells #[x0, x1, x2, x3, a4, a5, a6] t (0, 0)) := heap_setCell_same _ b 3 _ _ x3 r2
  have s3 := s2.setCell (p := ⟨b, 3, none⟩) hb x3
  have r4 : (((((w1.setCell ⟨b, 0, none⟩ x0).setCell ⟨b, 1, none⟩ x1).setCell ⟨b, 2, none⟩ x2).setCell ⟨b, 3, none⟩ x3).setCell ⟨b, 4, none⟩ x4).heap[b]? = some (.cells #[x0, x1, x2, x3, x4, a5, a6] t (0, 0)) := heap_setCell_same _ b 4 _ _ x4 r3
  have s4 := s3.setCell (p := ⟨b, 4, none⟩) hb x4
  have r5 : ((((((w1.setCell ⟨b, 0, none⟩ x0).setCell ⟨b, 1, none⟩ x1).setCell ⟨b, 2, none⟩ x2).setCell ⟨b, 3, none⟩ x3).setCell ⟨b, 4, none⟩ x4).setCell ⟨b, 5, none⟩ x5).heap[b]? = some (.cells #[x0, x1, x2, x3, x4, x5, a6] t (0, 0)) := heap_setCell_same _ b 5 _ _ x5 r4
  have s5 := s4.setCell (p := ⟨b, 5, none⟩) hb x5
  have r6 : (((((((w1.setCell ⟨b, 0, none⟩ x0).setCell ⟨b, 1, none⟩ x1).setCell ⟨b, 2, none⟩ x2).setCell ⟨b, 3, none⟩ x3).setCell ⟨b, 4, none⟩ x4).setCell ⟨b, 5, none⟩ x5).setCell ⟨b, 6, none⟩ x6).heap[b]? = some (.cells #[x0, x1, x2, x3, x4, x5, x6] t (0, 0)) := heap_setCell_same _ b 6 _ _ x6 r5
  have s6 := s5.setCell (p := ⟨b, 6, none⟩) hb x6
  rw [hu] at r6 s6
  refine ⟨?_, ?_, ?_, ?_, ?_, ?_, ?_, s6⟩
  · rw [cell_of_row u b 0 _ _ _ r6]; rfl
  · rw [cell_of_row u b 1 _ _ _ r6]; rfl
  · rw [cell_of_row u b 2 _ _ _ r6]; rfl
  · rw [cell_of_row u b 3 _ _ _ r6]; rfl
  · rw [cell_of_row u b 4 _ _ _ r6]; rfl
  · rw [cell_of_row u b 5 _ _ _ r6]; rfl
  · rw [cell_of_row u b 6 _ _ _ r6]; rfl
end Go.Proofs.Ytnaglaecoephnaa

namespace Go.Proofs.Ytnaglaecoephnaa
open Go.RowKit

section
variable (c y : Int) (w : World)
theorem ucheck1 (h : c = 1) (k : Int) (hk : (y < 1 ∧ k = 1) ∨ (1000000000 < y ∧ k = 1) ∨ (1 ≤ y ∧ y ≤ 1000000000 ∧ k = 0)) : Calls Try.prog 57 #[.int .i64 c, .int .i64 y] w fun e w' => e = .returned (.int .i64 k) ∧ w = w' := by
  subst h
  rcases hk with ⟨h1, rfl⟩ | ⟨h1, rfl⟩ | ⟨h1, h2, rfl⟩
  all_goals
    go_enter Try.func57, Try.ntmps57
    go_wp2
    go_ret
    exact ⟨rfl, rfl⟩
theorem ucheck2 (h : c = 2) (k : Int) (hk : (y < 1583 ∧ k = 1) ∨ (1000000000 < y ∧ k = 1) ∨ (1583 ≤ y ∧ y ≤ 1000000000 ∧ k = 0)) : Calls Try.prog 57 #[.int .i64 c, .int .i64 y] w fun e w' => e = .returned (.int .i64 k) ∧ w = w' := by
  subst h
  rcases hk with ⟨h1, rfl⟩ | ⟨h1, rfl⟩ | ⟨h1, h2, rfl⟩
  all_goals
    go_enter Try.func57, Try.ntmps57
    go_wp2
    go_ret
    exact ⟨rfl, rfl⟩
theorem ucheck3 (h1 : ¬ c = 1) (h2 : ¬ c = 2) : Calls Try.prog 57 #[.int .i64 c, .int .i64 y] w fun e w' => e = .returned (.int .i64 3) ∧ w = w' := by
  go_enter Try.func57, Try.ntmps57
  go_wp2
  go_ret
  exact ⟨rfl, rfl⟩
theorem ucheck_any : Calls Try.prog 57 #[.int .i64 c, .int .i64 y] w fun e w' => e = .returned (.int .i64 (epE c y)) ∧ w = w' := by
  by_cases h1 : c = 1
  · refine ucheck1 c y w h1 _ ?_
    have e : epE c y = eB (inY y) := by subst h1; rfl
    rw [e]
    by_cases hy : 1 ≤ y ∧ y ≤ 1000000000
    · rw [inY_iff.2 hy]; exact Or.inr (Or.inr ⟨hy.1, hy.2, rfl⟩)
    · rw [inY_false hy, show eB false = 1 from rfl]; omega
  · by_cases h2 : c = 2
    · refine ucheck2 c y w h2 _ ?_
      have e : epE c y = eB (inG y) := by subst h2; rfl
      rw [e]
      cases hy : inG y
      · rw [show eB false = 1 from rfl]
        by_cases h : 1583 ≤ y ∧ y ≤ 1000000000
        · rw [inG_iff.2 h] at hy; cases hy
        · omega
      · have := inG_iff.1 hy
        exact Or.inr (Or.inr ⟨this.1, this.2, rfl⟩)
    · have e : epE c y = 3 := by unfold epE; rw [okC_not h1 h2]; rfl
      rw [e]; exact ucheck3 c y w h1 h2
end
/-- The state of the computation, in memory. -/
abbrev sev (M N D E X c y : Int) : Obj := .cells #[.int .i64 M, .int .i64 N, .int .i64 D, .int .i64 E, .int .i64 X, .int .i64 c, .int .i64 y] 63 (0, 0)
theorem uM2 (y : Int) : uM 2 y = (15 - (13 + 8 * (y / 100)) / 25 + y / 100 - y / 100 / 4) % 30 := by unfold uM; rw [if_neg (by omega)]
theorem uN2 (y : Int) : uN 2 y = (4 + y / 100 - y / 100 / 4) % 7 := by unfold uN; rw [if_neg (by omega)]
section
variable (M N D E X c y : Int) (b : Nat) (w : World)
theorem unum1 (h : w.heap[b]? = some (sev M N D E X 1 y)) : Calls Try.prog 58 #[.pointer (some ⟨b, 0, none⟩)] w fun e w' => e = .returned (.tuple #[]) ∧ w'.heap[b]? = some (sev 15 6 D E X 1 y) ∧ Below b w w' := by
  have R := Lib.hid h
  obtain ⟨c0, c1, c2, c3, c4, c5, c6, f0, f1, f2, f3, f4, f5, f6, z⟩ := row7 h
  clear h
  go_enter Try.func58, Try.ntmps58
  go_wp2
  refine bodyPost_ret (v := .tuple #[]) (by simp [results, Try.results58, go_sem]) rfl ?_
  exact ⟨rfl, heap_setCell_same _ b 1 _ _ _ (heap_setCell_same _ b 0 _ _ _ R.out), ((Below.refl _ _).setCell (p := ⟨b, 0, none⟩) (Nat.le_refl _) _).setCell (p := ⟨b, 1, none⟩) (Nat.le_refl _) _⟩
theorem unum2 (h1 : 1583 ≤ y) (h2 : y ≤ 1000000000) (h : w.heap[b]? = some (sev M N D E X 2 y)) : Calls Try.prog 58 #[.pointer (some ⟨b, 0, none⟩)] w fun e w' => e = .returned (.tuple #[]) ∧ w'.heap[b]? = some (sev (uM 2 y) (uN 2 y) D E X 2 y) ∧ Below b w w' := by
  have R := Lib.hid h
  obtain ⟨c0, c1, c2, c3, c4, c5, c6, f0, f1, f2, f3, f4, f5, f6, z⟩ := row7 h
  clear h
  go_enter Try.func58, Try.ntmps58
  go_wp2
  go_end0
  exact ⟨rfl, (heap_setCell_same _ b 1 _ _ _ (heap_setCell_same _ b 0 _ _ _ R.out)).trans (by rw [uM2, uN2]; rfl), ((Below.refl _ _).setCell (p := ⟨b, 0, none⟩) (Nat.le_refl _) _).setCell (p := ⟨b, 1, none⟩) (Nat.le_refl _) _⟩
theorem udis (h1 : 1 ≤ y) (h2 : y ≤ 1000000000) (m1 : 0 ≤ M) (m2 : M ≤ 29) (n1 : 0 ≤ N) (n2 : N ≤ 6) (d9 e9 : Int) (hd : (19 * (y % 19) + M) % 30 = d9) (he : (2 * (y % 4) + 4 * (y % 7) + 6 * d9 + N) % 7 = e9) (h : w.heap[b]? = some (sev M N D E X c y)) : Calls Try.prog 59 #[.pointer (some ⟨b, 0, none⟩)] w fun e w' => e = .returned (.tuple #[]) ∧ w'.heap[b]? = some (sev M N d9 e9 X c y) ∧ Below b w w' := by
  have R := Lib.hid h
  obtain ⟨c0, c1, c2, c3, c4, c5, c6, f0, f1, f2, f3, f4, f5, f6, z⟩ := row7 h
  clear h
  have q1 : 0 ≤ y % 19 := by omega
  have q2 : y % 19 ≤ 18 := by omega
  have q3 : 0 ≤ y % 4 := by omega
  have q4 : y % 4 ≤ 3 := by omega
  have q5 : 0 ≤ y % 7 := by omega
  have q6 : y % 7 ≤ 6 := by omega
  go_enter Try.func59, Try.ntmps59
  go_wp2
  go_region
  have d1 : 0 ≤ (19 * (y % 19) + M) % 30 := by omega
  have d2 : (19 * (y % 19) + M) % 30 ≤ 29 := by omega
  generalize (19 * (y % 19) + M) % 30 = Dn at *
  subst hd
  generalize hu : (w.setCell ⟨b, 2, none⟩ (.int .i64 Dn)).drew = u
  have R1 : Hid (u.heap[b]? = some (sev M N Dn E X c y)) := Lib.hid (by rw [← hu]; exact heap_setCell_same w b 2 _ _ _ R.out)
  have B1 : Hid (Below b w u) := Lib.hid (by rw [← hu]; exact below_dn ((Below.refl _ _).setCell (p := ⟨b, 2, none⟩) (Nat.le_refl _) _) 1)
  clear hu c0 c1 c2 c3 c4 c5 c6 f0 f1 f2 f3 f4 f5 f6 z R
  obtain ⟨c0, c1, c2, c3, c4, c5, c6, f0, f1, f2, f3, f4, f5, f6, z⟩ := row7 R1.out
  go_wp2
  go_region
  go_wp2
  go_end0
  subst he
  exact ⟨rfl, heap_setCell_same u b 3 _ _ _ R1.out, below_dn (B1.out.setCell (p := ⟨b, 3, none⟩) (Nat.le_refl _) _) 1⟩
theorem uexc (k : Int) (d1 : 0 ≤ D) (d2 : D ≤ 29) (m1 : 0 ≤ M) (m2 : M ≤ 29) (hk : (c = 1 ∧ k = 0) ∨ (c = 2 ∧ ¬ E = 6 ∧ k = 0) ∨ (c = 2 ∧ E = 6 ∧ D = 29 ∧ k = 1) ∨ (c = 2 ∧ E = 6 ∧ D = 28 ∧ (11 * M + 11) % 30 < 19 ∧ k = 2) ∨ (c = 2 ∧ E = 6 ∧ D = 28 ∧ ¬ (11 * M + 11) % 30 < 19 ∧ k = 0) ∨ (c = 2 ∧ E = 6 ∧ ¬ D = 29 ∧ ¬ D = 28 ∧ k = 0))
    (h : w.heap[b]? = some (sev M N D E X c y)) : Calls Try.prog 60 #[.pointer (some ⟨b, 0, none⟩)] w fun e w' => e = .returned (.tuple #[]) ∧ w'.heap[b]? = some (sev M N D E k c y) ∧ Below b w w' := by
  have R := Lib.hid h
  obtain ⟨c0, c1, c2, c3, c4, c5, c6, f0, f1, f2, f3, f4, f5, f6, z⟩ := row7 h
  clear h
  rcases hk with ⟨rfl, rfl⟩ | ⟨rfl, g1, rfl⟩ | ⟨rfl, rfl, rfl, rfl⟩ | ⟨rfl, rfl, rfl, g1, rfl⟩ | ⟨rfl, rfl, rfl, g1, rfl⟩ | ⟨rfl, rfl, g1, g2, rfl⟩
  · go_enter Try.func60, Try.ntmps60
    go_wp2
    refine bodyPost_ret (v := .tuple #[]) (by simp [results, Try.results60, go_sem]) rfl ?_
    exact ⟨rfl, heap_setCell_same _ b 4 _ _ _ R.out, (Below.refl _ _).setCell (p := ⟨b, 4, none⟩) (Nat.le_refl _) _⟩
  · go_enter Try.func60, Try.ntmps60
    go_wp2
    refine bodyPost_ret (v := .tuple #[]) (by simp [results, Try.results60, go_sem]) rfl ?_
    exact ⟨rfl, heap_setCell_same _ b 4 _ _ _ R.out, (Below.refl _ _).setCell (p := ⟨b, 4, none⟩) (Nat.le_refl _) _⟩
  · go_enter Try.func60, Try.ntmps60
    go_wp2
    go_end0
    exact ⟨rfl, heap_setCell_same _ b 4 _ _ _ (heap_setCell_same _ b 4 _ _ _ R.out), ((Below.refl _ _).setCell (p := ⟨b, 4, none⟩) (Nat.le_refl _) _).setCell (p := ⟨b, 4, none⟩) (Nat.le_refl _) _⟩
  · go_enter Try.func60, Try.ntmps60
    go_wp2
    go_end0
    exact ⟨rfl, heap_setCell_same _ b 4 _ _ _ (heap_setCell_same _ b 4 _ _ _ R.out), ((Below.refl _ _).setCell (p := ⟨b, 4, none⟩) (Nat.le_refl _) _).setCell (p := ⟨b, 4, none⟩) (Nat.le_refl _) _⟩
  · go_enter Try.func60, Try.ntmps60
    go_wp2
    go_end0
    exact ⟨rfl, heap_setCell_same _ b 4 _ _ _ R.out, (Below.refl _ _).setCell (p := ⟨b, 4, none⟩) (Nat.le_refl _) _⟩
  · go_enter Try.func60, Try.ntmps60
    go_wp2
    go_end0
    exact ⟨rfl, heap_setCell_same _ b 4 _ _ _ R.out, (Below.refl _ _).setCell (p := ⟨b, 4, none⟩) (Nat.le_refl _) _⟩
end
theorem uX_val (c y : Int) (hc : c = 1 ∨ c = 2) : (c = 1 ∧ uX c y = 0) ∨ (c = 2 ∧ ¬ uE c y = 6 ∧ uX c y = 0) ∨ (c = 2 ∧ uE c y = 6 ∧ uD c y = 29 ∧ uX c y = 1) ∨ (c = 2 ∧ uE c y = 6 ∧ uD c y = 28 ∧ (11 * uM c y + 11) % 30 < 19 ∧ uX c y = 2) ∨ (c = 2 ∧ uE c y = 6 ∧ uD c y = 28 ∧ ¬ (11 * uM c y + 11) % 30 < 19 ∧ uX c y = 0) ∨ (c = 2 ∧ uE c y = 6 ∧ ¬ uD c y = 29 ∧ ¬ uD c y = 28 ∧ uX c y = 0) := by
  rcases uX_cases c y with ⟨a1, a2, a3, a4⟩ | ⟨a1, a2, a3, a4, a5⟩ | ⟨a1, a2⟩
  · exact Or.inr (Or.inr (Or.inl ⟨by omega, a3, a4, a1⟩))
  · exact Or.inr (Or.inr (Or.inr (Or.inl ⟨by omega, a3, a4, a5, a1⟩)))
  · rcases hc with h | h
    · exact Or.inl ⟨h, a1⟩
    · rcases a2 with h1 | h6 | ⟨n29, nv⟩
      · omega
      · exact Or.inr (Or.inl ⟨h, h6, a1⟩)
      · by_cases e6 : uE c y = 6
        · by_cases d28 : uD c y = 28
          · exact Or.inr (Or.inr (Or.inr (Or.inr (Or.inl ⟨h, e6, d28, fun z => nv ⟨d28, z⟩, a1⟩))))
          · exact Or.inr (Or.inr (Or.inr (Or.inr (Or.inr ⟨h, e6, n29, d28, a1⟩))))
        · exact Or.inr (Or.inl ⟨h, e6, a1⟩)
abbrev cpv (M N D E X c y : Int) : Value := .agg #[.int .i64 M, .int .i64 N, .int .i64 D, .int .i64 E, .int .i64 X, .int .i64 c, .int .i64 y]
section
variable (c y : Int) (W : World)
theorem ucomp_ok (M N D E X : Int) (HC : ∀ w, Calls Try.prog 57 #[.int .i64 c, .int .i64 y] w fun e w' => e = .returned (.int .i64 0) ∧ w = w')
    (HN : ∀ b (w : World), w.heap[b]? = some (sev 0 0 0 0 0 c y) → Calls Try.prog 58 #[.pointer (some ⟨b, 0, none⟩)] w fun e w' => e = .returned (.tuple #[]) ∧ w'.heap[b]? = some (sev M N 0 0 0 c y) ∧ Below b w w')
    (HD : ∀ b (w : World), w.heap[b]? = some (sev M N 0 0 0 c y) → Calls Try.prog 59 #[.pointer (some ⟨b, 0, none⟩)] w fun e w' => e = .returned (.tuple #[]) ∧ w'.heap[b]? = some (sev M N D E 0 c y) ∧ Below b w w')
    (HX : ∀ b (w : World), w.heap[b]? = some (sev M N D E 0 c y) → Calls Try.prog 60 #[.pointer (some ⟨b, 0, none⟩)] w fun e w' => e = .returned (.tuple #[]) ∧ w'.heap[b]? = some (sev M N D E X c y) ∧ Below b w w') :
    Calls Try.prog 43 #[.int .i64 c, .int .i64 y] W fun e w' => e = .returned (.tuple #[cpv M N D E X c y, .int .i64 0]) ∧ Below W.heap.size W w' := by
  go_enter Try.func43, Try.ntmps43
  go_wp2_with fail
  refine (HC _).mono ?_
  rintro e wq ⟨rfl, rfl⟩
  go_wp2_with fail
  refine (HN _ _ (row_new1 _ _ _)).mono ?_
  rintro e w1 ⟨rfl, r1, b1⟩
  have A1 : Hid (w1.heap[W.heap.size]? = some (sev 0 0 0 0 0 0 0)) := Lib.hid ((b1.block _ (Nat.lt_succ_self _)).trans (row_al (heap_alloc_new _ _) _))
  have B1 : Hid (Below W.heap.size W w1) := Lib.hid ((((Below.refl _ _).alloc (Nat.le_refl _) _).alloc (by simp) _).trans (b1.mono (Nat.le_succ _)))
  have R1 := Lib.hid r1
  clear r1 b1
  go_wp2_with fail
  refine (HD _ _ R1.out).mono ?_
  rintro e w2 ⟨rfl, r2, b2⟩
  have A2 := Lib.hid ((b2.block _ (Nat.lt_succ_self _)).trans A1.out)
  have B2 : Hid (Below W.heap.size W w2) := Lib.hid (B1.out.trans (b2.mono (Nat.le_succ _)))
  have R2 := Lib.hid r2
  clear r2 b2 A1 B1 R1
  go_wp2_with fail
  refine (HX _ _ R2.out).mono ?_
  rintro e w3 ⟨rfl, r3, b3⟩
  have A3 := Lib.hid ((b3.block _ (Nat.lt_succ_self _)).trans A2.out)
  have B3 : Hid (Below W.heap.size W w3) := Lib.hid (B2.out.trans (b3.mono (Nat.le_succ _)))
  obtain ⟨c0, c1, c2, c3, c4, c5, c6, f0, f1, f2, f3, f4, f5, f6, z⟩ := row7 r3
  obtain ⟨d0, d1, d2, d3, d4, d5, d6, g0, g1, g2, g3, g4, g5, g6, z'⟩ := row7 A3.out
  clear r3 b3 A2 B2 R2
  go_wp2_with fail
  generalize hu : (((((((w3.setCell ⟨W.heap.size, 0, none⟩ (.int .i64 M)).setCell ⟨W.heap.size, 1, none⟩ (.int .i64 N)).setCell ⟨W.heap.size, 2, none⟩ (.int .i64 D)).setCell ⟨W.heap.size, 3, none⟩ (.int .i64 E)).setCell ⟨W.heap.size, 4, none⟩ (.int .i64 X)).setCell ⟨W.heap.size, 5, none⟩ (.int .i64 c)).setCell ⟨W.heap.size, 6, none⟩ (.int .i64 y)) = u
  obtain ⟨k0, k1, k2, k3, k4, k5, k6, kb⟩ := seven_set _ _ _ _ _ _ _ A3.out B3.out (Nat.le_refl _) hu
  have Hb := Lib.hid kb
  clear hu
  exact bodyPost_ret (v := .tuple #[cpv M N D E X c y, .int .i64 0]) (by simp [results, Try.results43, go_sem, k0, k1, k2, k3, k4, k5, k6]) rfl ⟨rfl, Hb.out⟩
theorem ucomp_any (h : epE c y = 0) : Calls Try.prog 43 #[.int .i64 c, .int .i64 y] W fun e w' => e = .returned (.tuple #[cpv (uM c y) (uN c y) (uD c y) (uE c y) (uX c y) c y, .int .i64 0]) ∧ Below W.heap.size W w' := by
  have HC := fun w => ucheck_any c y w
  rw [h] at HC
  have hc := (epE_zero h).1
  obtain ⟨y1, y2⟩ := epE_inY h
  obtain ⟨m1, m2⟩ := uM_bd c y
  obtain ⟨n1, n2⟩ := uN_bd c y
  obtain ⟨d1, d2⟩ := uD_bd c y
  refine ucomp_ok c y W _ _ _ _ _ HC (fun b w hr => ?_) (fun b w hr => udis _ _ _ _ _ _ _ _ _ y1 y2 m1 m2 n1 n2 _ _ rfl rfl hr) (fun b w hr => uexc _ _ _ _ _ _ _ _ _ _ d1 d2 m1 m2 (uX_val c y hc) hr)
  rcases hc with rfl | rfl
  · exact unum1 _ _ _ _ _ _ _ _ hr
  · have g := inG_iff.1 (epE_zero h).2
    exact unum2 _ _ _ _ _ _ _ _ g.1 g.2 hr
end
section
variable (M N D E c y : Int) (b : Nat) (w : World)
theorem ueas1 (h : w.heap[b]? = some (sev M N D E 1 c y)) : Calls Try.prog 44 #[.pointer (some ⟨b, 0, none⟩)] w fun e w' => e = .returned (dtv y 4 19) ∧ Below w.heap.size w w' := by
  obtain ⟨c0, c1, c2, c3, c4, c5, c6, f0, f1, f2, f3, f4, f5, f6, z⟩ := row7 h
  have nz := Nat.ne_of_lt z
  have nz' := nz.symm
  clear h
  go_enter Try.func44, Try.ntmps44
  go_wp2_with fail
  exact bodyPost_ret (v := dtv y 4 19) (by simp [results, Try.results44, go_sem]) rfl ⟨rfl, (Below.refl _ _).alloc (Nat.le_refl _) _⟩
theorem ueas2 (h : w.heap[b]? = some (sev M N D E 2 c y)) : Calls Try.prog 44 #[.pointer (some ⟨b, 0, none⟩)] w fun e w' => e = .returned (dtv y 4 18) ∧ Below w.heap.size w w' := by
  obtain ⟨c0, c1, c2, c3, c4, c5, c6, f0, f1, f2, f3, f4, f5, f6, z⟩ := row7 h
  have nz := Nat.ne_of_lt z
  have nz' := nz.symm
  clear h
  go_enter Try.func44, Try.ntmps44
  go_wp2_with fail
  exact bodyPost_ret (v := dtv y 4 18) (by simp [results, Try.results44, go_sem]) rfl ⟨rfl, (Below.refl _ _).alloc (Nat.le_refl _) _⟩
theorem ueas3 (q1 : 0 ≤ D) (q2 : D ≤ 29) (q3 : 0 ≤ E) (q4 : E ≤ 6) (hq : 22 + D + E ≤ 31) (h : w.heap[b]? = some (sev M N D E 0 c y)) : Calls Try.prog 44 #[.pointer (some ⟨b, 0, none⟩)] w fun e w' => e = .returned (dtv y 3 (22 + D + E)) ∧ Below w.heap.size w w' := by
  obtain ⟨c0, c1, c2, c3, c4, c5, c6, f0, f1, f2, f3, f4, f5, f6, z⟩ := row7 h
  have nz := Nat.ne_of_lt z
  have nz' := nz.symm
  clear h
  go_enter Try.func44, Try.ntmps44
  go_wp2_with fail
  go_quiet (fail)
  go_wp2_with fail
  exact bodyPost_ret (v := dtv y 3 (22 + D + E)) (by simp [results, Try.results44, go_sem]) rfl ⟨rfl, below_set3 (below_dn ((Below.refl _ _).alloc (Nat.le_refl _) _) _) (Nat.le_refl _) _ _ _ rfl⟩
theorem ueas4 (q1 : 0 ≤ D) (q2 : D ≤ 29) (q3 : 0 ≤ E) (q4 : E ≤ 6) (hq : ¬ 22 + D + E ≤ 31) (h : w.heap[b]? = some (sev M N D E 0 c y)) : Calls Try.prog 44 #[.pointer (some ⟨b, 0, none⟩)] w fun e w' => e = .returned (dtv y 4 (22 + D + E - 31)) ∧ Below w.heap.size w w' := by
  obtain ⟨c0, c1, c2, c3, c4, c5, c6, f0, f1, f2, f3, f4, f5, f6, z⟩ := row7 h
  have nz := Nat.ne_of_lt z
  have nz' := nz.symm
  clear h
  go_enter Try.func44, Try.ntmps44
  go_wp2_with fail
  go_quiet (fail)
  go_wp2_with fail
  exact bodyPost_ret (v := dtv y 4 (22 + D + E - 31)) (by simp [results, Try.results44, go_sem]) rfl ⟨rfl, below_set3 (below_dn ((Below.refl _ _).alloc (Nat.le_refl _) _) _) (Nat.le_refl _) _ _ _ rfl⟩
end
theorem marM_u (k : Int) : marM k = if 21 + k ≤ 31 then 3 else 4 := by unfold marM; split <;> split <;> omega
theorem marD_u (k : Int) : marD k = if 21 + k ≤ 31 then 21 + k else 21 + k - 31 := by unfold marD; split <;> split <;> omega
theorem ueas_any (c y : Int) (b : Nat) (w : World) (h : w.heap[b]? = some (sev (uM c y) (uN c y) (uD c y) (uE c y) (uX c y) c y)) : Calls Try.prog 44 #[.pointer (some ⟨b, 0, none⟩)] w fun e w' => e = .returned (dtv y (marM (uO c y)) (marD (uO c y))) ∧ Below w.heap.size w w' := by
  obtain ⟨d1, d2⟩ := uD_bd c y
  obtain ⟨e1, e2⟩ := uE_bd c y
  rcases uX_cases c y with ⟨x, _⟩ | ⟨x, _⟩ | ⟨x, _⟩
  · rw [x] at h
    rw [show uO c y = 29 by unfold uO; rw [if_pos x]]
    exact ueas1 _ _ _ _ _ _ _ _ h
  · rw [x] at h
    rw [show uO c y = 28 by unfold uO; rw [if_neg (by omega), if_pos x]]
    exact ueas2 _ _ _ _ _ _ _ _ h
  · rw [x] at h
    rw [show uO c y = uD c y + uE c y + 1 by unfold uO; rw [if_neg (by omega), if_neg (by omega)]]
    rw [marM_u, marD_u, show 21 + (uD c y + uE c y + 1) = 22 + uD c y + uE c y by omega]
    by_cases hq : 22 + uD c y + uE c y ≤ 31
    · rw [if_pos hq, if_pos hq]; exact ueas3 _ _ _ _ _ _ _ _ d1 d2 e1 e2 hq h
    · rw [if_neg hq, if_neg hq]; exact ueas4 _ _ _ _ _ _ _ _ d1 d2 e1 e2 hq h
section
variable (c y : Int) (W : World)
theorem udt_ok (M N D E X m d : Int) (H : ∀ w, Calls Try.prog 43 #[.int .i64 c, .int .i64 y] w fun e w' => e = .returned (.tuple #[cpv M N D E X c y, .int .i64 0]) ∧ Below w.heap.size w w') (HE : ∀ (b : Nat) (w : World), w.heap[b]? = some (sev M N D E X c y) → Calls Try.prog 44 #[.pointer (some ⟨b, 0, none⟩)] w fun e w' => e = .returned (dtv y m d) ∧ Below w.heap.size w w') :
    Calls Try.prog 35 #[.int .i64 c, .int .i64 y] W fun e w' => e = .returned (datv y m d 0) ∧ Below W.heap.size W w' := by
  go_enter Try.func35, Try.ntmps35
  go_wp2_with fail
  refine (H _).mono ?_
  rintro e w1 ⟨rfl, b1⟩
  have A1 : Hid (w1.heap[W.heap.size]? = some zdate) := Lib.hid (row_on (heap_alloc_new _ _) b1)
  have B1 : Hid (Below W.heap.size W w1) := Lib.hid (below_al1 b1)
  clear b1
  go_wp2_with fail
  refine (HE _ _ (heap_alloc_new _ _)).mono ?_
  rintro e w2 ⟨rfl, b2⟩
  have A2 := Lib.hid (row_on A1.out (below_al1 b2))
  have B2 := Lib.hid (below_on B1.out (below_al1 b2))
  clear b2 A1 B1
  obtain ⟨d0, d1, d2, g0, g1, g2, z'⟩ := row3 A2.out
  go_wp2_with fail
  generalize hu : ((w2.setCell ⟨W.heap.size, 0, none⟩ (.int .i64 y)).setCell ⟨W.heap.size, 1, none⟩ (.int .i64 m)).setCell ⟨W.heap.size, 2, none⟩ (.int .i64 d) = u
  obtain ⟨k0, k1, k2⟩ := three_set _ _ _ A2.out hu
  have Hb := Lib.hid (below_set3 B2.out (Nat.le_refl _) _ _ _ hu)
  clear hu
  exact bodyPost_ret (v := datv y m d 0) (by simp [results, Try.results35, go_sem, k0, k1, k2]) rfl ⟨rfl, Hb.out⟩
theorem udate_any (h : epE c y = 0) : Calls Try.prog 35 #[.int .i64 c, .int .i64 y] W fun e w' => e = .returned (datv y (marM (uO c y)) (marD (uO c y)) 0) ∧ Below W.heap.size W w' :=
  udt_ok c y W _ _ _ _ _ _ _ (fun w => ucomp_any c y w h) (fun b w hr => ueas_any c y b w hr)
end
end Go.Proofs.Ytnaglaecoephnaa

namespace Go.Proofs.Ytnaglaecoephnaa
open Go.RowKit

theorem rmod_pos (a b : Int) (w : World) (ha : inR a = true) (hb : 0 < b) (hb2 : inR b = true) : Calls Try.prog 48 #[.int .i64 a, .int .i64 b] w fun e w' => e = .returned (.int .i64 (a % b)) ∧ w = w' := by
  have := rmod_any a b w ha hb2 (spl_pos a b hb)
  rwa [Int.fmod_eq_emod_of_nonneg _ (by omega)] at this
theorem rdiv_pos (a b : Int) (w : World) (ha : inR a = true) (hb : 0 < b) : Calls Try.prog 47 #[.int .i64 a, .int .i64 b] w fun e w' => e = .returned (.int .i64 (a / b)) ∧ w = w' := by
  have := rdiv_any a b w ha (spl_pos a b hb)
  rwa [Int.fdiv_eq_ediv_of_nonneg _ (by omega)] at this
abbrev riv (M N D E X : Int) : Obj := .cells #[.int .i64 M, .int .i64 N, .int .i64 D, .int .i64 E, .int .i64 X] 56 (0, 0)
abbrev rsv (M N D E X : Int) : Value := .agg #[.int .i64 M, .int .i64 N, .int .i64 D, .int .i64 E, .int .i64 X]
section
variable (y : Int) (W : World)
theorem r11tr1 (D E a b f : Int) (a1 : 0 ≤ a) (a2 : a ≤ 18) (b1 : 0 ≤ b) (b2 : b ≤ 3) (f1 : 0 ≤ f) (f2 : f ≤ 6) (d1 : 0 ≤ D) (d2 : D ≤ 29)
    (H1 : ∀ w, Calls Try.prog 48 #[.int .i64 y, .int .i64 19] w fun e w' => e = .returned (.int .i64 (a)) ∧ w = w') (H2 : ∀ w, Calls Try.prog 48 #[.int .i64 y, .int .i64 4] w fun e w' => e = .returned (.int .i64 (b)) ∧ w = w') (H3 : ∀ w, Calls Try.prog 48 #[.int .i64 y, .int .i64 7] w fun e w' => e = .returned (.int .i64 (f)) ∧ w = w')
    (H4 : ∀ w, Calls Try.prog 48 #[.int .i64 (19 * a + 15), .int .i64 30] w fun e w' => e = .returned (.int .i64 (D)) ∧ w = w') (H5 : ∀ w, Calls Try.prog 48 #[.int .i64 (2 * b + 4 * f + 6 * D + 6), .int .i64 7] w fun e w' => e = .returned (.int .i64 (E)) ∧ w = w') :
    Calls Try.prog 37 #[.int .i64 1, .int .i64 y] W fun e w' => e = .returned (rsv 15 6 D E 0) ∧ Below W.heap.size W w' := by
  go_enter Try.func37, Try.ntmps37
  go_wp2_with fail
  refine (H1 _).mono ?_
  rintro e w' ⟨rfl, rfl⟩
  go_wp2_with fail
  refine (H2 _).mono ?_
  rintro e w' ⟨rfl, rfl⟩
  go_wp2_with fail
  refine (H3 _).mono ?_
  rintro e w' ⟨rfl, rfl⟩
  go_wp2_with fail
  refine (H4 _).mono ?_
  rintro e w' ⟨rfl, rfl⟩
  go_wp2_with fail
  refine (H5 _).mono ?_
  rintro e w' ⟨rfl, rfl⟩
  go_wp2_with fail
  exact bodyPost_ret (v := rsv 15 6 D E 0) (by simp [results, Try.results37, go_sem]) rfl ⟨rfl, ((Below.refl _ _).alloc (Nat.le_refl _) _).alloc (by simp) _⟩
set_option maxHeartbeats 800000 in
theorem r11tr2a (M N a b f k p q : Int) (a1 : 0 ≤ a) (a2 : a ≤ 18) (b1 : 0 ≤ b) (b2 : b ≤ 3) (f1 : 0 ≤ f) (f2 : f ≤ 6) (m1 : 0 ≤ M) (m2 : M ≤ 29) (n1 : 0 ≤ N) (n2 : N ≤ 6) (k1 : 0 ≤ k) (k2 : k ≤ 10000000) (p1 : 0 ≤ p) (p2 : p ≤ 10000000) (q1 : 0 ≤ q) (q2 : q ≤ 10000000)
    (HK : ∀ w, Calls Try.prog 47 #[.int .i64 y, .int .i64 100] w fun e w' => e = .returned (.int .i64 (k)) ∧ w = w') (HP : ∀ w, Calls Try.prog 47 #[.int .i64 (13 + 8 * k), .int .i64 25] w fun e w' => e = .returned (.int .i64 (p)) ∧ w = w') (HQ : ∀ w, Calls Try.prog 47 #[.int .i64 k, .int .i64 4] w fun e w' => e = .returned (.int .i64 (q)) ∧ w = w')
    (HM : ∀ w, Calls Try.prog 48 #[.int .i64 (15 - p + k - q), .int .i64 30] w fun e w' => e = .returned (.int .i64 (M)) ∧ w = w') (HN : ∀ w, Calls Try.prog 48 #[.int .i64 (4 + k - q), .int .i64 7] w fun e w' => e = .returned (.int .i64 (N)) ∧ w = w')
    (H1 : ∀ w, Calls Try.prog 48 #[.int .i64 y, .int .i64 19] w fun e w' => e = .returned (.int .i64 (a)) ∧ w = w') (H2 : ∀ w, Calls Try.prog 48 #[.int .i64 y, .int .i64 4] w fun e w' => e = .returned (.int .i64 (b)) ∧ w = w') (H3 : ∀ w, Calls Try.prog 48 #[.int .i64 y, .int .i64 7] w fun e w' => e = .returned (.int .i64 (f)) ∧ w = w')
    (H4 : ∀ w, Calls Try.prog 48 #[.int .i64 (19 * a + M), .int .i64 30] w fun e w' => e = .returned (.int .i64 (29)) ∧ w = w') (H5 : ∀ w, Calls Try.prog 48 #[.int .i64 (2 * b + 4 * f + 174 + N), .int .i64 7] w fun e w' => e = .returned (.int .i64 (6)) ∧ w = w') :
    Calls Try.prog 37 #[.int .i64 2, .int .i64 y] W fun e w' => e = .returned (rsv M N 29 6 1) ∧ Below W.heap.size W w' := by
  go_enter Try.func37, Try.ntmps37
  go_wp2_with fail
  refine (HK _).mono ?_
  rintro e w' ⟨rfl, rfl⟩
  go_wp2_with fail
  refine (HP _).mono ?_
  rintro e w' ⟨rfl, rfl⟩
  go_wp2_with fail
  refine (HQ _).mono ?_
  rintro e w' ⟨rfl, rfl⟩
  go_wp2_with fail
  refine (HM _).mono ?_
  rintro e w' ⟨rfl, rfl⟩
  go_wp2_with fail
  refine (HN _).mono ?_
  rintro e w' ⟨rfl, rfl⟩
  go_wp2_with fail
  refine (H1 _).mono ?_
  rintro e w' ⟨rfl, rfl⟩
  go_wp2_with fail
  refine (H2 _).mono ?_
  rintro e w' ⟨rfl, rfl⟩
  go_wp2_with fail
  refine (H3 _).mono ?_
  rintro e w' ⟨rfl, rfl⟩
  go_wp2_with fail
  refine (H4 _).mono ?_
  rintro e w' ⟨rfl, rfl⟩
  go_wp2_with fail
  refine (H5 _).mono ?_
  rintro e w' ⟨rfl, rfl⟩
  go_wp2_with fail
  exact bodyPost_ret (v := rsv M N 29 6 1) (by simp [results, Try.results37, go_sem]) rfl ⟨rfl, ((Below.refl _ _).alloc (Nat.le_refl _) _).alloc (by simp) _⟩
set_option maxHeartbeats 800000 in
theorem r11tr2b (M N E a b f k p q : Int) (a1 : 0 ≤ a) (a2 : a ≤ 18) (b1 : 0 ≤ b) (b2 : b ≤ 3) (f1 : 0 ≤ f) (f2 : f ≤ 6) (m1 : 0 ≤ M) (m2 : M ≤ 29) (n1 : 0 ≤ N) (n2 : N ≤ 6) (k1 : 0 ≤ k) (k2 : k ≤ 10000000) (p1 : 0 ≤ p) (p2 : p ≤ 10000000) (q1 : 0 ≤ q) (q2 : q ≤ 10000000) (g : ¬ E = 6)
    (HK : ∀ w, Calls Try.prog 47 #[.int .i64 y, .int .i64 100] w fun e w' => e = .returned (.int .i64 (k)) ∧ w = w') (HP : ∀ w, Calls Try.prog 47 #[.int .i64 (13 + 8 * k), .int .i64 25] w fun e w' => e = .returned (.int .i64 (p)) ∧ w = w') (HQ : ∀ w, Calls Try.prog 47 #[.int .i64 k, .int .i64 4] w fun e w' => e = .returned (.int .i64 (q)) ∧ w = w')
    (HM : ∀ w, Calls Try.prog 48 #[.int .i64 (15 - p + k - q), .int .i64 30] w fun e w' => e = .returned (.int .i64 (M)) ∧ w = w') (HN : ∀ w, Calls Try.prog 48 #[.int .i64 (4 + k - q), .int .i64 7] w fun e w' => e = .returned (.int .i64 (N)) ∧ w = w')
    (H1 : ∀ w, Calls Try.prog 48 #[.int .i64 y, .int .i64 19] w fun e w' => e = .returned (.int .i64 (a)) ∧ w = w') (H2 : ∀ w, Calls Try.prog 48 #[.int .i64 y, .int .i64 4] w fun e w' => e = .returned (.int .i64 (b)) ∧ w = w') (H3 : ∀ w, Calls Try.prog 48 #[.int .i64 y, .int .i64 7] w fun e w' => e = .returned (.int .i64 (f)) ∧ w = w')
    (H4 : ∀ w, Calls Try.prog 48 #[.int .i64 (19 * a + M), .int .i64 30] w fun e w' => e = .returned (.int .i64 (29)) ∧ w = w') (H5 : ∀ w, Calls Try.prog 48 #[.int .i64 (2 * b + 4 * f + 174 + N), .int .i64 7] w fun e w' => e = .returned (.int .i64 (E)) ∧ w = w') :
    Calls Try.prog 37 #[.int .i64 2, .int .i64 y] W fun e w' => e = .returned (rsv M N 29 E 0) ∧ Below W.heap.size W w' := by
  go_enter Try.func37, Try.ntmps37
  go_wp2_with fail
  refine (HK _).mono ?_
  rintro e w' ⟨rfl, rfl⟩
  go_wp2_with fail
  refine (HP _).mono ?_
  rintro e w' ⟨rfl, rfl⟩
  go_wp2_with fail
  refine (HQ _).mono ?_
  rintro e w' ⟨rfl, rfl⟩
  go_wp2_with fail
  refine (HM _).mono ?_
  rintro e w' ⟨rfl, rfl⟩
  go_wp2_with fail
  refine (HN _).mono ?_
  rintro e w' ⟨rfl, rfl⟩
  go_wp2_with fail
  refine (H1 _).mono ?_
  rintro e w' ⟨rfl, rfl⟩
  go_wp2_with fail
  refine (H2 _).mono ?_
  rintro e w' ⟨rfl, rfl⟩
  go_wp2_with fail
  refine (H3 _).mono ?_
  rintro e w' ⟨rfl, rfl⟩
  go_wp2_with fail
  refine (H4 _).mono ?_
  rintro e w' ⟨rfl, rfl⟩
  go_wp2_with fail
  refine (H5 _).mono ?_
  rintro e w' ⟨rfl, rfl⟩
  go_wp2_with fail
  exact bodyPost_ret (v := rsv M N 29 E 0) (by simp [results, Try.results37, go_sem]) rfl ⟨rfl, ((Below.refl _ _).alloc (Nat.le_refl _) _).alloc (by simp) _⟩
set_option maxHeartbeats 800000 in
theorem r11tr2c (M N a b f k p q z : Int) (a1 : 0 ≤ a) (a2 : a ≤ 18) (b1 : 0 ≤ b) (b2 : b ≤ 3) (f1 : 0 ≤ f) (f2 : f ≤ 6) (m1 : 0 ≤ M) (m2 : M ≤ 29) (n1 : 0 ≤ N) (n2 : N ≤ 6) (k1 : 0 ≤ k) (k2 : k ≤ 10000000) (p1 : 0 ≤ p) (p2 : p ≤ 10000000) (q1 : 0 ≤ q) (q2 : q ≤ 10000000) (g : z < 19)
    (HK : ∀ w, Calls Try.prog 47 #[.int .i64 y, .int .i64 100] w fun e w' => e = .returned (.int .i64 (k)) ∧ w = w') (HP : ∀ w, Calls Try.prog 47 #[.int .i64 (13 + 8 * k), .int .i64 25] w fun e w' => e = .returned (.int .i64 (p)) ∧ w = w') (HQ : ∀ w, Calls Try.prog 47 #[.int .i64 k, .int .i64 4] w fun e w' => e = .returned (.int .i64 (q)) ∧ w = w')
    (HM : ∀ w, Calls Try.prog 48 #[.int .i64 (15 - p + k - q), .int .i64 30] w fun e w' => e = .returned (.int .i64 (M)) ∧ w = w') (HN : ∀ w, Calls Try.prog 48 #[.int .i64 (4 + k - q), .int .i64 7] w fun e w' => e = .returned (.int .i64 (N)) ∧ w = w')
    (H1 : ∀ w, Calls Try.prog 48 #[.int .i64 y, .int .i64 19] w fun e w' => e = .returned (.int .i64 (a)) ∧ w = w') (H2 : ∀ w, Calls Try.prog 48 #[.int .i64 y, .int .i64 4] w fun e w' => e = .returned (.int .i64 (b)) ∧ w = w') (H3 : ∀ w, Calls Try.prog 48 #[.int .i64 y, .int .i64 7] w fun e w' => e = .returned (.int .i64 (f)) ∧ w = w')
    (H4 : ∀ w, Calls Try.prog 48 #[.int .i64 (19 * a + M), .int .i64 30] w fun e w' => e = .returned (.int .i64 (28)) ∧ w = w') (H5 : ∀ w, Calls Try.prog 48 #[.int .i64 (2 * b + 4 * f + 168 + N), .int .i64 7] w fun e w' => e = .returned (.int .i64 (6)) ∧ w = w') (H6 : ∀ w, Calls Try.prog 48 #[.int .i64 (11 * M + 11), .int .i64 30] w fun e w' => e = .returned (.int .i64 (z)) ∧ w = w') :
    Calls Try.prog 37 #[.int .i64 2, .int .i64 y] W fun e w' => e = .returned (rsv M N 28 6 2) ∧ Below W.heap.size W w' := by
  go_enter Try.func37, Try.ntmps37
  go_wp2_with fail
  refine (HK _).mono ?_
  rintro e w' ⟨rfl, rfl⟩
  go_wp2_with fail
  refine (HP _).mono ?_
  rintro e w' ⟨rfl, rfl⟩
  go_wp2_with fail
  refine (HQ _).mono ?_
  rintro e w' ⟨rfl, rfl⟩
  go_wp2_with fail
  refine (HM _).mono ?_
  rintro e w' ⟨rfl, rfl⟩
  go_wp2_with fail
  refine (HN _).mono ?_
  rintro e w' ⟨rfl, rfl⟩
  go_wp2_with fail
  refine (H1 _).mono ?_
  rintro e w' ⟨rfl, rfl⟩
  go_wp2_with fail
  refine (H2 _).mono ?_
  rintro e w' ⟨rfl, rfl⟩
  go_wp2_with fail
  refine (H3 _).mono ?_
  rintro e w' ⟨rfl, rfl⟩
  go_wp2_with fail
  refine (H4 _).mono ?_
  rintro e w' ⟨rfl, rfl⟩
  go_wp2_with fail
  refine (H5 _).mono ?_
  rintro e w' ⟨rfl, rfl⟩
  go_wp2_with fail
  refine (H6 _).mono ?_
  rintro e w' ⟨rfl, rfl⟩
  go_wp2_with fail
  exact bodyPost_ret (v := rsv M N 28 6 2) (by simp [results, Try.results37, go_sem]) rfl ⟨rfl, ((Below.refl _ _).alloc (Nat.le_refl _) _).alloc (by simp) _⟩
set_option maxHeartbeats 800000 in
theorem r11tr2d (M N a b f k p q z : Int) (a1 : 0 ≤ a) (a2 : a ≤ 18) (b1 : 0 ≤ b) (b2 : b ≤ 3) (f1 : 0 ≤ f) (f2 : f ≤ 6) (m1 : 0 ≤ M) (m2 : M ≤ 29) (n1 : 0 ≤ N) (n2 : N ≤ 6) (k1 : 0 ≤ k) (k2 : k ≤ 10000000) (p1 : 0 ≤ p) (p2 : p ≤ 10000000) (q1 : 0 ≤ q) (q2 : q ≤ 10000000) (g : ¬ z < 19)
    (HK : ∀ w, Calls Try.prog 47 #[.int .i64 y, .int .i64 100] w fun e w' => e = .returned (.int .i64 (k)) ∧ w = w') (HP : ∀ w, Calls Try.prog 47 #[.int .i64 (13 + 8 * k), .int .i64 25] w fun e w' => e = .returned (.int .i64 (p)) ∧ w = w') (HQ : ∀ w, Calls Try.prog 47 #[.int .i64 k, .int .i64 4] w fun e w' => e = .returned (.int .i64 (q)) ∧ w = w')
    (HM : ∀ w, Calls Try.prog 48 #[.int .i64 (15 - p + k - q), .int .i64 30] w fun e w' => e = .returned (.int .i64 (M)) ∧ w = w') (HN : ∀ w, Calls Try.prog 48 #[.int .i64 (4 + k - q), .int .i64 7] w fun e w' => e = .returned (.int .i64 (N)) ∧ w = w')
    (H1 : ∀ w, Calls Try.prog 48 #[.int .i64 y, .int .i64 19] w fun e w' => e = .returned (.int .i64 (a)) ∧ w = w') (H2 : ∀ w, Calls Try.prog 48 #[.int .i64 y, .int .i64 4] w fun e w' => e = .returned (.int .i64 (b)) ∧ w = w') (H3 : ∀ w, Calls Try.prog 48 #[.int .i64 y, .int .i64 7] w fun e w' => e = .returned (.int .i64 (f)) ∧ w = w')
    (H4 : ∀ w, Calls Try.prog 48 #[.int .i64 (19 * a + M), .int .i64 30] w fun e w' => e = .returned (.int .i64 (28)) ∧ w = w') (H5 : ∀ w, Calls Try.prog 48 #[.int .i64 (2 * b + 4 * f + 168 + N), .int .i64 7] w fun e w' => e = .returned (.int .i64 (6)) ∧ w = w') (H6 : ∀ w, Calls Try.prog 48 #[.int .i64 (11 * M + 11), .int .i64 30] w fun e w' => e = .returned (.int .i64 (z)) ∧ w = w') :
    Calls Try.prog 37 #[.int .i64 2, .int .i64 y] W fun e w' => e = .returned (rsv M N 28 6 0) ∧ Below W.heap.size W w' := by
  go_enter Try.func37, Try.ntmps37
  go_wp2_with fail
  refine (HK _).mono ?_
  rintro e w' ⟨rfl, rfl⟩
  go_wp2_with fail
  refine (HP _).mono ?_
  rintro e w' ⟨rfl, rfl⟩
  go_wp2_with fail
  refine (HQ _).mono ?_
  rintro e w' ⟨rfl, rfl⟩
  go_wp2_with fail
  refine (HM _).mono ?_
  rintro e w' ⟨rfl, rfl⟩
  go_wp2_with fail
  refine (HN _).mono ?_
  rintro e w' ⟨rfl, rfl⟩
  go_wp2_with fail
  refine (H1 _).mono ?_
  rintro e w' ⟨rfl, rfl⟩
  go_wp2_with fail
  refine (H2 _).mono ?_
  rintro e w' ⟨rfl, rfl⟩
  go_wp2_with fail
  refine (H3 _).mono ?_
  rintro e w' ⟨rfl, rfl⟩
  go_wp2_with fail
  refine (H4 _).mono ?_
  rintro e w' ⟨rfl, rfl⟩
  go_wp2_with fail
  refine (H5 _).mono ?_
  rintro e w' ⟨rfl, rfl⟩
  go_wp2_with fail
  refine (H6 _).mono ?_
  rintro e w' ⟨rfl, rfl⟩
  go_wp2_with fail
  exact bodyPost_ret (v := rsv M N 28 6 0) (by simp [results, Try.results37, go_sem]) rfl ⟨rfl, ((Below.refl _ _).alloc (Nat.le_refl _) _).alloc (by simp) _⟩
set_option maxHeartbeats 800000 in
theorem r11tr2e (M N E a b f k p q : Int) (a1 : 0 ≤ a) (a2 : a ≤ 18) (b1 : 0 ≤ b) (b2 : b ≤ 3) (f1 : 0 ≤ f) (f2 : f ≤ 6) (m1 : 0 ≤ M) (m2 : M ≤ 29) (n1 : 0 ≤ N) (n2 : N ≤ 6) (k1 : 0 ≤ k) (k2 : k ≤ 10000000) (p1 : 0 ≤ p) (p2 : p ≤ 10000000) (q1 : 0 ≤ q) (q2 : q ≤ 10000000) (g : ¬ E = 6)
    (HK : ∀ w, Calls Try.prog 47 #[.int .i64 y, .int .i64 100] w fun e w' => e = .returned (.int .i64 (k)) ∧ w = w') (HP : ∀ w, Calls Try.prog 47 #[.int .i64 (13 + 8 * k), .int .i64 25] w fun e w' => e = .returned (.int .i64 (p)) ∧ w = w') (HQ : ∀ w, Calls Try.prog 47 #[.int .i64 k, .int .i64 4] w fun e w' => e = .returned (.int .i64 (q)) ∧ w = w')
    (HM : ∀ w, Calls Try.prog 48 #[.int .i64 (15 - p + k - q), .int .i64 30] w fun e w' => e = .returned (.int .i64 (M)) ∧ w = w') (HN : ∀ w, Calls Try.prog 48 #[.int .i64 (4 + k - q), .int .i64 7] w fun e w' => e = .returned (.int .i64 (N)) ∧ w = w')
    (H1 : ∀ w, Calls Try.prog 48 #[.int .i64 y, .int .i64 19] w fun e w' => e = .returned (.int .i64 (a)) ∧ w = w') (H2 : ∀ w, Calls Try.prog 48 #[.int .i64 y, .int .i64 4] w fun e w' => e = .returned (.int .i64 (b)) ∧ w = w') (H3 : ∀ w, Calls Try.prog 48 #[.int .i64 y, .int .i64 7] w fun e w' => e = .returned (.int .i64 (f)) ∧ w = w')
    (H4 : ∀ w, Calls Try.prog 48 #[.int .i64 (19 * a + M), .int .i64 30] w fun e w' => e = .returned (.int .i64 (28)) ∧ w = w') (H5 : ∀ w, Calls Try.prog 48 #[.int .i64 (2 * b + 4 * f + 168 + N), .int .i64 7] w fun e w' => e = .returned (.int .i64 (E)) ∧ w = w') :
    Calls Try.prog 37 #[.int .i64 2, .int .i64 y] W fun e w' => e = .returned (rsv M N 28 E 0) ∧ Below W.heap.size W w' := by
  go_enter Try.func37, Try.ntmps37
  go_wp2_with fail
  refine (HK _).mono ?_
  rintro e w' ⟨rfl, rfl⟩
  go_wp2_with fail
  refine (HP _).mono ?_
  rintro e w' ⟨rfl, rfl⟩
  go_wp2_with fail
  refine (HQ _).mono ?_
  rintro e w' ⟨rfl, rfl⟩
  go_wp2_with fail
  refine (HM _).mono ?_
  rintro e w' ⟨rfl, rfl⟩
  go_wp2_with fail
  refine (HN _).mono ?_
  rintro e w' ⟨rfl, rfl⟩
  go_wp2_with fail
  refine (H1 _).mono ?_
  rintro e w' ⟨rfl, rfl⟩
  go_wp2_with fail
  refine (H2 _).mono ?_
  rintro e w' ⟨rfl, rfl⟩
  go_wp2_with fail
  refine (H3 _).mono ?_
  rintro e w' ⟨rfl, rfl⟩
  go_wp2_with fail
  refine (H4 _).mono ?_
  rintro e w' ⟨rfl, rfl⟩
  go_wp2_with fail
  refine (H5 _).mono ?_
  rintro e w' ⟨rfl, rfl⟩
  go_wp2_with fail
  exact bodyPost_ret (v := rsv M N 28 E 0) (by simp [results, Try.results37, go_sem]) rfl ⟨rfl, ((Below.refl _ _).alloc (Nat.le_refl _) _).alloc (by simp) _⟩
set_option maxHeartbeats 800000 in
theorem r11tr2f (M N D E a b f k p q : Int) (a1 : 0 ≤ a) (a2 : a ≤ 18) (b1 : 0 ≤ b) (b2 : b ≤ 3) (f1 : 0 ≤ f) (f2 : f ≤ 6) (m1 : 0 ≤ M) (m2 : M ≤ 29) (n1 : 0 ≤ N) (n2 : N ≤ 6) (k1 : 0 ≤ k) (k2 : k ≤ 10000000) (p1 : 0 ≤ p) (p2 : p ≤ 10000000) (q1 : 0 ≤ q) (q2 : q ≤ 10000000) (d1 : 0 ≤ D) (d2 : D ≤ 29) (g1 : ¬ D = 29) (g2 : ¬ D = 28)
    (HK : ∀ w, Calls Try.prog 47 #[.int .i64 y, .int .i64 100] w fun e w' => e = .returned (.int .i64 (k)) ∧ w = w') (HP : ∀ w, Calls Try.prog 47 #[.int .i64 (13 + 8 * k), .int .i64 25] w fun e w' => e = .returned (.int .i64 (p)) ∧ w = w') (HQ : ∀ w, Calls Try.prog 47 #[.int .i64 k, .int .i64 4] w fun e w' => e = .returned (.int .i64 (q)) ∧ w = w')
    (HM : ∀ w, Calls Try.prog 48 #[.int .i64 (15 - p + k - q), .int .i64 30] w fun e w' => e = .returned (.int .i64 (M)) ∧ w = w') (HN : ∀ w, Calls Try.prog 48 #[.int .i64 (4 + k - q), .int .i64 7] w fun e w' => e = .returned (.int .i64 (N)) ∧ w = w')
    (H1 : ∀ w, Calls Try.prog 48 #[.int .i64 y, .int .i64 19] w fun e w' => e = .returned (.int .i64 (a)) ∧ w = w') (H2 : ∀ w, Calls Try.prog 48 #[.int .i64 y, .int .i64 4] w fun e w' => e = .returned (.int .i64 (b)) ∧ w = w') (H3 : ∀ w, Calls Try.prog 48 #[.int .i64 y, .int .i64 7] w fun e w' => e = .returned (.int .i64 (f)) ∧ w = w')
    (H4 : ∀ w, Calls Try.prog 48 #[.int .i64 (19 * a + M), .int .i64 30] w fun e w' => e = .returned (.int .i64 (D)) ∧ w = w') (H5 : ∀ w, Calls Try.prog 48 #[.int .i64 (2 * b + 4 * f + 6 * D + N), .int .i64 7] w fun e w' => e = .returned (.int .i64 (E)) ∧ w = w') :
    Calls Try.prog 37 #[.int .i64 2, .int .i64 y] W fun e w' => e = .returned (rsv M N D E 0) ∧ Below W.heap.size W w' := by
  go_enter Try.func37, Try.ntmps37
  go_wp2_with fail
  refine (HK _).mono ?_
  rintro e w' ⟨rfl, rfl⟩
  go_wp2_with fail
  refine (HP _).mono ?_
  rintro e w' ⟨rfl, rfl⟩
  go_wp2_with fail
  refine (HQ _).mono ?_
  rintro e w' ⟨rfl, rfl⟩
  go_wp2_with fail
  refine (HM _).mono ?_
  rintro e w' ⟨rfl, rfl⟩
  go_wp2_with fail
  refine (HN _).mono ?_
  rintro e w' ⟨rfl, rfl⟩
  go_wp2_with fail
  refine (H1 _).mono ?_
  rintro e w' ⟨rfl, rfl⟩
  go_wp2_with fail
  refine (H2 _).mono ?_
  rintro e w' ⟨rfl, rfl⟩
  go_wp2_with fail
  refine (H3 _).mono ?_
  rintro e w' ⟨rfl, rfl⟩
  go_wp2_with fail
  refine (H4 _).mono ?_
  rintro e w' ⟨rfl, rfl⟩
  go_wp2_with fail
  refine (H5 _).mono ?_
  rintro e w' ⟨rfl, rfl⟩
  go_wp2_with fail
  exact bodyPost_ret (v := rsv M N D E 0) (by simp [results, Try.results37, go_sem]) rfl ⟨rfl, ((Below.refl _ _).alloc (Nat.le_refl _) _).alloc (by simp) _⟩
end
theorem r11trace_any (c y : Int) (W : World) (h : epE c y = 0) : Calls Try.prog 37 #[.int .i64 c, .int .i64 y] W fun e w' => e = .returned (rsv (uM c y) (uN c y) (uD c y) (uE c y) (uX c y)) ∧ Below W.heap.size W w' := by
  obtain ⟨y1, y2⟩ := epE_inY h
  have iy : inR y = true := inR_iff.2 (by omega)
  have H1 := fun w => rmod_pos y 19 w iy (by omega) (by decide)
  have H2 := fun w => rmod_pos y 4 w iy (by omega) (by decide)
  have H3 := fun w => rmod_pos y 7 w iy (by omega) (by decide)
  obtain ⟨m1, m2⟩ := uM_bd c y
  obtain ⟨n1, n2⟩ := uN_bd c y
  obtain ⟨d1, d2⟩ := uD_bd c y
  obtain ⟨e1, e2⟩ := uE_bd c y
  rcases (epE_zero h).1 with rfl | rfl
  · exact r11tr1 y W _ _ _ _ _ (by omega) (by omega) (by omega) (by omega) (by omega) (by omega) d1 d2 H1 H2 H3 (fun w => rmod_pos _ 30 w (inR_iff.2 (by omega)) (by omega) (by decide)) (fun w => rmod_pos _ 7 w (inR_iff.2 (by omega)) (by omega) (by decide))
  · have HK := fun w => rdiv_pos y 100 w iy (by omega)
    have k1 : 0 ≤ y / 100 := by omega
    have k2 : y / 100 ≤ 10000000 := by omega
    have p1 : 0 ≤ (13 + 8 * (y / 100)) / 25 := by omega
    have p2 : (13 + 8 * (y / 100)) / 25 ≤ 10000000 := by omega
    have q1 : 0 ≤ y / 100 / 4 := by omega
    have q2 : y / 100 / 4 ≤ 10000000 := by omega
    have HP := fun w => rdiv_pos (13 + 8 * (y / 100)) 25 w (inR_iff.2 (by omega)) (by omega)
    have HQ := fun w => rdiv_pos (y / 100) 4 w (inR_iff.2 (by omega)) (by omega)
    have HM := fun w => rmod_pos (15 - (13 + 8 * (y / 100)) / 25 + y / 100 - y / 100 / 4) 30 w (inR_iff.2 (by omega)) (by omega) (by decide)
    have HN := fun w => rmod_pos (4 + y / 100 - y / 100 / 4) 7 w (inR_iff.2 (by omega)) (by omega) (by decide)
    rw [← uM2] at HM
    rw [← uN2] at HN
    have H4 := fun w => rmod_pos (19 * (y % 19) + uM 2 y) 30 w (inR_iff.2 (by omega)) (by omega) (by decide)
    rw [show (19 * (y % 19) + uM 2 y) % 30 = uD 2 y from rfl] at H4
    have H5 := fun w => rmod_pos (2 * (y % 4) + 4 * (y % 7) + 6 * uD 2 y + uN 2 y) 7 w (inR_iff.2 (by omega)) (by omega) (by decide)
    rw [show (2 * (y % 4) + 4 * (y % 7) + 6 * uD 2 y + uN 2 y) % 7 = uE 2 y from rfl] at H5
    have H6 := fun w => rmod_pos (11 * uM 2 y + 11) 30 w (inR_iff.2 (by omega)) (by omega) (by decide)
    have hx := uX_val 2 y (Or.inr rfl)
    generalize (11 * uM 2 y + 11) % 30 = z at *
    generalize uX 2 y = x at *
    generalize uE 2 y = g at *
    generalize uD 2 y = d at *
    by_cases h29 : d = 29
    · subst h29
      rw [show (6 : Int) * 29 = 174 from rfl] at H5
      by_cases h6 : g = 6
      · subst h6
        obtain rfl : x = 1 := by omega
        exact r11tr2a y W _ _ _ _ _ _ _ _ (by omega) (by omega) (by omega) (by omega) (by omega) (by omega) m1 m2 n1 n2 k1 k2 p1 p2 q1 q2 HK HP HQ HM HN H1 H2 H3 H4 H5
      · obtain rfl : x = 0 := by omega
        exact r11tr2b y W _ _ _ _ _ _ _ _ _ (by omega) (by omega) (by omega) (by omega) (by omega) (by omega) m1 m2 n1 n2 k1 k2 p1 p2 q1 q2 h6 HK HP HQ HM HN H1 H2 H3 H4 H5
    · by_cases h28 : d = 28
      · subst h28
        rw [show (6 : Int) * 28 = 168 from rfl] at H5
        by_cases h6 : g = 6
        · subst h6
          by_cases hz : z < 19
          · obtain rfl : x = 2 := by omega
            exact r11tr2c y W _ _ _ _ _ _ _ _ _ (by omega) (by omega) (by omega) (by omega) (by omega) (by omega) m1 m2 n1 n2 k1 k2 p1 p2 q1 q2 hz HK HP HQ HM HN H1 H2 H3 H4 H5 H6
          · obtain rfl : x = 0 := by omega
            exact r11tr2d y W _ _ _ _ _ _ _ _ _ (by omega) (by omega) (by omega) (by omega) (by omega) (by omega) m1 m2 n1 n2 k1 k2 p1 p2 q1 q2 hz HK HP HQ HM HN H1 H2 H3 H4 H5 H6
        · obtain rfl : x = 0 := by omega
          exact r11tr2e y W _ _ _ _ _ _ _ _ _ (by omega) (by omega) (by omega) (by omega) (by omega) (by omega) m1 m2 n1 n2 k1 k2 p1 p2 q1 q2 h6 HK HP HQ HM HN H1 H2 H3 H4 H5
      · obtain rfl : x = 0 := by omega
        exact r11tr2f y W _ _ _ _ _ _ _ _ _ _ (by omega) (by omega) (by omega) (by omega) (by omega) (by omega) m1 m2 n1 n2 k1 k2 p1 p2 q1 q2 d1 d2 h29 h28 HK HP HQ HM HN H1 H2 H3 H4 H5
section
variable (c y : Int) (W : World)
theorem r11d1 (M N D E : Int) (H : ∀ w, Calls Try.prog 37 #[.int .i64 c, .int .i64 y] w fun e w' => e = .returned (rsv M N D E 1) ∧ Below w.heap.size w w') : Calls Try.prog 29 #[.int .i64 c, .int .i64 y] W fun e w' => e = .returned (dtv y 4 19) ∧ Below W.heap.size W w' := by
  go_enter Try.func29, Try.ntmps29
  go_wp2_with fail
  refine (H _).mono ?_
  rintro e w1 ⟨rfl, b1⟩
  have A1 : Hid (w1.heap[W.heap.size]? = some zdate) := Lib.hid (row_on (heap_alloc_new _ _) b1)
  have B1 : Hid (Below W.heap.size W w1) := Lib.hid (below_al1 b1)
  clear b1
  obtain ⟨d0, d1, d2, g0, g1, g2, z'⟩ := row3 A1.out
  have nz := Nat.ne_of_lt z'
  have nz' := nz.symm
  go_wp2_with fail
  generalize hu : (((w1.setCell ⟨W.heap.size, 0, none⟩ (.int .i64 y)).setCell ⟨W.heap.size, 1, none⟩ (.int .i64 4)).setCell ⟨W.heap.size, 2, none⟩ (.int .i64 19)).alloc (riv M N D E 1) = u
  obtain ⟨k0, k1, k2, kb⟩ := three_al _ _ _ A1.out hu
  have Hb := Lib.hid (kb _ B1.out (Nat.le_refl _))
  clear hu
  exact bodyPost_ret (v := dtv y 4 19) (by simp [results, Try.results29, go_sem, k0, k1, k2]) rfl ⟨rfl, Hb.out⟩
theorem r11d2 (M N D E : Int) (H : ∀ w, Calls Try.prog 37 #[.int .i64 c, .int .i64 y] w fun e w' => e = .returned (rsv M N D E 2) ∧ Below w.heap.size w w') : Calls Try.prog 29 #[.int .i64 c, .int .i64 y] W fun e w' => e = .returned (dtv y 4 18) ∧ Below W.heap.size W w' := by
  go_enter Try.func29, Try.ntmps29
  go_wp2_with fail
  refine (H _).mono ?_
  rintro e w1 ⟨rfl, b1⟩
  have A1 : Hid (w1.heap[W.heap.size]? = some zdate) := Lib.hid (row_on (heap_alloc_new _ _) b1)
  have B1 : Hid (Below W.heap.size W w1) := Lib.hid (below_al1 b1)
  clear b1
  obtain ⟨d0, d1, d2, g0, g1, g2, z'⟩ := row3 A1.out
  have nz := Nat.ne_of_lt z'
  have nz' := nz.symm
  go_wp2_with fail
  generalize hu : (((w1.setCell ⟨W.heap.size, 0, none⟩ (.int .i64 y)).setCell ⟨W.heap.size, 1, none⟩ (.int .i64 4)).setCell ⟨W.heap.size, 2, none⟩ (.int .i64 18)).alloc (riv M N D E 2) = u
  obtain ⟨k0, k1, k2, kb⟩ := three_al _ _ _ A1.out hu
  have Hb := Lib.hid (kb _ B1.out (Nat.le_refl _))
  clear hu
  exact bodyPost_ret (v := dtv y 4 18) (by simp [results, Try.results29, go_sem, k0, k1, k2]) rfl ⟨rfl, Hb.out⟩
theorem r11d3 (M N D E : Int) (H : ∀ w, Calls Try.prog 37 #[.int .i64 c, .int .i64 y] w fun e w' => e = .returned (rsv M N D E 0) ∧ Below w.heap.size w w') (q1 : 0 ≤ D) (q2 : D ≤ 29) (q3 : 0 ≤ E) (q4 : E ≤ 6) (hq : ¬ 31 < 22 + D + E) : Calls Try.prog 29 #[.int .i64 c, .int .i64 y] W fun e w' => e = .returned (dtv y 3 (22 + D + E)) ∧ Below W.heap.size W w' := by
  go_enter Try.func29, Try.ntmps29
  go_wp2_with fail
  refine (H _).mono ?_
  rintro e w1 ⟨rfl, b1⟩
  have A1 : Hid (w1.heap[W.heap.size]? = some zdate) := Lib.hid (row_on (heap_alloc_new _ _) b1)
  have B1 : Hid (Below W.heap.size W w1) := Lib.hid (below_al1 b1)
  clear b1
  obtain ⟨d0, d1, d2, g0, g1, g2, z'⟩ := row3 A1.out
  have nz := Nat.ne_of_lt z'
  have nz' := nz.symm
  go_wp2_with fail
  generalize hu : (((w1.setCell ⟨W.heap.size, 0, none⟩ (.int .i64 y)).setCell ⟨W.heap.size, 1, none⟩ (.int .i64 3)).setCell ⟨W.heap.size, 2, none⟩ (.int .i64 (22 + D + E))).alloc (riv M N D E 0) = u
  obtain ⟨k0, k1, k2, kb⟩ := three_al _ _ _ A1.out hu
  have Hb := Lib.hid (kb _ B1.out (Nat.le_refl _))
  clear hu
  exact bodyPost_ret (v := dtv y 3 (22 + D + E)) (by simp [results, Try.results29, go_sem, k0, k1, k2]) rfl ⟨rfl, Hb.out⟩
theorem r11d4 (M N D E : Int) (H : ∀ w, Calls Try.prog 37 #[.int .i64 c, .int .i64 y] w fun e w' => e = .returned (rsv M N D E 0) ∧ Below w.heap.size w w') (q1 : 0 ≤ D) (q2 : D ≤ 29) (q3 : 0 ≤ E) (q4 : E ≤ 6) (hq : 31 < 22 + D + E) : Calls Try.prog 29 #[.int .i64 c, .int .i64 y] W fun e w' => e = .returned (dtv y 4 (22 + D + E - 31)) ∧ Below W.heap.size W w' := by
  go_enter Try.func29, Try.ntmps29
  go_wp2_with fail
  refine (H _).mono ?_
  rintro e w1 ⟨rfl, b1⟩
  have A1 : Hid (w1.heap[W.heap.size]? = some zdate) := Lib.hid (row_on (heap_alloc_new _ _) b1)
  have B1 : Hid (Below W.heap.size W w1) := Lib.hid (below_al1 b1)
  clear b1
  obtain ⟨d0, d1, d2, g0, g1, g2, z'⟩ := row3 A1.out
  have nz := Nat.ne_of_lt z'
  have nz' := nz.symm
  go_wp2_with fail
  generalize hu : (((w1.setCell ⟨W.heap.size, 0, none⟩ (.int .i64 y)).setCell ⟨W.heap.size, 1, none⟩ (.int .i64 4)).setCell ⟨W.heap.size, 2, none⟩ (.int .i64 (22 + D + E - 31))).alloc (riv M N D E 0) = u
  obtain ⟨k0, k1, k2, kb⟩ := three_al _ _ _ A1.out hu
  have Hb := Lib.hid (kb _ B1.out (Nat.le_refl _))
  clear hu
  exact bodyPost_ret (v := dtv y 4 (22 + D + E - 31)) (by simp [results, Try.results29, go_sem, k0, k1, k2]) rfl ⟨rfl, Hb.out⟩
theorem r11date_any (h : epE c y = 0) : Calls Try.prog 29 #[.int .i64 c, .int .i64 y] W fun e w' => e = .returned (dtv y (marM (uO c y)) (marD (uO c y))) ∧ Below W.heap.size W w' := by
  have H := fun w => r11trace_any c y w h
  obtain ⟨d1, d2⟩ := uD_bd c y
  obtain ⟨e1, e2⟩ := uE_bd c y
  rcases uX_cases c y with ⟨x, _⟩ | ⟨x, _⟩ | ⟨x, _⟩
  · rw [x] at H
    rw [show uO c y = 29 by unfold uO; rw [if_pos x]]
    exact r11d1 c y W _ _ _ _ H
  · rw [x] at H
    rw [show uO c y = 28 by unfold uO; rw [if_neg (by omega), if_pos x]]
    exact r11d2 c y W _ _ _ _ H
  · rw [x] at H
    rw [show uO c y = uD c y + uE c y + 1 by unfold uO; rw [if_neg (by omega), if_neg (by omega)]]
    rw [marM_u, marD_u, show 21 + (uD c y + uE c y + 1) = 22 + uD c y + uE c y by omega]
    by_cases hq : 22 + uD c y + uE c y ≤ 31
    · rw [if_pos hq, if_pos hq]; exact r11d3 c y W _ _ _ _ H d1 d2 e1 e2 (by omega)
    · rw [if_neg hq, if_neg hq]; exact r11d4 c y W _ _ _ _ H d1 d2 e1 e2 (by omega)
end
end Go.Proofs.Ytnaglaecoephnaa

namespace Go.Proofs.Ytnaglaecoephnaa
open Go.RowKit

/-- What was in memory is as it was. -/
structure Bst (W w : World) : Prop where
  b : Below W.heap.size W w
theorem Bst.start (W : World) : Bst W W := ⟨Below.refl _ _⟩
theorem Bst.on {W w w' : World} (h : Bst W w) (hb : Below w.heap.size w w') : Bst W w' := ⟨below_on h.b hb⟩
theorem Bst.al {W w : World} (h : Bst W w) (o : Obj) : Bst W (w.alloc o) := h.on ((Below.refl w.heap.size w).alloc (Nat.le_refl _) o)
/-- Two structs of five cells and one of three between them, in memory. -/
def Thr (W : World) (bS bD bT : Nat) (m n d f x y p q : Int) (u : World) : Prop := u.cell? ⟨bS, 0, none⟩ = some (.int .i64 m) ∧ u.cell? ⟨bS, 1, none⟩ = some (.int .i64 n) ∧ u.cell? ⟨bS, 2, none⟩ = some (.int .i64 d) ∧ u.cell? ⟨bS, 3, none⟩ = some (.int .i64 f) ∧ u.cell? ⟨bS, 4, none⟩ = some (.int .i64 x) ∧ u.cell? ⟨bD, 0, none⟩ = some (.int .i64 y) ∧ u.cell? ⟨bD, 1, none⟩ = some (.int .i64 p) ∧ u.cell? ⟨bD, 2, none⟩ = some (.int .i64 q) ∧ u.cell? ⟨bT, 0, none⟩ = some (.int .i64 m) ∧ u.cell? ⟨bT, 1, none⟩ = some (.int .i64 n) ∧ u.cell? ⟨bT, 2, none⟩ = some (.int .i64 d) ∧ u.cell? ⟨bT, 3, none⟩ = some (.int .i64 f) ∧ u.cell? ⟨bT, 4, none⟩ = some (.int .i64 x) ∧ Below W.heap.size W u
theorem Thr.on {W : World} {bS bD bT : Nat} {m n d f x y p q : Int} {u u' : World} (h : Thr W bS bD bT m n d f x y p q u) (hb : Below u.heap.size u u') : Thr W bS bD bT m n d f x y p q u' := by
  obtain ⟨a0, a1, a2, a3, a4, a5, a6, a7, a8, a9, a10, a11, a12, z⟩ := h
  exact ⟨cell_below a0 hb, cell_below a1 hb, cell_below a2 hb, cell_below a3 hb, cell_below a4 hb, cell_below a5 hb, cell_below a6 hb, cell_below a7 hb, cell_below a8 hb, cell_below a9 hb, cell_below a10 hb, cell_below a11 hb, cell_below a12 hb, below_on z hb⟩
theorem Thr.drew {W : World} {bS bD bT : Nat} {m n d f x y p q : Int} {u : World} (h : Thr W bS bD bT m n d f x y p q u) : Thr W bS bD bT m n d f x y p q u.drew := h.on (below_dn (Below.refl _ _) 1)
end Go.Proofs.Ytnaglaecoephnaa

namespace Go.Proofs.Ytnaglaecoephnaa

theorem u_week {c y : Int} (hc : c = 1 ∨ c = 2) : (uE c y + uD c y + marN c y) % 7 = 6 := by
  have hd : uE c y = (2 * (y % 4) + 4 * (y % 7) + 6 * uD c y + uN c y) % 7 := rfl
  rw [hd]
  generalize uD c y = d
  rcases hc with rfl | rfl
  · have hm : marN 1 y = -1 + (y - 1) * 365 + (y - 1) / 4 + 59 + l01 (jlp y) + 20 := by
      show jfst y + cum (jlp y) 3 + 21 - 1 = _
      unfold jfst cum; rw [if_neg (by omega)]; omega
    have hl : l01 (jlp y) = y / 4 - (y - 1) / 4 := by
      unfold jlp
      by_cases h : y % 4 = 0
      · rw [decide_eq_true h]; show 1 = _; omega
      · rw [decide_eq_false h]; show 0 = _; omega
    have hm2 : marN 1 y = y * 365 - 287 + y / 4 := by rw [hm, hl]; omega
    rw [hm2, show uN 1 y = 6 from rfl]
    clear hm hl hm2 hd
    omega
  · have hm : marN 2 y = 1 + (y - 1) * 365 + ((y - 1) / 4 - (y - 1) / 100 + (y - 1) / 400) + 59 + l01 (glp y) + 20 := by
      show gfst y + cum (glp y) 3 + 21 - 1 = _
      unfold gfst cum; rw [if_neg (by omega)]; omega
    have hs := gstep y
    unfold gfst at hs
    have e : (y + 1 - 1 : Int) = y := by omega
    rw [e] at hs
    have hl : l01 (glp y) = y / 4 - y / 100 + y / 400 - ((y - 1) / 4 - (y - 1) / 100 + (y - 1) / 400) := by omega
    have hn : uN 2 y = (4 + y / 100 - y / 100 / 4) % 7 := rfl
    have hq : y / 400 = y / 100 / 4 := by omega
    have hm2 : marN 2 y = y * 365 - 285 + y / 4 - y / 100 + y / 100 / 4 := by rw [hm, hl, hq]; omega
    rw [hm2, hn]
    clear hm hl hs hm2 hq hd hn e
    generalize y / 100 / 4 = q
    generalize y / 100 = k
    omega
theorem u_dist {c y : Int} (hc : c = 1 ∨ c = 2) : (uD c y + epF c y - 23) % 30 = 0 := by
  unfold uD epF
  rcases hc with rfl | rfl
  · unfold epJ uM gold; simp only [if_true]; omega
  · unfold epG uM gold solr lunr cent
    rw [if_neg (by omega), if_neg (by omega)]
    have hq : 3 * (y / 100 + 1) / 4 = y / 100 - y / 100 / 4 := by
      generalize y / 100 = k
      omega
    have hp : (8 * (y / 100 + 1) + 5) / 25 = (13 + 8 * (y / 100)) / 25 := by congr 1; omega
    rw [hq, hp]
    omega
/-- The condition of the second exception is that of the label's variant. -/
theorem u_two {c y : Int} (hd : uD c y = 28) : ((11 * uM c y + 11) % 30 < 19) ↔ 11 < gold y := by
  unfold uD at hd
  unfold gold
  generalize uM c y = m at *
  have : y % 19 < 19 := by omega
  have : 0 ≤ y % 19 := by omega
  generalize y % 19 = a at *
  have : (11 * m + 11) % 30 = (19 + a) % 30 := by
    obtain ⟨t, ht⟩ : ∃ t, m = 28 - 19 * a + 30 * t := ⟨(19 * a + m) / 30, by omega⟩
    omega
  omega
theorem u_ep {c y : Int} (hc : c = 1 ∨ c = 2) : epc c y = if uD c y ≤ 22 then 23 - uD c y else 53 - uD c y := by
  have h := u_dist (y := y) hc
  have hb := uD_bd c y
  have h2 := ep30_bd (epF c y)
  have h3 := ep30_mod (epF c y)
  show ep30 (epF c y) = _
  split <;> omega
/-- How far behind 21 March the full moon is, by D. -/
theorem u_off {c y : Int} (hc : c = 1 ∨ c = 2) : (off (lab c y) : Int) = if uD c y = 29 then 28 else if uD c y = 28 ∧ 11 < gold y then 27 else uD c y := by
  have he := u_ep (y := y) hc
  have hb := uD_bd c y
  have x : (off (lab c y) : Int) = offX (lab c y) := off_x (lab_bd c y).1 (lab_bd c y).2
  have hl : lab c y = lbl (epc c y) (gold y) := rfl
  rw [x, hl, he]
  generalize uD c y = d at *
  generalize gold y = g at *
  clear he x hl
  by_cases h22 : d ≤ 22
  · have e : lbl (23 - d) g = 23 - d := by unfold lbl; rw [if_neg (by omega)]
    rw [if_pos h22, e, if_neg (by omega), if_neg (by omega)]
    unfold offX; rw [if_pos (by omega)]; omega
  · rw [if_neg h22]
    by_cases h29 : d = 29
    · have e : lbl (53 - d) g = 24 := by unfold lbl; rw [if_neg (by omega)]; omega
      rw [e, if_pos h29]; rfl
    · rw [if_neg h29]
      by_cases hv : d = 28 ∧ 11 < g
      · have e : lbl (53 - d) g = 31 := by unfold lbl; rw [if_pos (by omega)]
        rw [e, if_pos hv]; rfl
      · have e : lbl (53 - d) g = 53 - d := by unfold lbl; rw [if_neg (by omega)]
        rw [e, if_neg hv]
        unfold offX; rw [if_neg (by omega), if_neg (by omega), if_pos (by omega)]; omega
/-- The method's Easter is that of the tables. -/
theorem u_easter {c y : Int} (hc : c = 1 ∨ c = 2) : uO c y = eaO c y := by
  have hw := u_week (y := y) hc
  have ho := u_off (y := y) hc
  have hb := uD_bd c y
  have hb2 := uE_bd c y
  have ht := u_two (c := c) (y := y)
  have hx := uX_cases c y
  have hj : c = 1 → ¬ uD c y = 29 ∧ (uD c y = 28 → ¬ 11 < gold y) := fun h => by subst h; exact jul_ep y
  unfold eaO uO
  generalize (off (lab c y) : Int) = o at *
  generalize uX c y = x at *
  generalize uD c y = d at *
  generalize uE c y = e at *
  generalize marN c y = n at *
  generalize gold y = g at *
  generalize (11 * uM c y + 11) % 30 = z at *
  have hd : (d = 29 ∧ o = 28) ∨ (d = 28 ∧ 11 < g ∧ o = 27) ∨ (¬ d = 29 ∧ ¬ (d = 28 ∧ 11 < g) ∧ o = d) := by
    split at ho
    · omega
    · split at ho <;> omega
  clear ho
  rcases hx with ⟨rfl, h1, h2, h3⟩ | ⟨rfl, h1, h2, h3, h4⟩ | ⟨rfl, h⟩
  · rw [if_pos rfl]; omega
  · rw [if_neg (by omega), if_pos rfl]
    have := (ht h3).1 h4
    omega
  · rw [if_neg (by omega), if_neg (by omega)]
    rcases hd with ⟨rfl, rfl⟩ | ⟨rfl, h5, rfl⟩ | ⟨h5, h6, rfl⟩
    · omega
    · have := (ht rfl).2 h5
      omega
    · omega
end Go.Proofs.Ytnaglaecoephnaa
