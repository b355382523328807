/- What earlier stages proved: Ym. -/
import Derived.Test.YtkhicgafhbecfaaGreatDoorP2
import Derived.Test.YtkhicgafhbecfaaGreatDoorKv
namespace Go.Proofs.YtkhicgafhbecfaaGreatDoor
open Go.RowKit

theorem al4 (w : World) (o1 o2 o3 o4 : Obj) : Below w.heap.size w ((((w.alloc o1).alloc o2).alloc o3).alloc o4) := (al3 w o1 o2 o3).alloc (by simp; omega) o4
set_option maxRecDepth 100000 in
set_option maxHeartbeats 2000000 in
theorem r26num_go {S : ByteArray} {w : World} {k0 k1 k2 : Nat} {b0 b1 b2 : Bool} {j : Int} {n : Int} (H1 : ∀ u : World, Calls Tryz.prog 23 #[sv S k0 b0, .slice (some ⟨u.heap.size, 0, none⟩) 1 1] (u.alloc (.cells #[.string ⟨#[32]⟩] 9)) fun r w' => r = .returned (.tuple #[sv S k1 b1, .int .i64 j]) ∧ Below u.heap.size u w') (H2 : ∀ u : World, Calls Tryz.prog 54 #[sv S k1 b1] u fun r w' => r = .returned (.tuple #[sv S k2 b2, .int .i64 n]) ∧ Below u.heap.size u w') :
    Calls Tryz.prog 24 #[sv S k0 b0] w fun r w' => r = .returned (.tuple #[sv S k2 b2, .int .i64 n]) ∧ Below w.heap.size w w' := by
  have H1 := Lib.hid H1
  have H2 := Lib.hid H2
  go_enter Tryz.func24, Tryz.ntmps24
  go_wp2_with fail
  obtain ⟨u, hu⟩ : ∃ u, u = ((w.alloc (.cells #[.string S, .int .i64 k0, .bool b0] 52)).alloc (.cells #[.string ⟨#[]⟩, .int .i64 0, .bool false] 52)) := ⟨_, rfl⟩
  have hb : Below w.heap.size w u := hu ▸ al2 w _ _
  have rP : u.heap[w.heap.size]? = some (.cells #[.string S, .int .i64 k0, .bool b0] 52 (0, 0)) := hu ▸ row_on (heap_alloc_new _ _) (al1 _ _)
  have rR : u.heap[w.heap.size + 1]? = some (.cells #[.string ⟨#[]⟩, .int .i64 0, .bool false] 52 (0, 0)) := hu ▸ row_new1 _ _ _
  have hz : w.heap.size + 1 + 1 = u.heap.size := by rw [hu]; simp
  rw [← hu]
  clear hu
  generalize hP : w.heap.size = P at *
  generalize hR : P + 1 = R at *
  rw [hz]
  clear hz
  refine (H1.out (u)).mono ?_
  rintro e1 w1 ⟨rfl, g1⟩
  have rP_1 := row_kept rP g1
  have rR_1 := row_kept rR g1
  have hb1 : Below P w w1 := hb.trans (g1.mono (by first | exact hb.size | (have := hb.size; omega)))
  have aP1 := row_kept rP_1 (al1 (w1) (.cells #[.string S, .int .i64 k1, .bool b1] 52))
  have aR1 := row_kept rR_1 (al1 (w1) (.cells #[.string S, .int .i64 k1, .bool b1] 52))
  have aC1 : (w1.alloc (.cells #[.string S, .int .i64 k1, .bool b1] 52)).heap[(w1).heap.size]? = some (.cells #[.string S, .int .i64 k1, .bool b1] 52 (0, 0)) := heap_alloc_new _ _
  have hba1 : Below P w (w1.alloc (.cells #[.string S, .int .i64 k1, .bool b1] 52)) := hb1.alloc (by have := hb1.size; omega) _
  go_wp2_with fail
  refine (H2.out (w1.alloc (.cells #[.string S, .int .i64 k1, .bool b1] 52))).mono ?_
  rintro e2 w2 ⟨rfl, g2⟩
  have rP_2 := row_kept aP1 g2
  have rR_2 := row_kept aR1 g2
  have hb2 : Below P w w2 := hba1.trans (g2.mono (by first | exact hba1.size | (have := hba1.size; omega)))
  have cR0_2 : w2.cell? ⟨R, 0, none⟩ = some (.string ⟨#[]⟩) := by rw [cell_of_row _ R 0 _ _ _ rR_2]; rfl
  have fR0_2 : w2.frozen? ⟨R, 0, none⟩ = false := frozen_of_row _ R 0 _ _ rR_2
  have cR1_2 : w2.cell? ⟨R, 1, none⟩ = some (.int .i64 0) := by rw [cell_of_row _ R 1 _ _ _ rR_2]; rfl
  have fR1_2 : w2.frozen? ⟨R, 1, none⟩ = false := frozen_of_row _ R 1 _ _ rR_2
  have cR2_2 : w2.cell? ⟨R, 2, none⟩ = some (.bool false) := by rw [cell_of_row _ R 2 _ _ _ rR_2]; rfl
  have fR2_2 : w2.frozen? ⟨R, 2, none⟩ = false := frozen_of_row _ R 2 _ _ rR_2
  have t2 : Bt R w2 (((w2.setCell ⟨R, 0, none⟩ (.string S)).setCell ⟨R, 1, none⟩ (.int .i64 k2)).setCell ⟨R, 2, none⟩ (.bool b2)) := Bt.sets R [(.string S), (.int .i64 k2), (.bool b2)] 0 w2
  have pR2 : (((w2.setCell ⟨R, 0, none⟩ (.string S)).setCell ⟨R, 1, none⟩ (.int .i64 k2)).setCell ⟨R, 2, none⟩ (.bool b2)).heap[R]? = some (.cells #[.string S, .int .i64 k2, .bool b2] 52 (0, 0)) := cat_all (.string S) (.int .i64 k2) (.bool b2) rR_2
  have pP2 := t2.row (show P ≠ R by omega) rP_2
  have hbp2 : Below P w (((w2.setCell ⟨R, 0, none⟩ (.string S)).setCell ⟨R, 1, none⟩ (.int .i64 k2)).setCell ⟨R, 2, none⟩ (.bool b2)) := hb2.trans (t2.below (show P ≤ R by omega) (by have := hb2.size; omega))
  go_wp2_with fail
  obtain ⟨u9, hu9⟩ : ∃ u9, u9 = (((w2.setCell ⟨R, 0, none⟩ (.string S)).setCell ⟨R, 1, none⟩ (.int .i64 k2)).setCell ⟨R, 2, none⟩ (.bool b2)) := ⟨_, rfl⟩
  rw [← hu9] at pR2 hbp2 ⊢
  have kR0 : u9.cell? ⟨R, 0, none⟩ = some (.string S) := by rw [cell_of_row _ R 0 _ _ _ pR2]; rfl
  have kR1 : u9.cell? ⟨R, 1, none⟩ = some (.int .i64 k2) := by rw [cell_of_row _ R 1 _ _ _ pR2]; rfl
  have kR2 : u9.cell? ⟨R, 2, none⟩ = some (.bool b2) := by rw [cell_of_row _ R 2 _ _ _ pR2]; rfl
  exact bodyPost_ret (v := .tuple #[sv S k2 b2, .int .i64 n]) (by simp [results, Tryz.results24, go_sem, kR0, kR1, kR2]) rfl ⟨rfl, (by rw [hP]; exact hbp2)⟩
set_option maxRecDepth 100000 in
set_option maxHeartbeats 2000000 in
theorem r26ide_go {S : ByteArray} {w : World} {k0 k1 k2 : Nat} {b0 b1 b2 : Bool} {j : Int} {s : ByteArray} (H1 : ∀ u : World, Calls Tryz.prog 23 #[sv S k0 b0, .slice (some ⟨u.heap.size, 0, none⟩) 1 1] (u.alloc (.cells #[.string ⟨#[32]⟩] 9)) fun r w' => r = .returned (.tuple #[sv S k1 b1, .int .i64 j]) ∧ Below u.heap.size u w') (H2 : ∀ u : World, Calls Tryz.prog 59 #[sv S k1 b1] u fun r w' => r = .returned (.tuple #[sv S k2 b2, .string s]) ∧ Below u.heap.size u w') :
    Calls Tryz.prog 58 #[sv S k0 b0] w fun r w' => r = .returned (.tuple #[sv S k2 b2, .string s]) ∧ Below w.heap.size w w' := by
  have H1 := Lib.hid H1
  have H2 := Lib.hid H2
  go_enter Tryz.func58, Tryz.ntmps58
  go_wp2_with fail
  obtain ⟨u, hu⟩ : ∃ u, u = ((w.alloc (.cells #[.string S, .int .i64 k0, .bool b0] 52)).alloc (.cells #[.string ⟨#[]⟩, .int .i64 0, .bool false] 52)) := ⟨_, rfl⟩
  have hb : Below w.heap.size w u := hu ▸ al2 w _ _
  have rP : u.heap[w.heap.size]? = some (.cells #[.string S, .int .i64 k0, .bool b0] 52 (0, 0)) := hu ▸ row_on (heap_alloc_new _ _) (al1 _ _)
  have rR : u.heap[w.heap.size + 1]? = some (.cells #[.string ⟨#[]⟩, .int .i64 0, .bool false] 52 (0, 0)) := hu ▸ row_new1 _ _ _
  have hz : w.heap.size + 1 + 1 = u.heap.size := by rw [hu]; simp
  rw [← hu]
  clear hu
  generalize hP : w.heap.size = P at *
  generalize hR : P + 1 = R at *
  rw [hz]
  clear hz
  refine (H1.out (u)).mono ?_
  rintro e1 w1 ⟨rfl, g1⟩
  have rP_1 := row_kept rP g1
  have rR_1 := row_kept rR g1
  have hb1 : Below P w w1 := hb.trans (g1.mono (by first | exact hb.size | (have := hb.size; omega)))
  have aP1 := row_kept rP_1 (al1 (w1) (.cells #[.string S, .int .i64 k1, .bool b1] 52))
  have aR1 := row_kept rR_1 (al1 (w1) (.cells #[.string S, .int .i64 k1, .bool b1] 52))
  have aC1 : (w1.alloc (.cells #[.string S, .int .i64 k1, .bool b1] 52)).heap[(w1).heap.size]? = some (.cells #[.string S, .int .i64 k1, .bool b1] 52 (0, 0)) := heap_alloc_new _ _
  have hba1 : Below P w (w1.alloc (.cells #[.string S, .int .i64 k1, .bool b1] 52)) := hb1.alloc (by have := hb1.size; omega) _
  go_wp2_with fail
  refine (H2.out (w1.alloc (.cells #[.string S, .int .i64 k1, .bool b1] 52))).mono ?_
  rintro e2 w2 ⟨rfl, g2⟩
  have rP_2 := row_kept aP1 g2
  have rR_2 := row_kept aR1 g2
  have hb2 : Below P w w2 := hba1.trans (g2.mono (by first | exact hba1.size | (have := hba1.size; omega)))
  have cR0_2 : w2.cell? ⟨R, 0, none⟩ = some (.string ⟨#[]⟩) := by rw [cell_of_row _ R 0 _ _ _ rR_2]; rfl
  have fR0_2 : w2.frozen? ⟨R, 0, none⟩ = false := frozen_of_row _ R 0 _ _ rR_2
  have cR1_2 : w2.cell? ⟨R, 1, none⟩ = some (.int .i64 0) := by rw [cell_of_row _ R 1 _ _ _ rR_2]; rfl
  have fR1_2 : w2.frozen? ⟨R, 1, none⟩ = false := frozen_of_row _ R 1 _ _ rR_2
  have cR2_2 : w2.cell? ⟨R, 2, none⟩ = some (.bool false) := by rw [cell_of_row _ R 2 _ _ _ rR_2]; rfl
  have fR2_2 : w2.frozen? ⟨R, 2, none⟩ = false := frozen_of_row _ R 2 _ _ rR_2
  have t2 : Bt R w2 (((w2.setCell ⟨R, 0, none⟩ (.string S)).setCell ⟨R, 1, none⟩ (.int .i64 k2)).setCell ⟨R, 2, none⟩ (.bool b2)) := Bt.sets R [(.string S), (.int .i64 k2), (.bool b2)] 0 w2
  have pR2 : (((w2.setCell ⟨R, 0, none⟩ (.string S)).setCell ⟨R, 1, none⟩ (.int .i64 k2)).setCell ⟨R, 2, none⟩ (.bool b2)).heap[R]? = some (.cells #[.string S, .int .i64 k2, .bool b2] 52 (0, 0)) := cat_all (.string S) (.int .i64 k2) (.bool b2) rR_2
  have pP2 := t2.row (show P ≠ R by omega) rP_2
  have hbp2 : Below P w (((w2.setCell ⟨R, 0, none⟩ (.string S)).setCell ⟨R, 1, none⟩ (.int .i64 k2)).setCell ⟨R, 2, none⟩ (.bool b2)) := hb2.trans (t2.below (show P ≤ R by omega) (by have := hb2.size; omega))
  go_wp2_with fail
  obtain ⟨u9, hu9⟩ : ∃ u9, u9 = (((w2.setCell ⟨R, 0, none⟩ (.string S)).setCell ⟨R, 1, none⟩ (.int .i64 k2)).setCell ⟨R, 2, none⟩ (.bool b2)) := ⟨_, rfl⟩
  rw [← hu9] at pR2 hbp2 ⊢
  have kR0 : u9.cell? ⟨R, 0, none⟩ = some (.string S) := by rw [cell_of_row _ R 0 _ _ _ pR2]; rfl
  have kR1 : u9.cell? ⟨R, 1, none⟩ = some (.int .i64 k2) := by rw [cell_of_row _ R 1 _ _ _ pR2]; rfl
  have kR2 : u9.cell? ⟨R, 2, none⟩ = some (.bool b2) := by rw [cell_of_row _ R 2 _ _ _ pR2]; rfl
  exact bodyPost_ret (v := .tuple #[sv S k2 b2, .string s]) (by simp [results, Tryz.results58, go_sem, kR0, kR1, kR2]) rfl ⟨rfl, (by rw [hP]; exact hbp2)⟩
set_option maxRecDepth 100000 in
set_option maxHeartbeats 2000000 in
theorem r26cho_go {S : ByteArray} {w : World} {k0 k1 k2 : Nat} {b0 b1 b2 : Bool} {j i : Int} {v : Value} (H1 : ∀ u : World, Calls Tryz.prog 23 #[sv S k0 b0, .slice (some ⟨u.heap.size, 0, none⟩) 1 1] (u.alloc (.cells #[.string ⟨#[32]⟩] 9)) fun r w' => r = .returned (.tuple #[sv S k1 b1, .int .i64 j]) ∧ Below u.heap.size u w') (H2 : ∀ u : World, Below w.heap.size w u → Calls Tryz.prog 23 #[sv S k1 b1, v] u fun r w' => r = .returned (.tuple #[sv S k2 b2, .int .i64 i]) ∧ Below u.heap.size u w') :
    Calls Tryz.prog 56 #[sv S k0 b0, v] w fun r w' => r = .returned (.tuple #[sv S k2 b2, .int .i64 i]) ∧ Below w.heap.size w w' := by
  have H1 := Lib.hid H1
  have H2 := Lib.hid H2
  go_enter Tryz.func56, Tryz.ntmps56
  go_wp2_with fail
  obtain ⟨u, hu⟩ : ∃ u, u = ((w.alloc (.cells #[.string S, .int .i64 k0, .bool b0] 52)).alloc (.cells #[.string ⟨#[]⟩, .int .i64 0, .bool false] 52)) := ⟨_, rfl⟩
  have hb : Below w.heap.size w u := hu ▸ al2 w _ _
  have rP : u.heap[w.heap.size]? = some (.cells #[.string S, .int .i64 k0, .bool b0] 52 (0, 0)) := hu ▸ row_on (heap_alloc_new _ _) (al1 _ _)
  have rR : u.heap[w.heap.size + 1]? = some (.cells #[.string ⟨#[]⟩, .int .i64 0, .bool false] 52 (0, 0)) := hu ▸ row_new1 _ _ _
  have hz : w.heap.size + 1 + 1 = u.heap.size := by rw [hu]; simp
  rw [← hu]
  clear hu
  generalize hP : w.heap.size = P at *
  generalize hR : P + 1 = R at *
  rw [hz]
  clear hz
  refine (H1.out (u)).mono ?_
  rintro e1 w1 ⟨rfl, g1⟩
  have rP_1 := row_kept rP g1
  have rR_1 := row_kept rR g1
  have hb1 : Below P w w1 := hb.trans (g1.mono (by first | exact hb.size | (have := hb.size; omega)))
  have aP1 := row_kept rP_1 (al1 (w1) (.cells #[.string S, .int .i64 k1, .bool b1] 52))
  have aR1 := row_kept rR_1 (al1 (w1) (.cells #[.string S, .int .i64 k1, .bool b1] 52))
  have aC1 : (w1.alloc (.cells #[.string S, .int .i64 k1, .bool b1] 52)).heap[(w1).heap.size]? = some (.cells #[.string S, .int .i64 k1, .bool b1] 52 (0, 0)) := heap_alloc_new _ _
  have hba1 : Below P w (w1.alloc (.cells #[.string S, .int .i64 k1, .bool b1] 52)) := hb1.alloc (by have := hb1.size; omega) _
  go_wp2_with fail
  refine (H2.out (w1.alloc (.cells #[.string S, .int .i64 k1, .bool b1] 52)) hba1).mono ?_
  rintro e2 w2 ⟨rfl, g2⟩
  have rP_2 := row_kept aP1 g2
  have rR_2 := row_kept aR1 g2
  have hb2 : Below P w w2 := hba1.trans (g2.mono (by first | exact hba1.size | (have := hba1.size; omega)))
  have cR0_2 : w2.cell? ⟨R, 0, none⟩ = some (.string ⟨#[]⟩) := by rw [cell_of_row _ R 0 _ _ _ rR_2]; rfl
  have fR0_2 : w2.frozen? ⟨R, 0, none⟩ = false := frozen_of_row _ R 0 _ _ rR_2
  have cR1_2 : w2.cell? ⟨R, 1, none⟩ = some (.int .i64 0) := by rw [cell_of_row _ R 1 _ _ _ rR_2]; rfl
  have fR1_2 : w2.frozen? ⟨R, 1, none⟩ = false := frozen_of_row _ R 1 _ _ rR_2
  have cR2_2 : w2.cell? ⟨R, 2, none⟩ = some (.bool false) := by rw [cell_of_row _ R 2 _ _ _ rR_2]; rfl
  have fR2_2 : w2.frozen? ⟨R, 2, none⟩ = false := frozen_of_row _ R 2 _ _ rR_2
  have t2 : Bt R w2 (((w2.setCell ⟨R, 0, none⟩ (.string S)).setCell ⟨R, 1, none⟩ (.int .i64 k2)).setCell ⟨R, 2, none⟩ (.bool b2)) := Bt.sets R [(.string S), (.int .i64 k2), (.bool b2)] 0 w2
  have pR2 : (((w2.setCell ⟨R, 0, none⟩ (.string S)).setCell ⟨R, 1, none⟩ (.int .i64 k2)).setCell ⟨R, 2, none⟩ (.bool b2)).heap[R]? = some (.cells #[.string S, .int .i64 k2, .bool b2] 52 (0, 0)) := cat_all (.string S) (.int .i64 k2) (.bool b2) rR_2
  have pP2 := t2.row (show P ≠ R by omega) rP_2
  have hbp2 : Below P w (((w2.setCell ⟨R, 0, none⟩ (.string S)).setCell ⟨R, 1, none⟩ (.int .i64 k2)).setCell ⟨R, 2, none⟩ (.bool b2)) := hb2.trans (t2.below (show P ≤ R by omega) (by have := hb2.size; omega))
  go_wp2_with fail
  obtain ⟨u9, hu9⟩ : ∃ u9, u9 = (((w2.setCell ⟨R, 0, none⟩ (.string S)).setCell ⟨R, 1, none⟩ (.int .i64 k2)).setCell ⟨R, 2, none⟩ (.bool b2)) := ⟨_, rfl⟩
  rw [← hu9] at pR2 hbp2 ⊢
  have kR0 : u9.cell? ⟨R, 0, none⟩ = some (.string S) := by rw [cell_of_row _ R 0 _ _ _ pR2]; rfl
  have kR1 : u9.cell? ⟨R, 1, none⟩ = some (.int .i64 k2) := by rw [cell_of_row _ R 1 _ _ _ pR2]; rfl
  have kR2 : u9.cell? ⟨R, 2, none⟩ = some (.bool b2) := by rw [cell_of_row _ R 2 _ _ _ pR2]; rfl
  exact bodyPost_ret (v := .tuple #[sv S k2 b2, .int .i64 i]) (by simp [results, Tryz.results56, go_sem, kR0, kR1, kR2]) rfl ⟨rfl, (by rw [hP]; exact hbp2)⟩
end Go.Proofs.YtkhicgafhbecfaaGreatDoor
