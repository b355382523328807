/- The reference of package cattext: reading. -/
import Derived.Test.YthmfhgehahpgbaaGreatDoorYk
import Derived.Test.YthmfhgehahpgbaaGreatDoorKv
namespace Go.Proofs.YthmfhgehahpgbaaGreatDoor
open Go.RowKit

theorem al4 (w : World) (o1 o2 o3 o4 : Obj) : Below w.heap.size w ((((w.alloc o1).alloc o2).alloc o3).alloc o4) := (al3 w o1 o2 o3).alloc (by simp; omega) o4
set_option maxRecDepth 100000 in
set_option maxHeartbeats 2000000 in
theorem r26num_go {S : ByteArray} {w : World} {k0 k1 k2 : Nat} {b0 b1 b2 : Bool} {j : Int} {n : Int} (H1 : ∀ u : World, Calls Tryz.prog 20 #[sv S k0 b0, .slice (some ⟨u.heap.size, 0, none⟩) 1 1] (u.alloc (.cells #[.string ⟨#[32]⟩] 9)) fun r w' => r = .returned (.tuple #[sv S k1 b1, .int .i64 j]) ∧ Below u.heap.size u w') (H2 : ∀ u : World, Calls Tryz.prog 51 #[sv S k1 b1] u fun r w' => r = .returned (.tuple #[sv S k2 b2, .int .i64 n]) ∧ Below u.heap.size u w') :
    Calls Tryz.prog 21 #[sv S k0 b0] w fun r w' => r = .returned (.tuple #[sv S k2 b2, .int .i64 n]) ∧ Below w.heap.size w w' := by
  have H1 := Lib.hid H1
  have H2 := Lib.hid H2
  go_enter Tryz.func21, Tryz.ntmps21
  go_wp2_with fail
  obtain ⟨u, hu⟩ : ∃ u, u = ((w.alloc (.cells #[.string S, .int .i64 k0, .bool b0] 52)).alloc (.cells #[.string ⟨#[]⟩, .int .i64 0, .bool false] 52)) := ⟨_, rfl⟩
  have hb : Below w.heap.size w u := hu ▸ al2 w _ _
  have rP : u.heap[w.heap.size]? = some (.cells #[.string S, .int .i64 k0, .bool b0] 52 (0, 0)) := hu ▸ row_on (heap_alloc_new _ _) (al1 _ _)
  have rR : u.heap[w.heap.size + 1]? = some (.cells #[.string ⟨#[]⟩, .int .i64 0, .bool false] 52 (0, 0)) := hu ▸ row_new1 _ _ _
  have hz : w.heap.size + 1 + 1 = u.heap.size := by rw [hu]; simp
  rw [← hu]
  clear hu
  generalize hP : w.heap.size = P at *
  generalize hR : P + 1 = R at *
  rw [hz]
  clear hz
  refine (H1.out (u)).mono ?_
  rintro e1 w1 ⟨rfl, g1⟩
  have rP_1 := row_kept rP g1
  have rR_1 := row_kept rR g1
  have hb1 : Below P w w1 := hb.trans (g1.mono (by first | exact hb.size | (have := hb.size; omega)))
  have aP1 := row_kept rP_1 (al1 (w1) (.cells #[.string S, .int .i64 k1, .bool b1] 52))
  have aR1 := row_kept rR_1 (al1 (w1) (.cells #[.string S, .int .i64 k1, .bool b1] 52))
  have aC1 : (w1.alloc (.cells #[.string S, .int .i64 k1, .bool b1] 52)).heap[(w1).heap.size]? = some (.cells #[.string S, .int .i64 k1, .bool b1] 52 (0, 0)) := heap_alloc_new _ _
  have hba1 : Below P w (w1.alloc (.cells #[.string S, .int .i64 k1, .bool b1] 52)) := hb1.alloc (by have := hb1.size; omega) _
  go_wp2_with fail
  refine (H2.out (w1.alloc (.cells #[.string S, .int .i64 k1, .bool b1] 52))).mono ?_
  rintro e2 w2 ⟨rfl, g2⟩
  have rP_2 := row_kept aP1 g2
  have rR_2 := row_kept aR1 g2
  have hb2 : Below P w w2 := hba1.trans (g2.mono (by first | exact hba1.size | (have := hba1.size; omega)))
  have cR0_2 : w2.cell? ⟨R, 0, none⟩ = some (.string ⟨#[]⟩) := by rw [cell_of_row _ R 0 _ _ _ rR_2]; rfl
  have fR0_2 : w2.frozen? ⟨R, 0, none⟩ = false := frozen_of_row _ R 0 _ _ rR_2
  have cR1_2 : w2.cell? ⟨R, 1, none⟩ = some (.int .i64 0) := by rw [cell_of_row _ R 1 _ _ _ rR_2]; rfl
  have fR1_2 : w2.frozen? ⟨R, 1, none⟩ = false := frozen_of_row _ R 1 _ _ rR_2
  have cR2_2 : w2.cell? ⟨R, 2, none⟩ = some (.bool false) := by rw [cell_of_row _ R 2 _ _ _ rR_2]; rfl
  have fR2_2 : w2.frozen? ⟨R, 2, none⟩ = false := frozen_of_row _ R 2 _ _ rR_2
  have t2 : Bt R w2 (((w2.setCell ⟨R, 0, none⟩ (.string S)).setCell ⟨R, 1, none⟩ (.int .i64 k2)).setCell ⟨R, 2, none⟩ (.bool b2)) := Bt.sets R [(.string S), (.int .i64 k2), (.bool b2)] 0 w2
  have pR2 : (((w2.setCell ⟨R, 0, none⟩ (.string S)).setCell ⟨R, 1, none⟩ (.int .i64 k2)).setCell ⟨R, 2, none⟩ (.bool b2)).heap[R]? = some (.cells #[.string S, .int .i64 k2, .bool b2] 52 (0, 0)) := cat_all (.string S) (.int .i64 k2) (.bool b2) rR_2
  have pP2 := t2.row (show P ≠ R by omega) rP_2
  have hbp2 : Below P w (((w2.setCell ⟨R, 0, none⟩ (.string S)).setCell ⟨R, 1, none⟩ (.int .i64 k2)).setCell ⟨R, 2, none⟩ (.bool b2)) := hb2.trans (t2.below (show P ≤ R by omega) (by have := hb2.size; omega))
  go_wp2_with fail
  obtain ⟨u9, hu9⟩ : ∃ u9, u9 = (((w2.setCell ⟨R, 0, none⟩ (.string S)).setCell ⟨R, 1, none⟩ (.int .i64 k2)).setCell ⟨R, 2, none⟩ (.bool b2)) := ⟨_, rfl⟩
  rw [← hu9] at pR2 hbp2 ⊢
  have kR0 : u9.cell? ⟨R, 0, none⟩ = some (.string S) := by rw [cell_of_row _ R 0 _ _ _ pR2]; rfl
  have kR1 : u9.cell? ⟨R, 1, none⟩ = some (.int .i64 k2) := by rw [cell_of_row _ R 1 _ _ _ pR2]; rfl
  have kR2 : u9.cell? ⟨R, 2, none⟩ = some (.bool b2) := by rw [cell_of_row _ R 2 _ _ _ pR2]; rfl
  exact bodyPost_ret (v := .tuple #[sv S k2 b2, .int .i64 n]) (by simp [results, Tryz.results21, go_sem, kR0, kR1, kR2]) rfl ⟨rfl, (by rw [hP]; exact hbp2)⟩
set_option maxRecDepth 100000 in
set_option maxHeartbeats 2000000 in
theorem r26ide_go {S : ByteArray} {w : World} {k0 k1 k2 : Nat} {b0 b1 b2 : Bool} {j : Int} {s : ByteArray} (H1 : ∀ u : World, Calls Tryz.prog 20 #[sv S k0 b0, .slice (some ⟨u.heap.size, 0, none⟩) 1 1] (u.alloc (.cells #[.string ⟨#[32]⟩] 9)) fun r w' => r = .returned (.tuple #[sv S k1 b1, .int .i64 j]) ∧ Below u.heap.size u w') (H2 : ∀ u : World, Calls Tryz.prog 52 #[sv S k1 b1] u fun r w' => r = .returned (.tuple #[sv S k2 b2, .string s]) ∧ Below u.heap.size u w') :
    Calls Tryz.prog 23 #[sv S k0 b0] w fun r w' => r = .returned (.tuple #[sv S k2 b2, .string s]) ∧ Below w.heap.size w w' := by
  have H1 := Lib.hid H1
  have H2 := Lib.hid H2
  go_enter Tryz.func23, Tryz.ntmps23
  go_wp2_with fail
  obtain ⟨u, hu⟩ : ∃ u, u = ((w.alloc (.cells #[.string S, .int .i64 k0, .bool b0] 52)).alloc (.cells #[.string ⟨#[]⟩, .int .i64 0, .bool false] 52)) := ⟨_, rfl⟩
  have hb : Below w.heap.size w u := hu ▸ al2 w _ _
  have rP : u.heap[w.heap.size]? = some (.cells #[.string S, .int .i64 k0, .bool b0] 52 (0, 0)) := hu ▸ row_on (heap_alloc_new _ _) (al1 _ _)
  have rR : u.heap[w.heap.size + 1]? = some (.cells #[.string ⟨#[]⟩, .int .i64 0, .bool false] 52 (0, 0)) := hu ▸ row_new1 _ _ _
  have hz : w.heap.size + 1 + 1 = u.heap.size := by rw [hu]; simp
  rw [← hu]
  clear hu
  generalize hP : w.heap.size = P at *
  generalize hR : P + 1 = R at *
  rw [hz]
  clear hz
  refine (H1.out (u)).mono ?_
  rintro e1 w1 ⟨rfl, g1⟩
  have rP_1 := row_kept rP g1
  have rR_1 := row_kept rR g1
  have hb1 : Below P w w1 := hb.trans (g1.mono (by first | exact hb.size | (have := hb.size; omega)))
  have aP1 := row_kept rP_1 (al1 (w1) (.cells #[.string S, .int .i64 k1, .bool b1] 52))
  have aR1 := row_kept rR_1 (al1 (w1) (.cells #[.string S, .int .i64 k1, .bool b1] 52))
  have aC1 : (w1.alloc (.cells #[.string S, .int .i64 k1, .bool b1] 52)).heap[(w1).heap.size]? = some (.cells #[.string S, .int .i64 k1, .bool b1] 52 (0, 0)) := heap_alloc_new _ _
  have hba1 : Below P w (w1.alloc (.cells #[.string S, .int .i64 k1, .bool b1] 52)) := hb1.alloc (by have := hb1.size; omega) _
  go_wp2_with fail
  refine (H2.out (w1.alloc (.cells #[.string S, .int .i64 k1, .bool b1] 52))).mono ?_
  rintro e2 w2 ⟨rfl, g2⟩
  have rP_2 := row_kept aP1 g2
  have rR_2 := row_kept aR1 g2
  have hb2 : Below P w w2 := hba1.trans (g2.mono (by first | exact hba1.size | (have := hba1.size; omega)))
  have cR0_2 : w2.cell? ⟨R, 0, none⟩ = some (.string ⟨#[]⟩) := by rw [cell_of_row _ R 0 _ _ _ rR_2]; rfl
  have fR0_2 : w2.frozen? ⟨R, 0, none⟩ = false := frozen_of_row _ R 0 _ _ rR_2
  have cR1_2 : w2.cell? ⟨R, 1, none⟩ = some (.int .i64 0) := by rw [cell_of_row _ R 1 _ _ _ rR_2]; rfl
  have fR1_2 : w2.frozen? ⟨R, 1, none⟩ = false := frozen_of_row _ R 1 _ _ rR_2
  have cR2_2 : w2.cell? ⟨R, 2, none⟩ = some (.bool false) := by rw [cell_of_row _ R 2 _ _ _ rR_2]; rfl
  have fR2_2 : w2.frozen? ⟨R, 2, none⟩ = false := frozen_of_row _ R 2 _ _ rR_2
  have t2 : Bt R w2 (((w2.setCell ⟨R, 0, none⟩ (.string S)).setCell ⟨R, 1, none⟩ (.int .i64 k2)).setCell ⟨R, 2, none⟩ (.bool b2)) := Bt.sets R [(.string S), (.int .i64 k2), (.bool b2)] 0 w2
  have pR2 : (((w2.setCell ⟨R, 0, none⟩ (.string S)).setCell ⟨R, 1, none⟩ (.int .i64 k2)).setCell ⟨R, 2, none⟩ (.bool b2)).heap[R]? = some (.cells #[.string S, .int .i64 k2, .bool b2] 52 (0, 0)) := cat_all (.string S) (.int .i64 k2) (.bool b2) rR_2
  have pP2 := t2.row (show P ≠ R by omega) rP_2
  have hbp2 : Below P w (((w2.setCell ⟨R, 0, none⟩ (.string S)).setCell ⟨R, 1, none⟩ (.int .i64 k2)).setCell ⟨R, 2, none⟩ (.bool b2)) := hb2.trans (t2.below (show P ≤ R by omega) (by have := hb2.size; omega))
  go_wp2_with fail
  obtain ⟨u9, hu9⟩ : ∃ u9, u9 = (((w2.setCell ⟨R, 0, none⟩ (.string S)).setCell ⟨R, 1, none⟩ (.int .i64 k2)).setCell ⟨R, 2, none⟩ (.bool b2)) := ⟨_, rfl⟩
  rw [← hu9] at pR2 hbp2 ⊢
  have kR0 : u9.cell? ⟨R, 0, none⟩ = some (.string S) := by rw [cell_of_row _ R 0 _ _ _ pR2]; rfl
  have kR1 : u9.cell? ⟨R, 1, none⟩ = some (.int .i64 k2) := by rw [cell_of_row _ R 1 _ _ _ pR2]; rfl
  have kR2 : u9.cell? ⟨R, 2, none⟩ = some (.bool b2) := by rw [cell_of_row _ R 2 _ _ _ pR2]; rfl
  exact bodyPost_ret (v := .tuple #[sv S k2 b2, .string s]) (by simp [results, Tryz.results23, go_sem, kR0, kR1, kR2]) rfl ⟨rfl, (by rw [hP]; exact hbp2)⟩
set_option maxRecDepth 100000 in
set_option maxHeartbeats 2000000 in
theorem r26cho_go {S : ByteArray} {w : World} {k0 k1 k2 : Nat} {b0 b1 b2 : Bool} {j i : Int} {v : Value} (H1 : ∀ u : World, Calls Tryz.prog 20 #[sv S k0 b0, .slice (some ⟨u.heap.size, 0, none⟩) 1 1] (u.alloc (.cells #[.string ⟨#[32]⟩] 9)) fun r w' => r = .returned (.tuple #[sv S k1 b1, .int .i64 j]) ∧ Below u.heap.size u w') (H2 : ∀ u : World, Below w.heap.size w u → Calls Tryz.prog 20 #[sv S k1 b1, v] u fun r w' => r = .returned (.tuple #[sv S k2 b2, .int .i64 i]) ∧ Below u.heap.size u w') :
    Calls Tryz.prog 24 #[sv S k0 b0, v] w fun r w' => r = .returned (.tuple #[sv S k2 b2, .int .i64 i]) ∧ Below w.heap.size w w' := by
  have H1 := Lib.hid H1
  have H2 := Lib.hid H2
  go_enter Tryz.func24, Tryz.ntmps24
  go_wp2_with fail
  obtain ⟨u, hu⟩ : ∃ u, u = ((w.alloc (.cells #[.string S, .int .i64 k0, .bool b0] 52)).alloc (.cells #[.string ⟨#[]⟩, .int .i64 0, .bool false] 52)) := ⟨_, rfl⟩
  have hb : Below w.heap.size w u := hu ▸ al2 w _ _
  have rP : u.heap[w.heap.size]? = some (.cells #[.string S, .int .i64 k0, .bool b0] 52 (0, 0)) := hu ▸ row_on (heap_alloc_new _ _) (al1 _ _)
  have rR : u.heap[w.heap.size + 1]? = some (.cells #[.string ⟨#[]⟩, .int .i64 0, .bool false] 52 (0, 0)) := hu ▸ row_new1 _ _ _
  have hz : w.heap.size + 1 + 1 = u.heap.size := by rw [hu]; simp
  rw [← hu]
  clear hu
  generalize hP : w.heap.size = P at *
  generalize hR : P + 1 = R at *
  rw [hz]
  clear hz
  refine (H1.out (u)).mono ?_
  rintro e1 w1 ⟨rfl, g1⟩
  have rP_1 := row_kept rP g1
  have rR_1 := row_kept rR g1
  have hb1 : Below P w w1 := hb.trans (g1.mono (by first | exact hb.size | (have := hb.size; omega)))
  have aP1 := row_kept rP_1 (al1 (w1) (.cells #[.string S, .int .i64 k1, .bool b1] 52))
  have aR1 := row_kept rR_1 (al1 (w1) (.cells #[.string S, .int .i64 k1, .bool b1] 52))
  have aC1 : (w1.alloc (.cells #[.string S, .int .i64 k1, .bool b1] 52)).heap[(w1).heap.size]? = some (.cells #[.string S, .int .i64 k1, .bool b1] 52 (0, 0)) := heap_alloc_new _ _
  have hba1 : Below P w (w1.alloc (.cells #[.string S, .int .i64 k1, .bool b1] 52)) := hb1.alloc (by have := hb1.size; omega) _
  go_wp2_with fail
  refine (H2.out (w1.alloc (.cells #[.string S, .int .i64 k1, .bool b1] 52)) hba1).mono ?_
  rintro e2 w2 ⟨rfl, g2⟩
  have rP_2 := row_kept aP1 g2
  have rR_2 := row_kept aR1 g2
  have hb2 : Below P w w2 := hba1.trans (g2.mono (by first | exact hba1.size | (have := hba1.size; omega)))
  have cR0_2 : w2.cell? ⟨R, 0, none⟩ = some (.string ⟨#[]⟩) := by rw [cell_of_row _ R 0 _ _ _ rR_2]; rfl
  have fR0_2 : w2.frozen? ⟨R, 0, none⟩ = false := frozen_of_row _ R 0 _ _ rR_2
  have cR1_2 : w2.cell? ⟨R, 1, none⟩ = some (.int .i64 0) := by rw [cell_of_row _ R 1 _ _ _ rR_2]; rfl
  have fR1_2 : w2.frozen? ⟨R, 1, none⟩ = false := frozen_of_row _ R 1 _ _ rR_2
  have cR2_2 : w2.cell? ⟨R, 2, none⟩ = some (.bool false) := by rw [cell_of_row _ R 2 _ _ _ rR_2]; rfl
  have fR2_2 : w2.frozen? ⟨R, 2, none⟩ = false := frozen_of_row _ R 2 _ _ rR_2
  have t2 : Bt R w2 (((w2.setCell ⟨R, 0, none⟩ (.string S)).setCell ⟨R, 1, none⟩ (.int .i64 k2)).setCell ⟨R, 2, none⟩ (.bool b2)) := Bt.sets R [(.string S), (.int .i64 k2), (.bool b2)] 0 w2
  have pR2 : (((w2.setCell ⟨R, 0, none⟩ (.string S)).setCell ⟨R, 1, none⟩ (.int .i64 k2)).setCell ⟨R, 2, none⟩ (.bool b2)).heap[R]? = some (.cells #[.string S, .int .i64 k2, .bool b2] 52 (0, 0)) := cat_all (.string S) (.int .i64 k2) (.bool b2) rR_2
  have pP2 := t2.row (show P ≠ R by omega) rP_2
  have hbp2 : Below P w (((w2.setCell ⟨R, 0, none⟩ (.string S)).setCell ⟨R, 1, none⟩ (.int .i64 k2)).setCell ⟨R, 2, none⟩ (.bool b2)) := hb2.trans (t2.below (show P ≤ R by omega) (by have := hb2.size; omega))
  go_wp2_with fail
  obtain ⟨u9, hu9⟩ : ∃ u9, u9 = (((w2.setCell ⟨R, 0, none⟩ (.string S)).setCell ⟨R, 1, none⟩ (.int .i64 k2)).setCell ⟨R, 2, none⟩ (.bool b2)) := ⟨_, rfl⟩
  rw [← hu9] at pR2 hbp2 ⊢
  have kR0 : u9.cell? ⟨R, 0, none⟩ = some (.string S) := by rw [cell_of_row _ R 0 _ _ _ pR2]; rfl
  have kR1 : u9.cell? ⟨R, 1, none⟩ = some (.int .i64 k2) := by rw [cell_of_row _ R 1 _ _ _ pR2]; rfl
  have kR2 : u9.cell? ⟨R, 2, none⟩ = some (.bool b2) := by rw [cell_of_row _ R 2 _ _ _ pR2]; rfl
  exact bodyPost_ret (v := .tuple #[sv S k2 b2, .int .i64 i]) (by simp [results, Tryz.results24, go_sem, kR0, kR1, kR2]) rfl ⟨rfl, (by rw [hP]; exact hbp2)⟩
set_option maxRecDepth 100000 in
set_option maxHeartbeats 2000000 in
theorem r26anc_go1 {S : ByteArray} {w : World} {k0 k1 k2 k6 : Nat} {b0 b1 b2 b6 : Bool} {n j : Int} (H1 : ∀ u : World, Calls Tryz.prog 24 #[sv S k0 b0, .slice (some ⟨u.heap.size, 0, none⟩) 3 3] (u.alloc (.cells #[.string ⟨#[102, 105, 120, 101, 100]⟩, .string ⟨#[101, 97, 115, 116, 101, 114]⟩, .string ⟨#[110, 116, 104]⟩] 9)) fun r w' => r = .returned (.tuple #[sv S k1 b1, .int .i64 1]) ∧ Below u.heap.size u w') (H2 : ∀ u : World, Calls Tryz.prog 21 #[sv S k1 b1] u fun r w' => r = .returned (.tuple #[sv S k2 b2, .int .i64 n]) ∧ Below u.heap.size u w') (H6 : ∀ u : World, Calls Tryz.prog 20 #[sv S k2 b2, .slice (some ⟨u.heap.size, 0, none⟩) 1 1] (u.alloc (.cells #[.string ⟨#[10]⟩] 9)) fun r w' => r = .returned (.tuple #[sv S k6 b6, .int .i64 j]) ∧ Below u.heap.size u w') :
    Calls Tryz.prog 25 #[sv S k0 b0] w fun r w' => r = .returned (.tuple #[sv S k6 b6, .agg #[.int .i64 2, .int .i64 0, .int .i64 0, .int .i64 n, .int .i64 0, .int .i64 0]]) ∧ Below w.heap.size w w' := by
  have H1 := Lib.hid H1
  have H2 := Lib.hid H2
  have H6 := Lib.hid H6
  go_enter Tryz.func25, Tryz.ntmps25
  go_wp2_with fail
  obtain ⟨u, hu⟩ : ∃ u, u = ((((w.alloc (.cells #[.string S, .int .i64 k0, .bool b0] 52)).alloc (.cells #[.string ⟨#[]⟩, .int .i64 0, .bool false] 52)).alloc (.cells #[.int .i64 0, .int .i64 0, .int .i64 0, .int .i64 0, .int .i64 0, .int .i64 0] 39)).alloc (.cells #[.int .i64 0, .int .i64 0, .int .i64 0, .int .i64 0, .int .i64 0, .int .i64 0] 39)) := ⟨_, rfl⟩
  have hb : Below w.heap.size w u := hu ▸ al4 w _ _ _ _
  have rP : u.heap[w.heap.size]? = some (.cells #[.string S, .int .i64 k0, .bool b0] 52 (0, 0)) := hu ▸ row_on (heap_alloc_new _ _) (al3 _ _ _ _)
  have rR : u.heap[w.heap.size + 1]? = some (.cells #[.string ⟨#[]⟩, .int .i64 0, .bool false] 52 (0, 0)) := hu ▸ row_on (row_new1 _ _ _) (al2 _ _ _)
  have rT : u.heap[w.heap.size + 1 + 1]? = some (.cells #[.int .i64 0, .int .i64 0, .int .i64 0, .int .i64 0, .int .i64 0, .int .i64 0] 39 (0, 0)) := hu ▸ row_on (row_new2 _ _ _ _) (al1 _ _)
  have rQ : u.heap[w.heap.size + 1 + 1 + 1]? = some (.cells #[.int .i64 0, .int .i64 0, .int .i64 0, .int .i64 0, .int .i64 0, .int .i64 0] 39 (0, 0)) := hu ▸ row_new3 _ _ _ _ _
  have hz : w.heap.size + 1 + 1 + 1 + 1 = u.heap.size := by rw [hu]; simp
  rw [← hu]
  clear hu
  generalize hP : w.heap.size = P at *
  generalize hR : P + 1 = R at *
  generalize hT : R + 1 = T at *
  generalize hQ : T + 1 = Q at *
  rw [hz]
  clear hz
  refine (H1.out (u)).mono ?_
  rintro e1 w1 ⟨rfl, g1⟩
  have rP_1 := row_kept rP g1
  have rR_1 := row_kept rR g1
  have rT_1 := row_kept rT g1
  have rQ_1 := row_kept rQ g1
  have hb1 : Below P w w1 := hb.trans (g1.mono (by first | exact hb.size | (have := hb.size; omega)))
  have cP0_1 : w1.cell? ⟨P, 0, none⟩ = some (.string S) := by rw [cell_of_row _ P 0 _ _ _ rP_1]; rfl
  have fP0_1 : w1.frozen? ⟨P, 0, none⟩ = false := frozen_of_row _ P 0 _ _ rP_1
  have cP1_1 : w1.cell? ⟨P, 1, none⟩ = some (.int .i64 k0) := by rw [cell_of_row _ P 1 _ _ _ rP_1]; rfl
  have fP1_1 : w1.frozen? ⟨P, 1, none⟩ = false := frozen_of_row _ P 1 _ _ rP_1
  have cP2_1 : w1.cell? ⟨P, 2, none⟩ = some (.bool b0) := by rw [cell_of_row _ P 2 _ _ _ rP_1]; rfl
  have fP2_1 : w1.frozen? ⟨P, 2, none⟩ = false := frozen_of_row _ P 2 _ _ rP_1
  have cQ0_1 : w1.cell? ⟨Q, 0, none⟩ = some (.int .i64 0) := by rw [cell_of_row _ Q 0 _ _ _ rQ_1]; rfl
  have fQ0_1 : w1.frozen? ⟨Q, 0, none⟩ = false := frozen_of_row _ Q 0 _ _ rQ_1
  have t1 : Bt P w1 (((w1.setCell ⟨P, 0, none⟩ (.string S)).setCell ⟨P, 1, none⟩ (.int .i64 k1)).setCell ⟨P, 2, none⟩ (.bool b1)) := Bt.sets P [(.string S), (.int .i64 k1), (.bool b1)] 0 w1
  have pP1 : (((w1.setCell ⟨P, 0, none⟩ (.string S)).setCell ⟨P, 1, none⟩ (.int .i64 k1)).setCell ⟨P, 2, none⟩ (.bool b1)).heap[P]? = some (.cells #[.string S, .int .i64 k1, .bool b1] 52 (0, 0)) := cat_all (.string S) (.int .i64 k1) (.bool b1) rP_1
  have pR1 := t1.row (show R ≠ P by omega) rR_1
  have pT1 := t1.row (show T ≠ P by omega) rT_1
  have pQ1 := t1.row (show Q ≠ P by omega) rQ_1
  have hbp1 : Below P w (((w1.setCell ⟨P, 0, none⟩ (.string S)).setCell ⟨P, 1, none⟩ (.int .i64 k1)).setCell ⟨P, 2, none⟩ (.bool b1)) := hb1.trans (t1.below (show P ≤ P by omega) (by have := hb1.size; omega))
  have cP0_2 : (((w1.setCell ⟨P, 0, none⟩ (.string S)).setCell ⟨P, 1, none⟩ (.int .i64 k1)).setCell ⟨P, 2, none⟩ (.bool b1)).cell? ⟨P, 0, none⟩ = some (.string S) := by rw [cell_of_row _ P 0 _ _ _ pP1]; rfl
  have fP0_2 : (((w1.setCell ⟨P, 0, none⟩ (.string S)).setCell ⟨P, 1, none⟩ (.int .i64 k1)).setCell ⟨P, 2, none⟩ (.bool b1)).frozen? ⟨P, 0, none⟩ = false := frozen_of_row _ P 0 _ _ pP1
  have cP1_2 : (((w1.setCell ⟨P, 0, none⟩ (.string S)).setCell ⟨P, 1, none⟩ (.int .i64 k1)).setCell ⟨P, 2, none⟩ (.bool b1)).cell? ⟨P, 1, none⟩ = some (.int .i64 k1) := by rw [cell_of_row _ P 1 _ _ _ pP1]; rfl
  have fP1_2 : (((w1.setCell ⟨P, 0, none⟩ (.string S)).setCell ⟨P, 1, none⟩ (.int .i64 k1)).setCell ⟨P, 2, none⟩ (.bool b1)).frozen? ⟨P, 1, none⟩ = false := frozen_of_row _ P 1 _ _ pP1
  have cP2_2 : (((w1.setCell ⟨P, 0, none⟩ (.string S)).setCell ⟨P, 1, none⟩ (.int .i64 k1)).setCell ⟨P, 2, none⟩ (.bool b1)).cell? ⟨P, 2, none⟩ = some (.bool b1) := by rw [cell_of_row _ P 2 _ _ _ pP1]; rfl
  have fP2_2 : (((w1.setCell ⟨P, 0, none⟩ (.string S)).setCell ⟨P, 1, none⟩ (.int .i64 k1)).setCell ⟨P, 2, none⟩ (.bool b1)).frozen? ⟨P, 2, none⟩ = false := frozen_of_row _ P 2 _ _ pP1
  have cQ0_2 : (((w1.setCell ⟨P, 0, none⟩ (.string S)).setCell ⟨P, 1, none⟩ (.int .i64 k1)).setCell ⟨P, 2, none⟩ (.bool b1)).cell? ⟨Q, 0, none⟩ = some (.int .i64 0) := by rw [cell_of_row _ Q 0 _ _ _ pQ1]; rfl
  have fQ0_2 : (((w1.setCell ⟨P, 0, none⟩ (.string S)).setCell ⟨P, 1, none⟩ (.int .i64 k1)).setCell ⟨P, 2, none⟩ (.bool b1)).frozen? ⟨Q, 0, none⟩ = false := frozen_of_row _ Q 0 _ _ pQ1
  have t2 : Bt Q (((w1.setCell ⟨P, 0, none⟩ (.string S)).setCell ⟨P, 1, none⟩ (.int .i64 k1)).setCell ⟨P, 2, none⟩ (.bool b1)) ((((w1.setCell ⟨P, 0, none⟩ (.string S)).setCell ⟨P, 1, none⟩ (.int .i64 k1)).setCell ⟨P, 2, none⟩ (.bool b1)).setCell ⟨Q, 0, none⟩ (.int .i64 2)) := Bt.sets Q [(.int .i64 2)] 0 (((w1.setCell ⟨P, 0, none⟩ (.string S)).setCell ⟨P, 1, none⟩ (.int .i64 k1)).setCell ⟨P, 2, none⟩ (.bool b1))
  have pQ2 : ((((w1.setCell ⟨P, 0, none⟩ (.string S)).setCell ⟨P, 1, none⟩ (.int .i64 k1)).setCell ⟨P, 2, none⟩ (.bool b1)).setCell ⟨Q, 0, none⟩ (.int .i64 2)).heap[Q]? = some (.cells #[.int .i64 2, .int .i64 0, .int .i64 0, .int .i64 0, .int .i64 0, .int .i64 0] 39 (0, 0)) := heap_setCell_same _ Q 0 _ _ _ pQ1
  have pP2 := t2.row (show P ≠ Q by omega) pP1
  have pR2 := t2.row (show R ≠ Q by omega) pR1
  have pT2 := t2.row (show T ≠ Q by omega) pT1
  have hbp2 : Below P w ((((w1.setCell ⟨P, 0, none⟩ (.string S)).setCell ⟨P, 1, none⟩ (.int .i64 k1)).setCell ⟨P, 2, none⟩ (.bool b1)).setCell ⟨Q, 0, none⟩ (.int .i64 2)) := hbp1.trans (t2.below (show P ≤ Q by omega) (by have := hbp1.size; omega))
  have cP0_3 : ((((w1.setCell ⟨P, 0, none⟩ (.string S)).setCell ⟨P, 1, none⟩ (.int .i64 k1)).setCell ⟨P, 2, none⟩ (.bool b1)).setCell ⟨Q, 0, none⟩ (.int .i64 2)).cell? ⟨P, 0, none⟩ = some (.string S) := by rw [cell_of_row _ P 0 _ _ _ pP2]; rfl
  have fP0_3 : ((((w1.setCell ⟨P, 0, none⟩ (.string S)).setCell ⟨P, 1, none⟩ (.int .i64 k1)).setCell ⟨P, 2, none⟩ (.bool b1)).setCell ⟨Q, 0, none⟩ (.int .i64 2)).frozen? ⟨P, 0, none⟩ = false := frozen_of_row _ P 0 _ _ pP2
  have cP1_3 : ((((w1.setCell ⟨P, 0, none⟩ (.string S)).setCell ⟨P, 1, none⟩ (.int .i64 k1)).setCell ⟨P, 2, none⟩ (.bool b1)).setCell ⟨Q, 0, none⟩ (.int .i64 2)).cell? ⟨P, 1, none⟩ = some (.int .i64 k1) := by rw [cell_of_row _ P 1 _ _ _ pP2]; rfl
  have fP1_3 : ((((w1.setCell ⟨P, 0, none⟩ (.string S)).setCell ⟨P, 1, none⟩ (.int .i64 k1)).setCell ⟨P, 2, none⟩ (.bool b1)).setCell ⟨Q, 0, none⟩ (.int .i64 2)).frozen? ⟨P, 1, none⟩ = false := frozen_of_row _ P 1 _ _ pP2
  have cP2_3 : ((((w1.setCell ⟨P, 0, none⟩ (.string S)).setCell ⟨P, 1, none⟩ (.int .i64 k1)).setCell ⟨P, 2, none⟩ (.bool b1)).setCell ⟨Q, 0, none⟩ (.int .i64 2)).cell? ⟨P, 2, none⟩ = some (.bool b1) := by rw [cell_of_row _ P 2 _ _ _ pP2]; rfl
  have fP2_3 : ((((w1.setCell ⟨P, 0, none⟩ (.string S)).setCell ⟨P, 1, none⟩ (.int .i64 k1)).setCell ⟨P, 2, none⟩ (.bool b1)).setCell ⟨Q, 0, none⟩ (.int .i64 2)).frozen? ⟨P, 2, none⟩ = false := frozen_of_row _ P 2 _ _ pP2
  go_wp2_with fail
  refine (H2.out (((((w1.setCell ⟨P, 0, none⟩ (.string S)).setCell ⟨P, 1, none⟩ (.int .i64 k1)).setCell ⟨P, 2, none⟩ (.bool b1)).setCell ⟨Q, 0, none⟩ (.int .i64 2)))).mono ?_
  clear cP0_1 fP0_1 cP1_1 fP1_1 cP2_1 fP2_1 cQ0_1 fQ0_1 cP0_2 fP0_2 cP1_2 fP1_2 cP2_2 fP2_2 cQ0_2 fQ0_2 cP0_3 fP0_3 cP1_3 fP1_3 cP2_3 fP2_3
  rintro e4 w4 ⟨rfl, g4⟩
  have rP_4 := row_kept pP2 g4
  have rR_4 := row_kept pR2 g4
  have rT_4 := row_kept pT2 g4
  have rQ_4 := row_kept pQ2 g4
  have hb4 : Below P w w4 := hbp2.trans (g4.mono (by first | exact hbp2.size | (have := hbp2.size; omega)))
  have cP0_4 : w4.cell? ⟨P, 0, none⟩ = some (.string S) := by rw [cell_of_row _ P 0 _ _ _ rP_4]; rfl
  have fP0_4 : w4.frozen? ⟨P, 0, none⟩ = false := frozen_of_row _ P 0 _ _ rP_4
  have cP1_4 : w4.cell? ⟨P, 1, none⟩ = some (.int .i64 k1) := by rw [cell_of_row _ P 1 _ _ _ rP_4]; rfl
  have fP1_4 : w4.frozen? ⟨P, 1, none⟩ = false := frozen_of_row _ P 1 _ _ rP_4
  have cP2_4 : w4.cell? ⟨P, 2, none⟩ = some (.bool b1) := by rw [cell_of_row _ P 2 _ _ _ rP_4]; rfl
  have fP2_4 : w4.frozen? ⟨P, 2, none⟩ = false := frozen_of_row _ P 2 _ _ rP_4
  have cQ3_4 : w4.cell? ⟨Q, 3, none⟩ = some (.int .i64 0) := by rw [cell_of_row _ Q 3 _ _ _ rQ_4]; rfl
  have fQ3_4 : w4.frozen? ⟨Q, 3, none⟩ = false := frozen_of_row _ Q 3 _ _ rQ_4
  have t3 : Bt P w4 (((w4.setCell ⟨P, 0, none⟩ (.string S)).setCell ⟨P, 1, none⟩ (.int .i64 k2)).setCell ⟨P, 2, none⟩ (.bool b2)) := Bt.sets P [(.string S), (.int .i64 k2), (.bool b2)] 0 w4
  have pP3 : (((w4.setCell ⟨P, 0, none⟩ (.string S)).setCell ⟨P, 1, none⟩ (.int .i64 k2)).setCell ⟨P, 2, none⟩ (.bool b2)).heap[P]? = some (.cells #[.string S, .int .i64 k2, .bool b2] 52 (0, 0)) := cat_all (.string S) (.int .i64 k2) (.bool b2) rP_4
  have pR3 := t3.row (show R ≠ P by omega) rR_4
  have pT3 := t3.row (show T ≠ P by omega) rT_4
  have pQ3 := t3.row (show Q ≠ P by omega) rQ_4
  have hbp3 : Below P w (((w4.setCell ⟨P, 0, none⟩ (.string S)).setCell ⟨P, 1, none⟩ (.int .i64 k2)).setCell ⟨P, 2, none⟩ (.bool b2)) := hb4.trans (t3.below (show P ≤ P by omega) (by have := hb4.size; omega))
  have cP0_5 : (((w4.setCell ⟨P, 0, none⟩ (.string S)).setCell ⟨P, 1, none⟩ (.int .i64 k2)).setCell ⟨P, 2, none⟩ (.bool b2)).cell? ⟨P, 0, none⟩ = some (.string S) := by rw [cell_of_row _ P 0 _ _ _ pP3]; rfl
  have fP0_5 : (((w4.setCell ⟨P, 0, none⟩ (.string S)).setCell ⟨P, 1, none⟩ (.int .i64 k2)).setCell ⟨P, 2, none⟩ (.bool b2)).frozen? ⟨P, 0, none⟩ = false := frozen_of_row _ P 0 _ _ pP3
  have cP1_5 : (((w4.setCell ⟨P, 0, none⟩ (.string S)).setCell ⟨P, 1, none⟩ (.int .i64 k2)).setCell ⟨P, 2, none⟩ (.bool b2)).cell? ⟨P, 1, none⟩ = some (.int .i64 k2) := by rw [cell_of_row _ P 1 _ _ _ pP3]; rfl
  have fP1_5 : (((w4.setCell ⟨P, 0, none⟩ (.string S)).setCell ⟨P, 1, none⟩ (.int .i64 k2)).setCell ⟨P, 2, none⟩ (.bool b2)).frozen? ⟨P, 1, none⟩ = false := frozen_of_row _ P 1 _ _ pP3
  have cP2_5 : (((w4.setCell ⟨P, 0, none⟩ (.string S)).setCell ⟨P, 1, none⟩ (.int .i64 k2)).setCell ⟨P, 2, none⟩ (.bool b2)).cell? ⟨P, 2, none⟩ = some (.bool b2) := by rw [cell_of_row _ P 2 _ _ _ pP3]; rfl
  have fP2_5 : (((w4.setCell ⟨P, 0, none⟩ (.string S)).setCell ⟨P, 1, none⟩ (.int .i64 k2)).setCell ⟨P, 2, none⟩ (.bool b2)).frozen? ⟨P, 2, none⟩ = false := frozen_of_row _ P 2 _ _ pP3
  have cQ3_5 : (((w4.setCell ⟨P, 0, none⟩ (.string S)).setCell ⟨P, 1, none⟩ (.int .i64 k2)).setCell ⟨P, 2, none⟩ (.bool b2)).cell? ⟨Q, 3, none⟩ = some (.int .i64 0) := by rw [cell_of_row _ Q 3 _ _ _ pQ3]; rfl
  have fQ3_5 : (((w4.setCell ⟨P, 0, none⟩ (.string S)).setCell ⟨P, 1, none⟩ (.int .i64 k2)).setCell ⟨P, 2, none⟩ (.bool b2)).frozen? ⟨Q, 3, none⟩ = false := frozen_of_row _ Q 3 _ _ pQ3
  have t4 : Bt Q (((w4.setCell ⟨P, 0, none⟩ (.string S)).setCell ⟨P, 1, none⟩ (.int .i64 k2)).setCell ⟨P, 2, none⟩ (.bool b2)) ((((w4.setCell ⟨P, 0, none⟩ (.string S)).setCell ⟨P, 1, none⟩ (.int .i64 k2)).setCell ⟨P, 2, none⟩ (.bool b2)).setCell ⟨Q, 3, none⟩ (.int .i64 n)) := Bt.sets Q [(.int .i64 n)] 3 (((w4.setCell ⟨P, 0, none⟩ (.string S)).setCell ⟨P, 1, none⟩ (.int .i64 k2)).setCell ⟨P, 2, none⟩ (.bool b2))
  have pQ4 : ((((w4.setCell ⟨P, 0, none⟩ (.string S)).setCell ⟨P, 1, none⟩ (.int .i64 k2)).setCell ⟨P, 2, none⟩ (.bool b2)).setCell ⟨Q, 3, none⟩ (.int .i64 n)).heap[Q]? = some (.cells #[.int .i64 2, .int .i64 0, .int .i64 0, .int .i64 n, .int .i64 0, .int .i64 0] 39 (0, 0)) := heap_setCell_same _ Q 3 _ _ _ pQ3
  have pP4 := t4.row (show P ≠ Q by omega) pP3
  have pR4 := t4.row (show R ≠ Q by omega) pR3
  have pT4 := t4.row (show T ≠ Q by omega) pT3
  have hbp4 : Below P w ((((w4.setCell ⟨P, 0, none⟩ (.string S)).setCell ⟨P, 1, none⟩ (.int .i64 k2)).setCell ⟨P, 2, none⟩ (.bool b2)).setCell ⟨Q, 3, none⟩ (.int .i64 n)) := hbp3.trans (t4.below (show P ≤ Q by omega) (by have := hbp3.size; omega))
  have cP0_6 : ((((w4.setCell ⟨P, 0, none⟩ (.string S)).setCell ⟨P, 1, none⟩ (.int .i64 k2)).setCell ⟨P, 2, none⟩ (.bool b2)).setCell ⟨Q, 3, none⟩ (.int .i64 n)).cell? ⟨P, 0, none⟩ = some (.string S) := by rw [cell_of_row _ P 0 _ _ _ pP4]; rfl
  have fP0_6 : ((((w4.setCell ⟨P, 0, none⟩ (.string S)).setCell ⟨P, 1, none⟩ (.int .i64 k2)).setCell ⟨P, 2, none⟩ (.bool b2)).setCell ⟨Q, 3, none⟩ (.int .i64 n)).frozen? ⟨P, 0, none⟩ = false := frozen_of_row _ P 0 _ _ pP4
  have cP1_6 : ((((w4.setCell ⟨P, 0, none⟩ (.string S)).setCell ⟨P, 1, none⟩ (.int .i64 k2)).setCell ⟨P, 2, none⟩ (.bool b2)).setCell ⟨Q, 3, none⟩ (.int .i64 n)).cell? ⟨P, 1, none⟩ = some (.int .i64 k2) := by rw [cell_of_row _ P 1 _ _ _ pP4]; rfl
  have fP1_6 : ((((w4.setCell ⟨P, 0, none⟩ (.string S)).setCell ⟨P, 1, none⟩ (.int .i64 k2)).setCell ⟨P, 2, none⟩ (.bool b2)).setCell ⟨Q, 3, none⟩ (.int .i64 n)).frozen? ⟨P, 1, none⟩ = false := frozen_of_row _ P 1 _ _ pP4
  have cP2_6 : ((((w4.setCell ⟨P, 0, none⟩ (.string S)).setCell ⟨P, 1, none⟩ (.int .i64 k2)).setCell ⟨P, 2, none⟩ (.bool b2)).setCell ⟨Q, 3, none⟩ (.int .i64 n)).cell? ⟨P, 2, none⟩ = some (.bool b2) := by rw [cell_of_row _ P 2 _ _ _ pP4]; rfl
  have fP2_6 : ((((w4.setCell ⟨P, 0, none⟩ (.string S)).setCell ⟨P, 1, none⟩ (.int .i64 k2)).setCell ⟨P, 2, none⟩ (.bool b2)).setCell ⟨Q, 3, none⟩ (.int .i64 n)).frozen? ⟨P, 2, none⟩ = false := frozen_of_row _ P 2 _ _ pP4
  go_wp2_with fail
  clear cP0_4 fP0_4 cP1_4 fP1_4 cP2_4 fP2_4 cQ3_4 fQ3_4 cP0_5 fP0_5 cP1_5 fP1_5 cP2_5 fP2_5 cQ3_5 fQ3_5 cP0_6 fP0_6 cP1_6 fP1_6 cP2_6 fP2_6
  obtain ⟨v5, hv5⟩ : ∃ v, v = ((((w4.setCell ⟨P, 0, none⟩ (.string S)).setCell ⟨P, 1, none⟩ (.int .i64 k2)).setCell ⟨P, 2, none⟩ (.bool b2)).setCell ⟨Q, 3, none⟩ (.int .i64 n)) := ⟨_, rfl⟩
  have hz5 : w4.heap.size = v5.heap.size := by rw [hv5]; simp
  rw [← hv5, hz5]
  rw [← hv5] at pP4 pR4 pT4 pQ4 hbp4
  clear hz5 hv5
  refine (H6.out (v5)).mono ?_
  rintro e7 w7 ⟨rfl, g7⟩
  have rP_7 := row_kept pP4 g7
  have rR_7 := row_kept pR4 g7
  have rT_7 := row_kept pT4 g7
  have rQ_7 := row_kept pQ4 g7
  have hb7 : Below P w w7 := hbp4.trans (g7.mono (by first | exact hbp4.size | (have := hbp4.size; omega)))
  have cP0_7 : w7.cell? ⟨P, 0, none⟩ = some (.string S) := by rw [cell_of_row _ P 0 _ _ _ rP_7]; rfl
  have fP0_7 : w7.frozen? ⟨P, 0, none⟩ = false := frozen_of_row _ P 0 _ _ rP_7
  have cP1_7 : w7.cell? ⟨P, 1, none⟩ = some (.int .i64 k2) := by rw [cell_of_row _ P 1 _ _ _ rP_7]; rfl
  have fP1_7 : w7.frozen? ⟨P, 1, none⟩ = false := frozen_of_row _ P 1 _ _ rP_7
  have cP2_7 : w7.cell? ⟨P, 2, none⟩ = some (.bool b2) := by rw [cell_of_row _ P 2 _ _ _ rP_7]; rfl
  have fP2_7 : w7.frozen? ⟨P, 2, none⟩ = false := frozen_of_row _ P 2 _ _ rP_7
  have t6 : Bt P w7 (((w7.setCell ⟨P, 0, none⟩ (.string S)).setCell ⟨P, 1, none⟩ (.int .i64 k6)).setCell ⟨P, 2, none⟩ (.bool b6)) := Bt.sets P [(.string S), (.int .i64 k6), (.bool b6)] 0 w7
  have pP6 : (((w7.setCell ⟨P, 0, none⟩ (.string S)).setCell ⟨P, 1, none⟩ (.int .i64 k6)).setCell ⟨P, 2, none⟩ (.bool b6)).heap[P]? = some (.cells #[.string S, .int .i64 k6, .bool b6] 52 (0, 0)) := cat_all (.string S) (.int .i64 k6) (.bool b6) rP_7
  have pR6 := t6.row (show R ≠ P by omega) rR_7
  have pT6 := t6.row (show T ≠ P by omega) rT_7
  have pQ6 := t6.row (show Q ≠ P by omega) rQ_7
  have hbp6 : Below P w (((w7.setCell ⟨P, 0, none⟩ (.string S)).setCell ⟨P, 1, none⟩ (.int .i64 k6)).setCell ⟨P, 2, none⟩ (.bool b6)) := hb7.trans (t6.below (show P ≤ P by omega) (by have := hb7.size; omega))
  have cP0_8 : (((w7.setCell ⟨P, 0, none⟩ (.string S)).setCell ⟨P, 1, none⟩ (.int .i64 k6)).setCell ⟨P, 2, none⟩ (.bool b6)).cell? ⟨P, 0, none⟩ = some (.string S) := by rw [cell_of_row _ P 0 _ _ _ pP6]; rfl
  have cP1_8 : (((w7.setCell ⟨P, 0, none⟩ (.string S)).setCell ⟨P, 1, none⟩ (.int .i64 k6)).setCell ⟨P, 2, none⟩ (.bool b6)).cell? ⟨P, 1, none⟩ = some (.int .i64 k6) := by rw [cell_of_row _ P 1 _ _ _ pP6]; rfl
  have cP2_8 : (((w7.setCell ⟨P, 0, none⟩ (.string S)).setCell ⟨P, 1, none⟩ (.int .i64 k6)).setCell ⟨P, 2, none⟩ (.bool b6)).cell? ⟨P, 2, none⟩ = some (.bool b6) := by rw [cell_of_row _ P 2 _ _ _ pP6]; rfl
  have cQ0_8 : (((w7.setCell ⟨P, 0, none⟩ (.string S)).setCell ⟨P, 1, none⟩ (.int .i64 k6)).setCell ⟨P, 2, none⟩ (.bool b6)).cell? ⟨Q, 0, none⟩ = some (.int .i64 2) := by rw [cell_of_row _ Q 0 _ _ _ pQ6]; rfl
  have cQ1_8 : (((w7.setCell ⟨P, 0, none⟩ (.string S)).setCell ⟨P, 1, none⟩ (.int .i64 k6)).setCell ⟨P, 2, none⟩ (.bool b6)).cell? ⟨Q, 1, none⟩ = some (.int .i64 0) := by rw [cell_of_row _ Q 1 _ _ _ pQ6]; rfl
  have cQ2_8 : (((w7.setCell ⟨P, 0, none⟩ (.string S)).setCell ⟨P, 1, none⟩ (.int .i64 k6)).setCell ⟨P, 2, none⟩ (.bool b6)).cell? ⟨Q, 2, none⟩ = some (.int .i64 0) := by rw [cell_of_row _ Q 2 _ _ _ pQ6]; rfl
  have cQ3_8 : (((w7.setCell ⟨P, 0, none⟩ (.string S)).setCell ⟨P, 1, none⟩ (.int .i64 k6)).setCell ⟨P, 2, none⟩ (.bool b6)).cell? ⟨Q, 3, none⟩ = some (.int .i64 n) := by rw [cell_of_row _ Q 3 _ _ _ pQ6]; rfl
  have cQ4_8 : (((w7.setCell ⟨P, 0, none⟩ (.string S)).setCell ⟨P, 1, none⟩ (.int .i64 k6)).setCell ⟨P, 2, none⟩ (.bool b6)).cell? ⟨Q, 4, none⟩ = some (.int .i64 0) := by rw [cell_of_row _ Q 4 _ _ _ pQ6]; rfl
  have cQ5_8 : (((w7.setCell ⟨P, 0, none⟩ (.string S)).setCell ⟨P, 1, none⟩ (.int .i64 k6)).setCell ⟨P, 2, none⟩ (.bool b6)).cell? ⟨Q, 5, none⟩ = some (.int .i64 0) := by rw [cell_of_row _ Q 5 _ _ _ pQ6]; rfl
  have cR0_8 : (((w7.setCell ⟨P, 0, none⟩ (.string S)).setCell ⟨P, 1, none⟩ (.int .i64 k6)).setCell ⟨P, 2, none⟩ (.bool b6)).cell? ⟨R, 0, none⟩ = some (.string ⟨#[]⟩) := by rw [cell_of_row _ R 0 _ _ _ pR6]; rfl
  have fR0_8 : (((w7.setCell ⟨P, 0, none⟩ (.string S)).setCell ⟨P, 1, none⟩ (.int .i64 k6)).setCell ⟨P, 2, none⟩ (.bool b6)).frozen? ⟨R, 0, none⟩ = false := frozen_of_row _ R 0 _ _ pR6
  have cR1_8 : (((w7.setCell ⟨P, 0, none⟩ (.string S)).setCell ⟨P, 1, none⟩ (.int .i64 k6)).setCell ⟨P, 2, none⟩ (.bool b6)).cell? ⟨R, 1, none⟩ = some (.int .i64 0) := by rw [cell_of_row _ R 1 _ _ _ pR6]; rfl
  have fR1_8 : (((w7.setCell ⟨P, 0, none⟩ (.string S)).setCell ⟨P, 1, none⟩ (.int .i64 k6)).setCell ⟨P, 2, none⟩ (.bool b6)).frozen? ⟨R, 1, none⟩ = false := frozen_of_row _ R 1 _ _ pR6
  have cR2_8 : (((w7.setCell ⟨P, 0, none⟩ (.string S)).setCell ⟨P, 1, none⟩ (.int .i64 k6)).setCell ⟨P, 2, none⟩ (.bool b6)).cell? ⟨R, 2, none⟩ = some (.bool false) := by rw [cell_of_row _ R 2 _ _ _ pR6]; rfl
  have fR2_8 : (((w7.setCell ⟨P, 0, none⟩ (.string S)).setCell ⟨P, 1, none⟩ (.int .i64 k6)).setCell ⟨P, 2, none⟩ (.bool b6)).frozen? ⟨R, 2, none⟩ = false := frozen_of_row _ R 2 _ _ pR6
  have cT0_8 : (((w7.setCell ⟨P, 0, none⟩ (.string S)).setCell ⟨P, 1, none⟩ (.int .i64 k6)).setCell ⟨P, 2, none⟩ (.bool b6)).cell? ⟨T, 0, none⟩ = some (.int .i64 0) := by rw [cell_of_row _ T 0 _ _ _ pT6]; rfl
  have fT0_8 : (((w7.setCell ⟨P, 0, none⟩ (.string S)).setCell ⟨P, 1, none⟩ (.int .i64 k6)).setCell ⟨P, 2, none⟩ (.bool b6)).frozen? ⟨T, 0, none⟩ = false := frozen_of_row _ T 0 _ _ pT6
  have cT1_8 : (((w7.setCell ⟨P, 0, none⟩ (.string S)).setCell ⟨P, 1, none⟩ (.int .i64 k6)).setCell ⟨P, 2, none⟩ (.bool b6)).cell? ⟨T, 1, none⟩ = some (.int .i64 0) := by rw [cell_of_row _ T 1 _ _ _ pT6]; rfl
  have fT1_8 : (((w7.setCell ⟨P, 0, none⟩ (.string S)).setCell ⟨P, 1, none⟩ (.int .i64 k6)).setCell ⟨P, 2, none⟩ (.bool b6)).frozen? ⟨T, 1, none⟩ = false := frozen_of_row _ T 1 _ _ pT6
  have cT2_8 : (((w7.setCell ⟨P, 0, none⟩ (.string S)).setCell ⟨P, 1, none⟩ (.int .i64 k6)).setCell ⟨P, 2, none⟩ (.bool b6)).cell? ⟨T, 2, none⟩ = some (.int .i64 0) := by rw [cell_of_row _ T 2 _ _ _ pT6]; rfl
  have fT2_8 : (((w7.setCell ⟨P, 0, none⟩ (.string S)).setCell ⟨P, 1, none⟩ (.int .i64 k6)).setCell ⟨P, 2, none⟩ (.bool b6)).frozen? ⟨T, 2, none⟩ = false := frozen_of_row _ T 2 _ _ pT6
  have cT3_8 : (((w7.setCell ⟨P, 0, none⟩ (.string S)).setCell ⟨P, 1, none⟩ (.int .i64 k6)).setCell ⟨P, 2, none⟩ (.bool b6)).cell? ⟨T, 3, none⟩ = some (.int .i64 0) := by rw [cell_of_row _ T 3 _ _ _ pT6]; rfl
  have fT3_8 : (((w7.setCell ⟨P, 0, none⟩ (.string S)).setCell ⟨P, 1, none⟩ (.int .i64 k6)).setCell ⟨P, 2, none⟩ (.bool b6)).frozen? ⟨T, 3, none⟩ = false := frozen_of_row _ T 3 _ _ pT6
  have cT4_8 : (((w7.setCell ⟨P, 0, none⟩ (.string S)).setCell ⟨P, 1, none⟩ (.int .i64 k6)).setCell ⟨P, 2, none⟩ (.bool b6)).cell? ⟨T, 4, none⟩ = some (.int .i64 0) := by rw [cell_of_row _ T 4 _ _ _ pT6]; rfl
  have fT4_8 : (((w7.setCell ⟨P, 0, none⟩ (.string S)).setCell ⟨P, 1, none⟩ (.int .i64 k6)).setCell ⟨P, 2, none⟩ (.bool b6)).frozen? ⟨T, 4, none⟩ = false := frozen_of_row _ T 4 _ _ pT6
  have cT5_8 : (((w7.setCell ⟨P, 0, none⟩ (.string S)).setCell ⟨P, 1, none⟩ (.int .i64 k6)).setCell ⟨P, 2, none⟩ (.bool b6)).cell? ⟨T, 5, none⟩ = some (.int .i64 0) := by rw [cell_of_row _ T 5 _ _ _ pT6]; rfl
  have fT5_8 : (((w7.setCell ⟨P, 0, none⟩ (.string S)).setCell ⟨P, 1, none⟩ (.int .i64 k6)).setCell ⟨P, 2, none⟩ (.bool b6)).frozen? ⟨T, 5, none⟩ = false := frozen_of_row _ T 5 _ _ pT6
  go_wp2_with fail
  go_region
  have t7 : Bt R (((w7.setCell ⟨P, 0, none⟩ (.string S)).setCell ⟨P, 1, none⟩ (.int .i64 k6)).setCell ⟨P, 2, none⟩ (.bool b6)) ((((((w7.setCell ⟨P, 0, none⟩ (.string S)).setCell ⟨P, 1, none⟩ (.int .i64 k6)).setCell ⟨P, 2, none⟩ (.bool b6)).setCell ⟨R, 0, none⟩ (.string S)).setCell ⟨R, 1, none⟩ (.int .i64 k6)).setCell ⟨R, 2, none⟩ (.bool b6)) := Bt.sets R [(.string S), (.int .i64 k6), (.bool b6)] 0 (((w7.setCell ⟨P, 0, none⟩ (.string S)).setCell ⟨P, 1, none⟩ (.int .i64 k6)).setCell ⟨P, 2, none⟩ (.bool b6))
  have pR7 : ((((((w7.setCell ⟨P, 0, none⟩ (.string S)).setCell ⟨P, 1, none⟩ (.int .i64 k6)).setCell ⟨P, 2, none⟩ (.bool b6)).setCell ⟨R, 0, none⟩ (.string S)).setCell ⟨R, 1, none⟩ (.int .i64 k6)).setCell ⟨R, 2, none⟩ (.bool b6)).heap[R]? = some (.cells #[.string S, .int .i64 k6, .bool b6] 52 (0, 0)) := cat_all (.string S) (.int .i64 k6) (.bool b6) pR6
  have pP7 := t7.row (show P ≠ R by omega) pP6
  have pT7 := t7.row (show T ≠ R by omega) pT6
  have pQ7 := t7.row (show Q ≠ R by omega) pQ6
  have hbp7 : Below P w ((((((w7.setCell ⟨P, 0, none⟩ (.string S)).setCell ⟨P, 1, none⟩ (.int .i64 k6)).setCell ⟨P, 2, none⟩ (.bool b6)).setCell ⟨R, 0, none⟩ (.string S)).setCell ⟨R, 1, none⟩ (.int .i64 k6)).setCell ⟨R, 2, none⟩ (.bool b6)) := hbp6.trans (t7.below (show P ≤ R by omega) (by have := hbp6.size; omega))
  have t8 : Bt T ((((((w7.setCell ⟨P, 0, none⟩ (.string S)).setCell ⟨P, 1, none⟩ (.int .i64 k6)).setCell ⟨P, 2, none⟩ (.bool b6)).setCell ⟨R, 0, none⟩ (.string S)).setCell ⟨R, 1, none⟩ (.int .i64 k6)).setCell ⟨R, 2, none⟩ (.bool b6)) ((((((((((((w7.setCell ⟨P, 0, none⟩ (.string S)).setCell ⟨P, 1, none⟩ (.int .i64 k6)).setCell ⟨P, 2, none⟩ (.bool b6)).setCell ⟨R, 0, none⟩ (.string S)).setCell ⟨R, 1, none⟩ (.int .i64 k6)).setCell ⟨R, 2, none⟩ (.bool b6)).setCell ⟨T, 0, none⟩ (.int .i64 2)).setCell ⟨T, 1, none⟩ (.int .i64 0)).setCell ⟨T, 2, none⟩ (.int .i64 0)).setCell ⟨T, 3, none⟩ (.int .i64 n)).setCell ⟨T, 4, none⟩ (.int .i64 0)).setCell ⟨T, 5, none⟩ (.int .i64 0)) := Bt.sets T [(.int .i64 2), (.int .i64 0), (.int .i64 0), (.int .i64 n), (.int .i64 0), (.int .i64 0)] 0 ((((((w7.setCell ⟨P, 0, none⟩ (.string S)).setCell ⟨P, 1, none⟩ (.int .i64 k6)).setCell ⟨P, 2, none⟩ (.bool b6)).setCell ⟨R, 0, none⟩ (.string S)).setCell ⟨R, 1, none⟩ (.int .i64 k6)).setCell ⟨R, 2, none⟩ (.bool b6))
  have pT8 : ((((((((((((w7.setCell ⟨P, 0, none⟩ (.string S)).setCell ⟨P, 1, none⟩ (.int .i64 k6)).setCell ⟨P, 2, none⟩ (.bool b6)).setCell ⟨R, 0, none⟩ (.string S)).setCell ⟨R, 1, none⟩ (.int .i64 k6)).setCell ⟨R, 2, none⟩ (.bool b6)).setCell ⟨T, 0, none⟩ (.int .i64 2)).setCell ⟨T, 1, none⟩ (.int .i64 0)).setCell ⟨T, 2, none⟩ (.int .i64 0)).setCell ⟨T, 3, none⟩ (.int .i64 n)).setCell ⟨T, 4, none⟩ (.int .i64 0)).setCell ⟨T, 5, none⟩ (.int .i64 0)).heap[T]? = some (.cells #[.int .i64 2, .int .i64 0, .int .i64 0, .int .i64 n, .int .i64 0, .int .i64 0] 39 (0, 0)) := anc_all (.int .i64 2) (.int .i64 0) (.int .i64 0) (.int .i64 n) (.int .i64 0) (.int .i64 0) pT7
  have pP8 := t8.row (show P ≠ T by omega) pP7
  have pR8 := t8.row (show R ≠ T by omega) pR7
  have pQ8 := t8.row (show Q ≠ T by omega) pQ7
  have hbp8 : Below P w ((((((((((((w7.setCell ⟨P, 0, none⟩ (.string S)).setCell ⟨P, 1, none⟩ (.int .i64 k6)).setCell ⟨P, 2, none⟩ (.bool b6)).setCell ⟨R, 0, none⟩ (.string S)).setCell ⟨R, 1, none⟩ (.int .i64 k6)).setCell ⟨R, 2, none⟩ (.bool b6)).setCell ⟨T, 0, none⟩ (.int .i64 2)).setCell ⟨T, 1, none⟩ (.int .i64 0)).setCell ⟨T, 2, none⟩ (.int .i64 0)).setCell ⟨T, 3, none⟩ (.int .i64 n)).setCell ⟨T, 4, none⟩ (.int .i64 0)).setCell ⟨T, 5, none⟩ (.int .i64 0)) := hbp7.trans (t8.below (show P ≤ T by omega) (by have := hbp7.size; omega))
  go_wp2_with fail
  obtain ⟨u9, hu9⟩ : ∃ u9, u9 = ((((((((((((w7.setCell ⟨P, 0, none⟩ (.string S)).setCell ⟨P, 1, none⟩ (.int .i64 k6)).setCell ⟨P, 2, none⟩ (.bool b6)).setCell ⟨R, 0, none⟩ (.string S)).setCell ⟨R, 1, none⟩ (.int .i64 k6)).setCell ⟨R, 2, none⟩ (.bool b6)).setCell ⟨T, 0, none⟩ (.int .i64 2)).setCell ⟨T, 1, none⟩ (.int .i64 0)).setCell ⟨T, 2, none⟩ (.int .i64 0)).setCell ⟨T, 3, none⟩ (.int .i64 n)).setCell ⟨T, 4, none⟩ (.int .i64 0)).setCell ⟨T, 5, none⟩ (.int .i64 0)) := ⟨_, rfl⟩
  rw [← hu9] at pR8 pT8 hbp8 ⊢
  have kR0 : u9.cell? ⟨R, 0, none⟩ = some (.string S) := by rw [cell_of_row _ R 0 _ _ _ pR8]; rfl
  have kR1 : u9.cell? ⟨R, 1, none⟩ = some (.int .i64 k6) := by rw [cell_of_row _ R 1 _ _ _ pR8]; rfl
  have kR2 : u9.cell? ⟨R, 2, none⟩ = some (.bool b6) := by rw [cell_of_row _ R 2 _ _ _ pR8]; rfl
  have kT0 : u9.cell? ⟨T, 0, none⟩ = some (.int .i64 2) := by rw [cell_of_row _ T 0 _ _ _ pT8]; rfl
  have kT1 : u9.cell? ⟨T, 1, none⟩ = some (.int .i64 0) := by rw [cell_of_row _ T 1 _ _ _ pT8]; rfl
  have kT2 : u9.cell? ⟨T, 2, none⟩ = some (.int .i64 0) := by rw [cell_of_row _ T 2 _ _ _ pT8]; rfl
  have kT3 : u9.cell? ⟨T, 3, none⟩ = some (.int .i64 n) := by rw [cell_of_row _ T 3 _ _ _ pT8]; rfl
  have kT4 : u9.cell? ⟨T, 4, none⟩ = some (.int .i64 0) := by rw [cell_of_row _ T 4 _ _ _ pT8]; rfl
  have kT5 : u9.cell? ⟨T, 5, none⟩ = some (.int .i64 0) := by rw [cell_of_row _ T 5 _ _ _ pT8]; rfl
  exact bodyPost_ret (v := .tuple #[sv S k6 b6, .agg #[.int .i64 2, .int .i64 0, .int .i64 0, .int .i64 n, .int .i64 0, .int .i64 0]]) (by simp [results, Tryz.results25, go_sem, kR0, kR1, kR2, kT0, kT1, kT2, kT3, kT4, kT5]) rfl ⟨rfl, (by rw [hP]; exact below_dn hbp8 1)⟩
set_option maxRecDepth 100000 in
set_option maxHeartbeats 2000000 in
theorem r26anc_go0 {S : ByteArray} {w : World} {k0 k1 k4 k5 k6 : Nat} {b0 b1 b4 b5 b6 : Bool} {m d j : Int} (H1 : ∀ u : World, Calls Tryz.prog 24 #[sv S k0 b0, .slice (some ⟨u.heap.size, 0, none⟩) 3 3] (u.alloc (.cells #[.string ⟨#[102, 105, 120, 101, 100]⟩, .string ⟨#[101, 97, 115, 116, 101, 114]⟩, .string ⟨#[110, 116, 104]⟩] 9)) fun r w' => r = .returned (.tuple #[sv S k1 b1, .int .i64 0]) ∧ Below u.heap.size u w') (H4 : ∀ u : World, Calls Tryz.prog 21 #[sv S k1 b1] u fun r w' => r = .returned (.tuple #[sv S k4 b4, .int .i64 m]) ∧ Below u.heap.size u w') (H5 : ∀ u : World, Calls Tryz.prog 21 #[sv S k4 b4] u fun r w' => r = .returned (.tuple #[sv S k5 b5, .int .i64 d]) ∧ Below u.heap.size u w') (H6 : ∀ u : World, Calls Tryz.prog 20 #[sv S k5 b5, .slice (some ⟨u.heap.size, 0, none⟩) 1 1] (u.alloc (.cells #[.string ⟨#[10]⟩] 9)) fun r w' => r = .returned (.tuple #[sv S k6 b6, .int .i64 j]) ∧ Below u.heap.size u w') :
    Calls Tryz.prog 25 #[sv S k0 b0] w fun r w' => r = .returned (.tuple #[sv S k6 b6, .agg #[.int .i64 1, .int .i64 m, .int .i64 d, .int .i64 0, .int .i64 0, .int .i64 0]]) ∧ Below w.heap.size w w' := by
  have H1 := Lib.hid H1
  have H4 := Lib.hid H4
  have H5 := Lib.hid H5
  have H6 := Lib.hid H6
  go_enter Tryz.func25, Tryz.ntmps25
  go_wp2_with fail
  obtain ⟨u, hu⟩ : ∃ u, u = ((((w.alloc (.cells #[.string S, .int .i64 k0, .bool b0] 52)).alloc (.cells #[.string ⟨#[]⟩, .int .i64 0, .bool false] 52)).alloc (.cells #[.int .i64 0, .int .i64 0, .int .i64 0, .int .i64 0, .int .i64 0, .int .i64 0] 39)).alloc (.cells #[.int .i64 0, .int .i64 0, .int .i64 0, .int .i64 0, .int .i64 0, .int .i64 0] 39)) := ⟨_, rfl⟩
  have hb : Below w.heap.size w u := hu ▸ al4 w _ _ _ _
  have rP : u.heap[w.heap.size]? = some (.cells #[.string S, .int .i64 k0, .bool b0] 52 (0, 0)) := hu ▸ row_on (heap_alloc_new _ _) (al3 _ _ _ _)
  have rR : u.heap[w.heap.size + 1]? = some (.cells #[.string ⟨#[]⟩, .int .i64 0, .bool false] 52 (0, 0)) := hu ▸ row_on (row_new1 _ _ _) (al2 _ _ _)
  have rT : u.heap[w.heap.size + 1 + 1]? = some (.cells #[.int .i64 0, .int .i64 0, .int .i64 0, .int .i64 0, .int .i64 0, .int .i64 0] 39 (0, 0)) := hu ▸ row_on (row_new2 _ _ _ _) (al1 _ _)
  have rQ : u.heap[w.heap.size + 1 + 1 + 1]? = some (.cells #[.int .i64 0, .int .i64 0, .int .i64 0, .int .i64 0, .int .i64 0, .int .i64 0] 39 (0, 0)) := hu ▸ row_new3 _ _ _ _ _
  have hz : w.heap.size + 1 + 1 + 1 + 1 = u.heap.size := by rw [hu]; simp
  rw [← hu]
  clear hu
  generalize hP : w.heap.size = P at *
  generalize hR : P + 1 = R at *
  generalize hT : R + 1 = T at *
  generalize hQ : T + 1 = Q at *
  rw [hz]
  clear hz
  refine (H1.out (u)).mono ?_
  rintro e1 w1 ⟨rfl, g1⟩
  have rP_1 := row_kept rP g1
  have rR_1 := row_kept rR g1
  have rT_1 := row_kept rT g1
  have rQ_1 := row_kept rQ g1
  have hb1 : Below P w w1 := hb.trans (g1.mono (by first | exact hb.size | (have := hb.size; omega)))
  have cP0_1 : w1.cell? ⟨P, 0, none⟩ = some (.string S) := by rw [cell_of_row _ P 0 _ _ _ rP_1]; rfl
  have fP0_1 : w1.frozen? ⟨P, 0, none⟩ = false := frozen_of_row _ P 0 _ _ rP_1
  have cP1_1 : w1.cell? ⟨P, 1, none⟩ = some (.int .i64 k0) := by rw [cell_of_row _ P 1 _ _ _ rP_1]; rfl
  have fP1_1 : w1.frozen? ⟨P, 1, none⟩ = false := frozen_of_row _ P 1 _ _ rP_1
  have cP2_1 : w1.cell? ⟨P, 2, none⟩ = some (.bool b0) := by rw [cell_of_row _ P 2 _ _ _ rP_1]; rfl
  have fP2_1 : w1.frozen? ⟨P, 2, none⟩ = false := frozen_of_row _ P 2 _ _ rP_1
  have cQ0_1 : w1.cell? ⟨Q, 0, none⟩ = some (.int .i64 0) := by rw [cell_of_row _ Q 0 _ _ _ rQ_1]; rfl
  have fQ0_1 : w1.frozen? ⟨Q, 0, none⟩ = false := frozen_of_row _ Q 0 _ _ rQ_1
  have t1 : Bt P w1 (((w1.setCell ⟨P, 0, none⟩ (.string S)).setCell ⟨P, 1, none⟩ (.int .i64 k1)).setCell ⟨P, 2, none⟩ (.bool b1)) := Bt.sets P [(.string S), (.int .i64 k1), (.bool b1)] 0 w1
  have pP1 : (((w1.setCell ⟨P, 0, none⟩ (.string S)).setCell ⟨P, 1, none⟩ (.int .i64 k1)).setCell ⟨P, 2, none⟩ (.bool b1)).heap[P]? = some (.cells #[.string S, .int .i64 k1, .bool b1] 52 (0, 0)) := cat_all (.string S) (.int .i64 k1) (.bool b1) rP_1
  have pR1 := t1.row (show R ≠ P by omega) rR_1
  have pT1 := t1.row (show T ≠ P by omega) rT_1
  have pQ1 := t1.row (show Q ≠ P by omega) rQ_1
  have hbp1 : Below P w (((w1.setCell ⟨P, 0, none⟩ (.string S)).setCell ⟨P, 1, none⟩ (.int .i64 k1)).setCell ⟨P, 2, none⟩ (.bool b1)) := hb1.trans (t1.below (show P ≤ P by omega) (by have := hb1.size; omega))
  have cP0_2 : (((w1.setCell ⟨P, 0, none⟩ (.string S)).setCell ⟨P, 1, none⟩ (.int .i64 k1)).setCell ⟨P, 2, none⟩ (.bool b1)).cell? ⟨P, 0, none⟩ = some (.string S) := by rw [cell_of_row _ P 0 _ _ _ pP1]; rfl
  have fP0_2 : (((w1.setCell ⟨P, 0, none⟩ (.string S)).setCell ⟨P, 1, none⟩ (.int .i64 k1)).setCell ⟨P, 2, none⟩ (.bool b1)).frozen? ⟨P, 0, none⟩ = false := frozen_of_row _ P 0 _ _ pP1
  have cP1_2 : (((w1.setCell ⟨P, 0, none⟩ (.string S)).setCell ⟨P, 1, none⟩ (.int .i64 k1)).setCell ⟨P, 2, none⟩ (.bool b1)).cell? ⟨P, 1, none⟩ = some (.int .i64 k1) := by rw [cell_of_row _ P 1 _ _ _ pP1]; rfl
  have fP1_2 : (((w1.setCell ⟨P, 0, none⟩ (.string S)).setCell ⟨P, 1, none⟩ (.int .i64 k1)).setCell ⟨P, 2, none⟩ (.bool b1)).frozen? ⟨P, 1, none⟩ = false := frozen_of_row _ P 1 _ _ pP1
  have cP2_2 : (((w1.setCell ⟨P, 0, none⟩ (.string S)).setCell ⟨P, 1, none⟩ (.int .i64 k1)).setCell ⟨P, 2, none⟩ (.bool b1)).cell? ⟨P, 2, none⟩ = some (.bool b1) := by rw [cell_of_row _ P 2 _ _ _ pP1]; rfl
  have fP2_2 : (((w1.setCell ⟨P, 0, none⟩ (.string S)).setCell ⟨P, 1, none⟩ (.int .i64 k1)).setCell ⟨P, 2, none⟩ (.bool b1)).frozen? ⟨P, 2, none⟩ = false := frozen_of_row _ P 2 _ _ pP1
  have cQ0_2 : (((w1.setCell ⟨P, 0, none⟩ (.string S)).setCell ⟨P, 1, none⟩ (.int .i64 k1)).setCell ⟨P, 2, none⟩ (.bool b1)).cell? ⟨Q, 0, none⟩ = some (.int .i64 0) := by rw [cell_of_row _ Q 0 _ _ _ pQ1]; rfl
  have fQ0_2 : (((w1.setCell ⟨P, 0, none⟩ (.string S)).setCell ⟨P, 1, none⟩ (.int .i64 k1)).setCell ⟨P, 2, none⟩ (.bool b1)).frozen? ⟨Q, 0, none⟩ = false := frozen_of_row _ Q 0 _ _ pQ1
  have t2 : Bt Q (((w1.setCell ⟨P, 0, none⟩ (.string S)).setCell ⟨P, 1, none⟩ (.int .i64 k1)).setCell ⟨P, 2, none⟩ (.bool b1)) ((((w1.setCell ⟨P, 0, none⟩ (.string S)).setCell ⟨P, 1, none⟩ (.int .i64 k1)).setCell ⟨P, 2, none⟩ (.bool b1)).setCell ⟨Q, 0, none⟩ (.int .i64 1)) := Bt.sets Q [(.int .i64 1)] 0 (((w1.setCell ⟨P, 0, none⟩ (.string S)).setCell ⟨P, 1, none⟩ (.int .i64 k1)).setCell ⟨P, 2, none⟩ (.bool b1))
  have pQ2 : ((((w1.setCell ⟨P, 0, none⟩ (.string S)).setCell ⟨P, 1, none⟩ (.int .i64 k1)).setCell ⟨P, 2, none⟩ (.bool b1)).setCell ⟨Q, 0, none⟩ (.int .i64 1)).heap[Q]? = some (.cells #[.int .i64 1, .int .i64 0, .int .i64 0, .int .i64 0, .int .i64 0, .int .i64 0] 39 (0, 0)) := heap_setCell_same _ Q 0 _ _ _ pQ1
  have pP2 := t2.row (show P ≠ Q by omega) pP1
  have pR2 := t2.row (show R ≠ Q by omega) pR1
  have pT2 := t2.row (show T ≠ Q by omega) pT1
  have hbp2 : Below P w ((((w1.setCell ⟨P, 0, none⟩ (.string S)).setCell ⟨P, 1, none⟩ (.int .i64 k1)).setCell ⟨P, 2, none⟩ (.bool b1)).setCell ⟨Q, 0, none⟩ (.int .i64 1)) := hbp1.trans (t2.below (show P ≤ Q by omega) (by have := hbp1.size; omega))
  have cP0_3 : ((((w1.setCell ⟨P, 0, none⟩ (.string S)).setCell ⟨P, 1, none⟩ (.int .i64 k1)).setCell ⟨P, 2, none⟩ (.bool b1)).setCell ⟨Q, 0, none⟩ (.int .i64 1)).cell? ⟨P, 0, none⟩ = some (.string S) := by rw [cell_of_row _ P 0 _ _ _ pP2]; rfl
  have fP0_3 : ((((w1.setCell ⟨P, 0, none⟩ (.string S)).setCell ⟨P, 1, none⟩ (.int .i64 k1)).setCell ⟨P, 2, none⟩ (.bool b1)).setCell ⟨Q, 0, none⟩ (.int .i64 1)).frozen? ⟨P, 0, none⟩ = false := frozen_of_row _ P 0 _ _ pP2
  have cP1_3 : ((((w1.setCell ⟨P, 0, none⟩ (.string S)).setCell ⟨P, 1, none⟩ (.int .i64 k1)).setCell ⟨P, 2, none⟩ (.bool b1)).setCell ⟨Q, 0, none⟩ (.int .i64 1)).cell? ⟨P, 1, none⟩ = some (.int .i64 k1) := by rw [cell_of_row _ P 1 _ _ _ pP2]; rfl
  have fP1_3 : ((((w1.setCell ⟨P, 0, none⟩ (.string S)).setCell ⟨P, 1, none⟩ (.int .i64 k1)).setCell ⟨P, 2, none⟩ (.bool b1)).setCell ⟨Q, 0, none⟩ (.int .i64 1)).frozen? ⟨P, 1, none⟩ = false := frozen_of_row _ P 1 _ _ pP2
  have cP2_3 : ((((w1.setCell ⟨P, 0, none⟩ (.string S)).setCell ⟨P, 1, none⟩ (.int .i64 k1)).setCell ⟨P, 2, none⟩ (.bool b1)).setCell ⟨Q, 0, none⟩ (.int .i64 1)).cell? ⟨P, 2, none⟩ = some (.bool b1) := by rw [cell_of_row _ P 2 _ _ _ pP2]; rfl
  have fP2_3 : ((((w1.setCell ⟨P, 0, none⟩ (.string S)).setCell ⟨P, 1, none⟩ (.int .i64 k1)).setCell ⟨P, 2, none⟩ (.bool b1)).setCell ⟨Q, 0, none⟩ (.int .i64 1)).frozen? ⟨P, 2, none⟩ = false := frozen_of_row _ P 2 _ _ pP2
  go_wp2_with fail
  refine (H4.out (((((w1.setCell ⟨P, 0, none⟩ (.string S)).setCell ⟨P, 1, none⟩ (.int .i64 k1)).setCell ⟨P, 2, none⟩ (.bool b1)).setCell ⟨Q, 0, none⟩ (.int .i64 1)))).mono ?_
  clear cP0_1 fP0_1 cP1_1 fP1_1 cP2_1 fP2_1 cQ0_1 fQ0_1 cP0_2 fP0_2 cP1_2 fP1_2 cP2_2 fP2_2 cQ0_2 fQ0_2 cP0_3 fP0_3 cP1_3 fP1_3 cP2_3 fP2_3
  rintro e4 w4 ⟨rfl, g4⟩
  have rP_4 := row_kept pP2 g4
  have rR_4 := row_kept pR2 g4
  have rT_4 := row_kept pT2 g4
  have rQ_4 := row_kept pQ2 g4
  have hb4 : Below P w w4 := hbp2.trans (g4.mono (by first | exact hbp2.size | (have := hbp2.size; omega)))
  have cP0_4 : w4.cell? ⟨P, 0, none⟩ = some (.string S) := by rw [cell_of_row _ P 0 _ _ _ rP_4]; rfl
  have fP0_4 : w4.frozen? ⟨P, 0, none⟩ = false := frozen_of_row _ P 0 _ _ rP_4
  have cP1_4 : w4.cell? ⟨P, 1, none⟩ = some (.int .i64 k1) := by rw [cell_of_row _ P 1 _ _ _ rP_4]; rfl
  have fP1_4 : w4.frozen? ⟨P, 1, none⟩ = false := frozen_of_row _ P 1 _ _ rP_4
  have cP2_4 : w4.cell? ⟨P, 2, none⟩ = some (.bool b1) := by rw [cell_of_row _ P 2 _ _ _ rP_4]; rfl
  have fP2_4 : w4.frozen? ⟨P, 2, none⟩ = false := frozen_of_row _ P 2 _ _ rP_4
  have cQ1_4 : w4.cell? ⟨Q, 1, none⟩ = some (.int .i64 0) := by rw [cell_of_row _ Q 1 _ _ _ rQ_4]; rfl
  have fQ1_4 : w4.frozen? ⟨Q, 1, none⟩ = false := frozen_of_row _ Q 1 _ _ rQ_4
  have t3 : Bt P w4 (((w4.setCell ⟨P, 0, none⟩ (.string S)).setCell ⟨P, 1, none⟩ (.int .i64 k4)).setCell ⟨P, 2, none⟩ (.bool b4)) := Bt.sets P [(.string S), (.int .i64 k4), (.bool b4)] 0 w4
  have pP3 : (((w4.setCell ⟨P, 0, none⟩ (.string S)).setCell ⟨P, 1, none⟩ (.int .i64 k4)).setCell ⟨P, 2, none⟩ (.bool b4)).heap[P]? = some (.cells #[.string S, .int .i64 k4, .bool b4] 52 (0, 0)) := cat_all (.string S) (.int .i64 k4) (.bool b4) rP_4
  have pR3 := t3.row (show R ≠ P by omega) rR_4
  have pT3 := t3.row (show T ≠ P by omega) rT_4
  have pQ3 := t3.row (show Q ≠ P by omega) rQ_4
  have hbp3 : Below P w (((w4.setCell ⟨P, 0, none⟩ (.string S)).setCell ⟨P, 1, none⟩ (.int .i64 k4)).setCell ⟨P, 2, none⟩ (.bool b4)) := hb4.trans (t3.below (show P ≤ P by omega) (by have := hb4.size; omega))
  have cP0_5 : (((w4.setCell ⟨P, 0, none⟩ (.string S)).setCell ⟨P, 1, none⟩ (.int .i64 k4)).setCell ⟨P, 2, none⟩ (.bool b4)).cell? ⟨P, 0, none⟩ = some (.string S) := by rw [cell_of_row _ P 0 _ _ _ pP3]; rfl
  have fP0_5 : (((w4.setCell ⟨P, 0, none⟩ (.string S)).setCell ⟨P, 1, none⟩ (.int .i64 k4)).setCell ⟨P, 2, none⟩ (.bool b4)).frozen? ⟨P, 0, none⟩ = false := frozen_of_row _ P 0 _ _ pP3
  have cP1_5 : (((w4.setCell ⟨P, 0, none⟩ (.string S)).setCell ⟨P, 1, none⟩ (.int .i64 k4)).setCell ⟨P, 2, none⟩ (.bool b4)).cell? ⟨P, 1, none⟩ = some (.int .i64 k4) := by rw [cell_of_row _ P 1 _ _ _ pP3]; rfl
  have fP1_5 : (((w4.setCell ⟨P, 0, none⟩ (.string S)).setCell ⟨P, 1, none⟩ (.int .i64 k4)).setCell ⟨P, 2, none⟩ (.bool b4)).frozen? ⟨P, 1, none⟩ = false := frozen_of_row _ P 1 _ _ pP3
  have cP2_5 : (((w4.setCell ⟨P, 0, none⟩ (.string S)).setCell ⟨P, 1, none⟩ (.int .i64 k4)).setCell ⟨P, 2, none⟩ (.bool b4)).cell? ⟨P, 2, none⟩ = some (.bool b4) := by rw [cell_of_row _ P 2 _ _ _ pP3]; rfl
  have fP2_5 : (((w4.setCell ⟨P, 0, none⟩ (.string S)).setCell ⟨P, 1, none⟩ (.int .i64 k4)).setCell ⟨P, 2, none⟩ (.bool b4)).frozen? ⟨P, 2, none⟩ = false := frozen_of_row _ P 2 _ _ pP3
  have cQ1_5 : (((w4.setCell ⟨P, 0, none⟩ (.string S)).setCell ⟨P, 1, none⟩ (.int .i64 k4)).setCell ⟨P, 2, none⟩ (.bool b4)).cell? ⟨Q, 1, none⟩ = some (.int .i64 0) := by rw [cell_of_row _ Q 1 _ _ _ pQ3]; rfl
  have fQ1_5 : (((w4.setCell ⟨P, 0, none⟩ (.string S)).setCell ⟨P, 1, none⟩ (.int .i64 k4)).setCell ⟨P, 2, none⟩ (.bool b4)).frozen? ⟨Q, 1, none⟩ = false := frozen_of_row _ Q 1 _ _ pQ3
  have t4 : Bt Q (((w4.setCell ⟨P, 0, none⟩ (.string S)).setCell ⟨P, 1, none⟩ (.int .i64 k4)).setCell ⟨P, 2, none⟩ (.bool b4)) ((((w4.setCell ⟨P, 0, none⟩ (.string S)).setCell ⟨P, 1, none⟩ (.int .i64 k4)).setCell ⟨P, 2, none⟩ (.bool b4)).setCell ⟨Q, 1, none⟩ (.int .i64 m)) := Bt.sets Q [(.int .i64 m)] 1 (((w4.setCell ⟨P, 0, none⟩ (.string S)).setCell ⟨P, 1, none⟩ (.int .i64 k4)).setCell ⟨P, 2, none⟩ (.bool b4))
  have pQ4 : ((((w4.setCell ⟨P, 0, none⟩ (.string S)).setCell ⟨P, 1, none⟩ (.int .i64 k4)).setCell ⟨P, 2, none⟩ (.bool b4)).setCell ⟨Q, 1, none⟩ (.int .i64 m)).heap[Q]? = some (.cells #[.int .i64 1, .int .i64 m, .int .i64 0, .int .i64 0, .int .i64 0, .int .i64 0] 39 (0, 0)) := heap_setCell_same _ Q 1 _ _ _ pQ3
  have pP4 := t4.row (show P ≠ Q by omega) pP3
  have pR4 := t4.row (show R ≠ Q by omega) pR3
  have pT4 := t4.row (show T ≠ Q by omega) pT3
  have hbp4 : Below P w ((((w4.setCell ⟨P, 0, none⟩ (.string S)).setCell ⟨P, 1, none⟩ (.int .i64 k4)).setCell ⟨P, 2, none⟩ (.bool b4)).setCell ⟨Q, 1, none⟩ (.int .i64 m)) := hbp3.trans (t4.below (show P ≤ Q by omega) (by have := hbp3.size; omega))
  have cP0_6 : ((((w4.setCell ⟨P, 0, none⟩ (.string S)).setCell ⟨P, 1, none⟩ (.int .i64 k4)).setCell ⟨P, 2, none⟩ (.bool b4)).setCell ⟨Q, 1, none⟩ (.int .i64 m)).cell? ⟨P, 0, none⟩ = some (.string S) := by rw [cell_of_row _ P 0 _ _ _ pP4]; rfl
  have fP0_6 : ((((w4.setCell ⟨P, 0, none⟩ (.string S)).setCell ⟨P, 1, none⟩ (.int .i64 k4)).setCell ⟨P, 2, none⟩ (.bool b4)).setCell ⟨Q, 1, none⟩ (.int .i64 m)).frozen? ⟨P, 0, none⟩ = false := frozen_of_row _ P 0 _ _ pP4
  have cP1_6 : ((((w4.setCell ⟨P, 0, none⟩ (.string S)).setCell ⟨P, 1, none⟩ (.int .i64 k4)).setCell ⟨P, 2, none⟩ (.bool b4)).setCell ⟨Q, 1, none⟩ (.int .i64 m)).cell? ⟨P, 1, none⟩ = some (.int .i64 k4) := by rw [cell_of_row _ P 1 _ _ _ pP4]; rfl
  have fP1_6 : ((((w4.setCell ⟨P, 0, none⟩ (.string S)).setCell ⟨P, 1, none⟩ (.int .i64 k4)).setCell ⟨P, 2, none⟩ (.bool b4)).setCell ⟨Q, 1, none⟩ (.int .i64 m)).frozen? ⟨P, 1, none⟩ = false := frozen_of_row _ P 1 _ _ pP4
  have cP2_6 : ((((w4.setCell ⟨P, 0, none⟩ (.string S)).setCell ⟨P, 1, none⟩ (.int .i64 k4)).setCell ⟨P, 2, none⟩ (.bool b4)).setCell ⟨Q, 1, none⟩ (.int .i64 m)).cell? ⟨P, 2, none⟩ = some (.bool b4) := by rw [cell_of_row _ P 2 _ _ _ pP4]; rfl
  have fP2_6 : ((((w4.setCell ⟨P, 0, none⟩ (.string S)).setCell ⟨P, 1, none⟩ (.int .i64 k4)).setCell ⟨P, 2, none⟩ (.bool b4)).setCell ⟨Q, 1, none⟩ (.int .i64 m)).frozen? ⟨P, 2, none⟩ = false := frozen_of_row _ P 2 _ _ pP4
  go_wp2_with fail
  refine (H5.out (((((w4.setCell ⟨P, 0, none⟩ (.string S)).setCell ⟨P, 1, none⟩ (.int .i64 k4)).setCell ⟨P, 2, none⟩ (.bool b4)).setCell ⟨Q, 1, none⟩ (.int .i64 m)))).mono ?_
  clear cP0_4 fP0_4 cP1_4 fP1_4 cP2_4 fP2_4 cQ1_4 fQ1_4 cP0_5 fP0_5 cP1_5 fP1_5 cP2_5 fP2_5 cQ1_5 fQ1_5 cP0_6 fP0_6 cP1_6 fP1_6 cP2_6 fP2_6
  rintro e7 w7 ⟨rfl, g7⟩
  have rP_7 := row_kept pP4 g7
  have rR_7 := row_kept pR4 g7
  have rT_7 := row_kept pT4 g7
  have rQ_7 := row_kept pQ4 g7
  have hb7 : Below P w w7 := hbp4.trans (g7.mono (by first | exact hbp4.size | (have := hbp4.size; omega)))
  have cP0_7 : w7.cell? ⟨P, 0, none⟩ = some (.string S) := by rw [cell_of_row _ P 0 _ _ _ rP_7]; rfl
  have fP0_7 : w7.frozen? ⟨P, 0, none⟩ = false := frozen_of_row _ P 0 _ _ rP_7
  have cP1_7 : w7.cell? ⟨P, 1, none⟩ = some (.int .i64 k4) := by rw [cell_of_row _ P 1 _ _ _ rP_7]; rfl
  have fP1_7 : w7.frozen? ⟨P, 1, none⟩ = false := frozen_of_row _ P 1 _ _ rP_7
  have cP2_7 : w7.cell? ⟨P, 2, none⟩ = some (.bool b4) := by rw [cell_of_row _ P 2 _ _ _ rP_7]; rfl
  have fP2_7 : w7.frozen? ⟨P, 2, none⟩ = false := frozen_of_row _ P 2 _ _ rP_7
  have cQ2_7 : w7.cell? ⟨Q, 2, none⟩ = some (.int .i64 0) := by rw [cell_of_row _ Q 2 _ _ _ rQ_7]; rfl
  have fQ2_7 : w7.frozen? ⟨Q, 2, none⟩ = false := frozen_of_row _ Q 2 _ _ rQ_7
  have t5 : Bt P w7 (((w7.setCell ⟨P, 0, none⟩ (.string S)).setCell ⟨P, 1, none⟩ (.int .i64 k5)).setCell ⟨P, 2, none⟩ (.bool b5)) := Bt.sets P [(.string S), (.int .i64 k5), (.bool b5)] 0 w7
  have pP5 : (((w7.setCell ⟨P, 0, none⟩ (.string S)).setCell ⟨P, 1, none⟩ (.int .i64 k5)).setCell ⟨P, 2, none⟩ (.bool b5)).heap[P]? = some (.cells #[.string S, .int .i64 k5, .bool b5] 52 (0, 0)) := cat_all (.string S) (.int .i64 k5) (.bool b5) rP_7
  have pR5 := t5.row (show R ≠ P by omega) rR_7
  have pT5 := t5.row (show T ≠ P by omega) rT_7
  have pQ5 := t5.row (show Q ≠ P by omega) rQ_7
  have hbp5 : Below P w (((w7.setCell ⟨P, 0, none⟩ (.string S)).setCell ⟨P, 1, none⟩ (.int .i64 k5)).setCell ⟨P, 2, none⟩ (.bool b5)) := hb7.trans (t5.below (show P ≤ P by omega) (by have := hb7.size; omega))
  have cP0_8 : (((w7.setCell ⟨P, 0, none⟩ (.string S)).setCell ⟨P, 1, none⟩ (.int .i64 k5)).setCell ⟨P, 2, none⟩ (.bool b5)).cell? ⟨P, 0, none⟩ = some (.string S) := by rw [cell_of_row _ P 0 _ _ _ pP5]; rfl
  have fP0_8 : (((w7.setCell ⟨P, 0, none⟩ (.string S)).setCell ⟨P, 1, none⟩ (.int .i64 k5)).setCell ⟨P, 2, none⟩ (.bool b5)).frozen? ⟨P, 0, none⟩ = false := frozen_of_row _ P 0 _ _ pP5
  have cP1_8 : (((w7.setCell ⟨P, 0, none⟩ (.string S)).setCell ⟨P, 1, none⟩ (.int .i64 k5)).setCell ⟨P, 2, none⟩ (.bool b5)).cell? ⟨P, 1, none⟩ = some (.int .i64 k5) := by rw [cell_of_row _ P 1 _ _ _ pP5]; rfl
  have fP1_8 : (((w7.setCell ⟨P, 0, none⟩ (.string S)).setCell ⟨P, 1, none⟩ (.int .i64 k5)).setCell ⟨P, 2, none⟩ (.bool b5)).frozen? ⟨P, 1, none⟩ = false := frozen_of_row _ P 1 _ _ pP5
  have cP2_8 : (((w7.setCell ⟨P, 0, none⟩ (.string S)).setCell ⟨P, 1, none⟩ (.int .i64 k5)).setCell ⟨P, 2, none⟩ (.bool b5)).cell? ⟨P, 2, none⟩ = some (.bool b5) := by rw [cell_of_row _ P 2 _ _ _ pP5]; rfl
  have fP2_8 : (((w7.setCell ⟨P, 0, none⟩ (.string S)).setCell ⟨P, 1, none⟩ (.int .i64 k5)).setCell ⟨P, 2, none⟩ (.bool b5)).frozen? ⟨P, 2, none⟩ = false := frozen_of_row _ P 2 _ _ pP5
  have cQ2_8 : (((w7.setCell ⟨P, 0, none⟩ (.string S)).setCell ⟨P, 1, none⟩ (.int .i64 k5)).setCell ⟨P, 2, none⟩ (.bool b5)).cell? ⟨Q, 2, none⟩ = some (.int .i64 0) := by rw [cell_of_row _ Q 2 _ _ _ pQ5]; rfl
  have fQ2_8 : (((w7.setCell ⟨P, 0, none⟩ (.string S)).setCell ⟨P, 1, none⟩ (.int .i64 k5)).setCell ⟨P, 2, none⟩ (.bool b5)).frozen? ⟨Q, 2, none⟩ = false := frozen_of_row _ Q 2 _ _ pQ5
  have t6 : Bt Q (((w7.setCell ⟨P, 0, none⟩ (.string S)).setCell ⟨P, 1, none⟩ (.int .i64 k5)).setCell ⟨P, 2, none⟩ (.bool b5)) ((((w7.setCell ⟨P, 0, none⟩ (.string S)).setCell ⟨P, 1, none⟩ (.int .i64 k5)).setCell ⟨P, 2, none⟩ (.bool b5)).setCell ⟨Q, 2, none⟩ (.int .i64 d)) := Bt.sets Q [(.int .i64 d)] 2 (((w7.setCell ⟨P, 0, none⟩ (.string S)).setCell ⟨P, 1, none⟩ (.int .i64 k5)).setCell ⟨P, 2, none⟩ (.bool b5))
  have pQ6 : ((((w7.setCell ⟨P, 0, none⟩ (.string S)).setCell ⟨P, 1, none⟩ (.int .i64 k5)).setCell ⟨P, 2, none⟩ (.bool b5)).setCell ⟨Q, 2, none⟩ (.int .i64 d)).heap[Q]? = some (.cells #[.int .i64 1, .int .i64 m, .int .i64 d, .int .i64 0, .int .i64 0, .int .i64 0] 39 (0, 0)) := heap_setCell_same _ Q 2 _ _ _ pQ5
  have pP6 := t6.row (show P ≠ Q by omega) pP5
  have pR6 := t6.row (show R ≠ Q by omega) pR5
  have pT6 := t6.row (show T ≠ Q by omega) pT5
  have hbp6 : Below P w ((((w7.setCell ⟨P, 0, none⟩ (.string S)).setCell ⟨P, 1, none⟩ (.int .i64 k5)).setCell ⟨P, 2, none⟩ (.bool b5)).setCell ⟨Q, 2, none⟩ (.int .i64 d)) := hbp5.trans (t6.below (show P ≤ Q by omega) (by have := hbp5.size; omega))
  have cP0_9 : ((((w7.setCell ⟨P, 0, none⟩ (.string S)).setCell ⟨P, 1, none⟩ (.int .i64 k5)).setCell ⟨P, 2, none⟩ (.bool b5)).setCell ⟨Q, 2, none⟩ (.int .i64 d)).cell? ⟨P, 0, none⟩ = some (.string S) := by rw [cell_of_row _ P 0 _ _ _ pP6]; rfl
  have fP0_9 : ((((w7.setCell ⟨P, 0, none⟩ (.string S)).setCell ⟨P, 1, none⟩ (.int .i64 k5)).setCell ⟨P, 2, none⟩ (.bool b5)).setCell ⟨Q, 2, none⟩ (.int .i64 d)).frozen? ⟨P, 0, none⟩ = false := frozen_of_row _ P 0 _ _ pP6
  have cP1_9 : ((((w7.setCell ⟨P, 0, none⟩ (.string S)).setCell ⟨P, 1, none⟩ (.int .i64 k5)).setCell ⟨P, 2, none⟩ (.bool b5)).setCell ⟨Q, 2, none⟩ (.int .i64 d)).cell? ⟨P, 1, none⟩ = some (.int .i64 k5) := by rw [cell_of_row _ P 1 _ _ _ pP6]; rfl
  have fP1_9 : ((((w7.setCell ⟨P, 0, none⟩ (.string S)).setCell ⟨P, 1, none⟩ (.int .i64 k5)).setCell ⟨P, 2, none⟩ (.bool b5)).setCell ⟨Q, 2, none⟩ (.int .i64 d)).frozen? ⟨P, 1, none⟩ = false := frozen_of_row _ P 1 _ _ pP6
  have cP2_9 : ((((w7.setCell ⟨P, 0, none⟩ (.string S)).setCell ⟨P, 1, none⟩ (.int .i64 k5)).setCell ⟨P, 2, none⟩ (.bool b5)).setCell ⟨Q, 2, none⟩ (.int .i64 d)).cell? ⟨P, 2, none⟩ = some (.bool b5) := by rw [cell_of_row _ P 2 _ _ _ pP6]; rfl
  have fP2_9 : ((((w7.setCell ⟨P, 0, none⟩ (.string S)).setCell ⟨P, 1, none⟩ (.int .i64 k5)).setCell ⟨P, 2, none⟩ (.bool b5)).setCell ⟨Q, 2, none⟩ (.int .i64 d)).frozen? ⟨P, 2, none⟩ = false := frozen_of_row _ P 2 _ _ pP6
  go_wp2_with fail
  clear cP0_7 fP0_7 cP1_7 fP1_7 cP2_7 fP2_7 cQ2_7 fQ2_7 cP0_8 fP0_8 cP1_8 fP1_8 cP2_8 fP2_8 cQ2_8 fQ2_8 cP0_9 fP0_9 cP1_9 fP1_9 cP2_9 fP2_9
  obtain ⟨v7, hv7⟩ : ∃ v, v = ((((w7.setCell ⟨P, 0, none⟩ (.string S)).setCell ⟨P, 1, none⟩ (.int .i64 k5)).setCell ⟨P, 2, none⟩ (.bool b5)).setCell ⟨Q, 2, none⟩ (.int .i64 d)) := ⟨_, rfl⟩
  have hz7 : w7.heap.size = v7.heap.size := by rw [hv7]; simp
  rw [← hv7, hz7]
  rw [← hv7] at pP6 pR6 pT6 pQ6 hbp6
  clear hz7 hv7
  refine (H6.out (v7)).mono ?_
  rintro e10 w10 ⟨rfl, g10⟩
  have rP_10 := row_kept pP6 g10
  have rR_10 := row_kept pR6 g10
  have rT_10 := row_kept pT6 g10
  have rQ_10 := row_kept pQ6 g10
  have hb10 : Below P w w10 := hbp6.trans (g10.mono (by first | exact hbp6.size | (have := hbp6.size; omega)))
  have cP0_10 : w10.cell? ⟨P, 0, none⟩ = some (.string S) := by rw [cell_of_row _ P 0 _ _ _ rP_10]; rfl
  have fP0_10 : w10.frozen? ⟨P, 0, none⟩ = false := frozen_of_row _ P 0 _ _ rP_10
  have cP1_10 : w10.cell? ⟨P, 1, none⟩ = some (.int .i64 k5) := by rw [cell_of_row _ P 1 _ _ _ rP_10]; rfl
  have fP1_10 : w10.frozen? ⟨P, 1, none⟩ = false := frozen_of_row _ P 1 _ _ rP_10
  have cP2_10 : w10.cell? ⟨P, 2, none⟩ = some (.bool b5) := by rw [cell_of_row _ P 2 _ _ _ rP_10]; rfl
  have fP2_10 : w10.frozen? ⟨P, 2, none⟩ = false := frozen_of_row _ P 2 _ _ rP_10
  have t8 : Bt P w10 (((w10.setCell ⟨P, 0, none⟩ (.string S)).setCell ⟨P, 1, none⟩ (.int .i64 k6)).setCell ⟨P, 2, none⟩ (.bool b6)) := Bt.sets P [(.string S), (.int .i64 k6), (.bool b6)] 0 w10
  have pP8 : (((w10.setCell ⟨P, 0, none⟩ (.string S)).setCell ⟨P, 1, none⟩ (.int .i64 k6)).setCell ⟨P, 2, none⟩ (.bool b6)).heap[P]? = some (.cells #[.string S, .int .i64 k6, .bool b6] 52 (0, 0)) := cat_all (.string S) (.int .i64 k6) (.bool b6) rP_10
  have pR8 := t8.row (show R ≠ P by omega) rR_10
  have pT8 := t8.row (show T ≠ P by omega) rT_10
  have pQ8 := t8.row (show Q ≠ P by omega) rQ_10
  have hbp8 : Below P w (((w10.setCell ⟨P, 0, none⟩ (.string S)).setCell ⟨P, 1, none⟩ (.int .i64 k6)).setCell ⟨P, 2, none⟩ (.bool b6)) := hb10.trans (t8.below (show P ≤ P by omega) (by have := hb10.size; omega))
  have cP0_11 : (((w10.setCell ⟨P, 0, none⟩ (.string S)).setCell ⟨P, 1, none⟩ (.int .i64 k6)).setCell ⟨P, 2, none⟩ (.bool b6)).cell? ⟨P, 0, none⟩ = some (.string S) := by rw [cell_of_row _ P 0 _ _ _ pP8]; rfl
  have cP1_11 : (((w10.setCell ⟨P, 0, none⟩ (.string S)).setCell ⟨P, 1, none⟩ (.int .i64 k6)).setCell ⟨P, 2, none⟩ (.bool b6)).cell? ⟨P, 1, none⟩ = some (.int .i64 k6) := by rw [cell_of_row _ P 1 _ _ _ pP8]; rfl
  have cP2_11 : (((w10.setCell ⟨P, 0, none⟩ (.string S)).setCell ⟨P, 1, none⟩ (.int .i64 k6)).setCell ⟨P, 2, none⟩ (.bool b6)).cell? ⟨P, 2, none⟩ = some (.bool b6) := by rw [cell_of_row _ P 2 _ _ _ pP8]; rfl
  have cQ0_11 : (((w10.setCell ⟨P, 0, none⟩ (.string S)).setCell ⟨P, 1, none⟩ (.int .i64 k6)).setCell ⟨P, 2, none⟩ (.bool b6)).cell? ⟨Q, 0, none⟩ = some (.int .i64 1) := by rw [cell_of_row _ Q 0 _ _ _ pQ8]; rfl
  have cQ1_11 : (((w10.setCell ⟨P, 0, none⟩ (.string S)).setCell ⟨P, 1, none⟩ (.int .i64 k6)).setCell ⟨P, 2, none⟩ (.bool b6)).cell? ⟨Q, 1, none⟩ = some (.int .i64 m) := by rw [cell_of_row _ Q 1 _ _ _ pQ8]; rfl
  have cQ2_11 : (((w10.setCell ⟨P, 0, none⟩ (.string S)).setCell ⟨P, 1, none⟩ (.int .i64 k6)).setCell ⟨P, 2, none⟩ (.bool b6)).cell? ⟨Q, 2, none⟩ = some (.int .i64 d) := by rw [cell_of_row _ Q 2 _ _ _ pQ8]; rfl
  have cQ3_11 : (((w10.setCell ⟨P, 0, none⟩ (.string S)).setCell ⟨P, 1, none⟩ (.int .i64 k6)).setCell ⟨P, 2, none⟩ (.bool b6)).cell? ⟨Q, 3, none⟩ = some (.int .i64 0) := by rw [cell_of_row _ Q 3 _ _ _ pQ8]; rfl
  have cQ4_11 : (((w10.setCell ⟨P, 0, none⟩ (.string S)).setCell ⟨P, 1, none⟩ (.int .i64 k6)).setCell ⟨P, 2, none⟩ (.bool b6)).cell? ⟨Q, 4, none⟩ = some (.int .i64 0) := by rw [cell_of_row _ Q 4 _ _ _ pQ8]; rfl
  have cQ5_11 : (((w10.setCell ⟨P, 0, none⟩ (.string S)).setCell ⟨P, 1, none⟩ (.int .i64 k6)).setCell ⟨P, 2, none⟩ (.bool b6)).cell? ⟨Q, 5, none⟩ = some (.int .i64 0) := by rw [cell_of_row _ Q 5 _ _ _ pQ8]; rfl
  have cR0_11 : (((w10.setCell ⟨P, 0, none⟩ (.string S)).setCell ⟨P, 1, none⟩ (.int .i64 k6)).setCell ⟨P, 2, none⟩ (.bool b6)).cell? ⟨R, 0, none⟩ = some (.string ⟨#[]⟩) := by rw [cell_of_row _ R 0 _ _ _ pR8]; rfl
  have fR0_11 : (((w10.setCell ⟨P, 0, none⟩ (.string S)).setCell ⟨P, 1, none⟩ (.int .i64 k6)).setCell ⟨P, 2, none⟩ (.bool b6)).frozen? ⟨R, 0, none⟩ = false := frozen_of_row _ R 0 _ _ pR8
  have cR1_11 : (((w10.setCell ⟨P, 0, none⟩ (.string S)).setCell ⟨P, 1, none⟩ (.int .i64 k6)).setCell ⟨P, 2, none⟩ (.bool b6)).cell? ⟨R, 1, none⟩ = some (.int .i64 0) := by rw [cell_of_row _ R 1 _ _ _ pR8]; rfl
  have fR1_11 : (((w10.setCell ⟨P, 0, none⟩ (.string S)).setCell ⟨P, 1, none⟩ (.int .i64 k6)).setCell ⟨P, 2, none⟩ (.bool b6)).frozen? ⟨R, 1, none⟩ = false := frozen_of_row _ R 1 _ _ pR8
  have cR2_11 : (((w10.setCell ⟨P, 0, none⟩ (.string S)).setCell ⟨P, 1, none⟩ (.int .i64 k6)).setCell ⟨P, 2, none⟩ (.bool b6)).cell? ⟨R, 2, none⟩ = some (.bool false) := by rw [cell_of_row _ R 2 _ _ _ pR8]; rfl
  have fR2_11 : (((w10.setCell ⟨P, 0, none⟩ (.string S)).setCell ⟨P, 1, none⟩ (.int .i64 k6)).setCell ⟨P, 2, none⟩ (.bool b6)).frozen? ⟨R, 2, none⟩ = false := frozen_of_row _ R 2 _ _ pR8
  have cT0_11 : (((w10.setCell ⟨P, 0, none⟩ (.string S)).setCell ⟨P, 1, none⟩ (.int .i64 k6)).setCell ⟨P, 2, none⟩ (.bool b6)).cell? ⟨T, 0, none⟩ = some (.int .i64 0) := by rw [cell_of_row _ T 0 _ _ _ pT8]; rfl
  have fT0_11 : (((w10.setCell ⟨P, 0, none⟩ (.string S)).setCell ⟨P, 1, none⟩ (.int .i64 k6)).setCell ⟨P, 2, none⟩ (.bool b6)).frozen? ⟨T, 0, none⟩ = false := frozen_of_row _ T 0 _ _ pT8
  have cT1_11 : (((w10.setCell ⟨P, 0, none⟩ (.string S)).setCell ⟨P, 1, none⟩ (.int .i64 k6)).setCell ⟨P, 2, none⟩ (.bool b6)).cell? ⟨T, 1, none⟩ = some (.int .i64 0) := by rw [cell_of_row _ T 1 _ _ _ pT8]; rfl
  have fT1_11 : (((w10.setCell ⟨P, 0, none⟩ (.string S)).setCell ⟨P, 1, none⟩ (.int .i64 k6)).setCell ⟨P, 2, none⟩ (.bool b6)).frozen? ⟨T, 1, none⟩ = false := frozen_of_row _ T 1 _ _ pT8
  have cT2_11 : (((w10.setCell ⟨P, 0, none⟩ (.string S)).setCell ⟨P, 1, none⟩ (.int .i64 k6)).setCell ⟨P, 2, none⟩ (.bool b6)).cell? ⟨T, 2, none⟩ = some (.int .i64 0) := by rw [cell_of_row _ T 2 _ _ _ pT8]; rfl
  have fT2_11 : (((w10.setCell ⟨P, 0, none⟩ (.string S)).setCell ⟨P, 1, none⟩ (.int .i64 k6)).setCell ⟨P, 2, none⟩ (.bool b6)).frozen? ⟨T, 2, none⟩ = false := frozen_of_row _ T 2 _ _ pT8
  have cT3_11 : (((w10.setCell ⟨P, 0, none⟩ (.string S)).setCell ⟨P, 1, none⟩ (.int .i64 k6)).setCell ⟨P, 2, none⟩ (.bool b6)).cell? ⟨T, 3, none⟩ = some (.int .i64 0) := by rw [cell_of_row _ T 3 _ _ _ pT8]; rfl
  have fT3_11 : (((w10.setCell ⟨P, 0, none⟩ (.string S)).setCell ⟨P, 1, none⟩ (.int .i64 k6)).setCell ⟨P, 2, none⟩ (.bool b6)).frozen? ⟨T, 3, none⟩ = false := frozen_of_row _ T 3 _ _ pT8
  have cT4_11 : (((w10.setCell ⟨P, 0, none⟩ (.string S)).setCell ⟨P, 1, none⟩ (.int .i64 k6)).setCell ⟨P, 2, none⟩ (.bool b6)).cell? ⟨T, 4, none⟩ = some (.int .i64 0) := by rw [cell_of_row _ T 4 _ _ _ pT8]; rfl
  have fT4_11 : (((w10.setCell ⟨P, 0, none⟩ (.string S)).setCell ⟨P, 1, none⟩ (.int .i64 k6)).setCell ⟨P, 2, none⟩ (.bool b6)).frozen? ⟨T, 4, none⟩ = false := frozen_of_row _ T 4 _ _ pT8
  have cT5_11 : (((w10.setCell ⟨P, 0, none⟩ (.string S)).setCell ⟨P, 1, none⟩ (.int .i64 k6)).setCell ⟨P, 2, none⟩ (.bool b6)).cell? ⟨T, 5, none⟩ = some (.int .i64 0) := by rw [cell_of_row _ T 5 _ _ _ pT8]; rfl
  have fT5_11 : (((w10.setCell ⟨P, 0, none⟩ (.string S)).setCell ⟨P, 1, none⟩ (.int .i64 k6)).setCell ⟨P, 2, none⟩ (.bool b6)).frozen? ⟨T, 5, none⟩ = false := frozen_of_row _ T 5 _ _ pT8
  go_wp2_with fail
  go_region
  have t9 : Bt R (((w10.setCell ⟨P, 0, none⟩ (.string S)).setCell ⟨P, 1, none⟩ (.int .i64 k6)).setCell ⟨P, 2, none⟩ (.bool b6)) ((((((w10.setCell ⟨P, 0, none⟩ (.string S)).setCell ⟨P, 1, none⟩ (.int .i64 k6)).setCell ⟨P, 2, none⟩ (.bool b6)).setCell ⟨R, 0, none⟩ (.string S)).setCell ⟨R, 1, none⟩ (.int .i64 k6)).setCell ⟨R, 2, none⟩ (.bool b6)) := Bt.sets R [(.string S), (.int .i64 k6), (.bool b6)] 0 (((w10.setCell ⟨P, 0, none⟩ (.string S)).setCell ⟨P, 1, none⟩ (.int .i64 k6)).setCell ⟨P, 2, none⟩ (.bool b6))
  have pR9 : ((((((w10.setCell ⟨P, 0, none⟩ (.string S)).setCell ⟨P, 1, none⟩ (.int .i64 k6)).setCell ⟨P, 2, none⟩ (.bool b6)).setCell ⟨R, 0, none⟩ (.string S)).setCell ⟨R, 1, none⟩ (.int .i64 k6)).setCell ⟨R, 2, none⟩ (.bool b6)).heap[R]? = some (.cells #[.string S, .int .i64 k6, .bool b6] 52 (0, 0)) := cat_all (.string S) (.int .i64 k6) (.bool b6) pR8
  have pP9 := t9.row (show P ≠ R by omega) pP8
  have pT9 := t9.row (show T ≠ R by omega) pT8
  have pQ9 := t9.row (show Q ≠ R by omega) pQ8
  have hbp9 : Below P w ((((((w10.setCell ⟨P, 0, none⟩ (.string S)).setCell ⟨P, 1, none⟩ (.int .i64 k6)).setCell ⟨P, 2, none⟩ (.bool b6)).setCell ⟨R, 0, none⟩ (.string S)).setCell ⟨R, 1, none⟩ (.int .i64 k6)).setCell ⟨R, 2, none⟩ (.bool b6)) := hbp8.trans (t9.below (show P ≤ R by omega) (by have := hbp8.size; omega))
  have t10 : Bt T ((((((w10.setCell ⟨P, 0, none⟩ (.string S)).setCell ⟨P, 1, none⟩ (.int .i64 k6)).setCell ⟨P, 2, none⟩ (.bool b6)).setCell ⟨R, 0, none⟩ (.string S)).setCell ⟨R, 1, none⟩ (.int .i64 k6)).setCell ⟨R, 2, none⟩ (.bool b6)) ((((((((((((w10.setCell ⟨P, 0, none⟩ (.string S)).setCell ⟨P, 1, none⟩ (.int .i64 k6)).setCell ⟨P, 2, none⟩ (.bool b6)).setCell ⟨R, 0, none⟩ (.string S)).setCell ⟨R, 1, none⟩ (.int .i64 k6)).setCell ⟨R, 2, none⟩ (.bool b6)).setCell ⟨T, 0, none⟩ (.int .i64 1)).setCell ⟨T, 1, none⟩ (.int .i64 m)).setCell ⟨T, 2, none⟩ (.int .i64 d)).setCell ⟨T, 3, none⟩ (.int .i64 0)).setCell ⟨T, 4, none⟩ (.int .i64 0)).setCell ⟨T, 5, none⟩ (.int .i64 0)) := Bt.sets T [(.int .i64 1), (.int .i64 m), (.int .i64 d), (.int .i64 0), (.int .i64 0), (.int .i64 0)] 0 ((((((w10.setCell ⟨P, 0, none⟩ (.string S)).setCell ⟨P, 1, none⟩ (.int .i64 k6)).setCell ⟨P, 2, none⟩ (.bool b6)).setCell ⟨R, 0, none⟩ (.string S)).setCell ⟨R, 1, none⟩ (.int .i64 k6)).setCell ⟨R, 2, none⟩ (.bool b6))
  have pT10 : ((((((((((((w10.setCell ⟨P, 0, none⟩ (.string S)).setCell ⟨P, 1, none⟩ (.int .i64 k6)).setCell ⟨P, 2, none⟩ (.bool b6)).setCell ⟨R, 0, none⟩ (.string S)).setCell ⟨R, 1, none⟩ (.int .i64 k6)).setCell ⟨R, 2, none⟩ (.bool b6)).setCell ⟨T, 0, none⟩ (.int .i64 1)).setCell ⟨T, 1, none⟩ (.int .i64 m)).setCell ⟨T, 2, none⟩ (.int .i64 d)).setCell ⟨T, 3, none⟩ (.int .i64 0)).setCell ⟨T, 4, none⟩ (.int .i64 0)).setCell ⟨T, 5, none⟩ (.int .i64 0)).heap[T]? = some (.cells #[.int .i64 1, .int .i64 m, .int .i64 d, .int .i64 0, .int .i64 0, .int .i64 0] 39 (0, 0)) := anc_all (.int .i64 1) (.int .i64 m) (.int .i64 d) (.int .i64 0) (.int .i64 0) (.int .i64 0) pT9
  have pP10 := t10.row (show P ≠ T by omega) pP9
  have pR10 := t10.row (show R ≠ T by omega) pR9
  have pQ10 := t10.row (show Q ≠ T by omega) pQ9
  have hbp10 : Below P w ((((((((((((w10.setCell ⟨P, 0, none⟩ (.string S)).setCell ⟨P, 1, none⟩ (.int .i64 k6)).setCell ⟨P, 2, none⟩ (.bool b6)).setCell ⟨R, 0, none⟩ (.string S)).setCell ⟨R, 1, none⟩ (.int .i64 k6)).setCell ⟨R, 2, none⟩ (.bool b6)).setCell ⟨T, 0, none⟩ (.int .i64 1)).setCell ⟨T, 1, none⟩ (.int .i64 m)).setCell ⟨T, 2, none⟩ (.int .i64 d)).setCell ⟨T, 3, none⟩ (.int .i64 0)).setCell ⟨T, 4, none⟩ (.int .i64 0)).setCell ⟨T, 5, none⟩ (.int .i64 0)) := hbp9.trans (t10.below (show P ≤ T by omega) (by have := hbp9.size; omega))
  go_wp2_with fail
  obtain ⟨u9, hu9⟩ : ∃ u9, u9 = ((((((((((((w10.setCell ⟨P, 0, none⟩ (.string S)).setCell ⟨P, 1, none⟩ (.int .i64 k6)).setCell ⟨P, 2, none⟩ (.bool b6)).setCell ⟨R, 0, none⟩ (.string S)).setCell ⟨R, 1, none⟩ (.int .i64 k6)).setCell ⟨R, 2, none⟩ (.bool b6)).setCell ⟨T, 0, none⟩ (.int .i64 1)).setCell ⟨T, 1, none⟩ (.int .i64 m)).setCell ⟨T, 2, none⟩ (.int .i64 d)).setCell ⟨T, 3, none⟩ (.int .i64 0)).setCell ⟨T, 4, none⟩ (.int .i64 0)).setCell ⟨T, 5, none⟩ (.int .i64 0)) := ⟨_, rfl⟩
  rw [← hu9] at pR10 pT10 hbp10 ⊢
  have kR0 : u9.cell? ⟨R, 0, none⟩ = some (.string S) := by rw [cell_of_row _ R 0 _ _ _ pR10]; rfl
  have kR1 : u9.cell? ⟨R, 1, none⟩ = some (.int .i64 k6) := by rw [cell_of_row _ R 1 _ _ _ pR10]; rfl
  have kR2 : u9.cell? ⟨R, 2, none⟩ = some (.bool b6) := by rw [cell_of_row _ R 2 _ _ _ pR10]; rfl
  have kT0 : u9.cell? ⟨T, 0, none⟩ = some (.int .i64 1) := by rw [cell_of_row _ T 0 _ _ _ pT10]; rfl
  have kT1 : u9.cell? ⟨T, 1, none⟩ = some (.int .i64 m) := by rw [cell_of_row _ T 1 _ _ _ pT10]; rfl
  have kT2 : u9.cell? ⟨T, 2, none⟩ = some (.int .i64 d) := by rw [cell_of_row _ T 2 _ _ _ pT10]; rfl
  have kT3 : u9.cell? ⟨T, 3, none⟩ = some (.int .i64 0) := by rw [cell_of_row _ T 3 _ _ _ pT10]; rfl
  have kT4 : u9.cell? ⟨T, 4, none⟩ = some (.int .i64 0) := by rw [cell_of_row _ T 4 _ _ _ pT10]; rfl
  have kT5 : u9.cell? ⟨T, 5, none⟩ = some (.int .i64 0) := by rw [cell_of_row _ T 5 _ _ _ pT10]; rfl
  exact bodyPost_ret (v := .tuple #[sv S k6 b6, .agg #[.int .i64 1, .int .i64 m, .int .i64 d, .int .i64 0, .int .i64 0, .int .i64 0]]) (by simp [results, Tryz.results25, go_sem, kR0, kR1, kR2, kT0, kT1, kT2, kT3, kT4, kT5]) rfl ⟨rfl, (by rw [hP]; exact below_dn hbp10 1)⟩
set_option maxRecDepth 100000 in
set_option maxHeartbeats 2000000 in
theorem r26anc_gon {S : ByteArray} {w : World} {k0 k1 k4 k5 k6 : Nat} {b0 b1 b4 b5 b6 : Bool} {m d j : Int} (H1 : ∀ u : World, Calls Tryz.prog 24 #[sv S k0 b0, .slice (some ⟨u.heap.size, 0, none⟩) 3 3] (u.alloc (.cells #[.string ⟨#[102, 105, 120, 101, 100]⟩, .string ⟨#[101, 97, 115, 116, 101, 114]⟩, .string ⟨#[110, 116, 104]⟩] 9)) fun r w' => r = .returned (.tuple #[sv S k1 b1, .int .i64 (-1)]) ∧ Below u.heap.size u w') (H4 : ∀ u : World, Calls Tryz.prog 21 #[sv S k1 b1] u fun r w' => r = .returned (.tuple #[sv S k4 b4, .int .i64 m]) ∧ Below u.heap.size u w') (H5 : ∀ u : World, Calls Tryz.prog 21 #[sv S k4 b4] u fun r w' => r = .returned (.tuple #[sv S k5 b5, .int .i64 d]) ∧ Below u.heap.size u w') (H6 : ∀ u : World, Calls Tryz.prog 20 #[sv S k5 b5, .slice (some ⟨u.heap.size, 0, none⟩) 1 1] (u.alloc (.cells #[.string ⟨#[10]⟩] 9)) fun r w' => r = .returned (.tuple #[sv S k6 b6, .int .i64 j]) ∧ Below u.heap.size u w') :
    Calls Tryz.prog 25 #[sv S k0 b0] w fun r w' => r = .returned (.tuple #[sv S k6 b6, .agg #[.int .i64 0, .int .i64 m, .int .i64 d, .int .i64 0, .int .i64 0, .int .i64 0]]) ∧ Below w.heap.size w w' := by
  have H1 := Lib.hid H1
  have H4 := Lib.hid H4
  have H5 := Lib.hid H5
  have H6 := Lib.hid H6
  go_enter Tryz.func25, Tryz.ntmps25
  go_wp2_with fail
  obtain ⟨u, hu⟩ : ∃ u, u = ((((w.alloc (.cells #[.string S, .int .i64 k0, .bool b0] 52)).alloc (.cells #[.string ⟨#[]⟩, .int .i64 0, .bool false] 52)).alloc (.cells #[.int .i64 0, .int .i64 0, .int .i64 0, .int .i64 0, .int .i64 0, .int .i64 0] 39)).alloc (.cells #[.int .i64 0, .int .i64 0, .int .i64 0, .int .i64 0, .int .i64 0, .int .i64 0] 39)) := ⟨_, rfl⟩
  have hb : Below w.heap.size w u := hu ▸ al4 w _ _ _ _
  have rP : u.heap[w.heap.size]? = some (.cells #[.string S, .int .i64 k0, .bool b0] 52 (0, 0)) := hu ▸ row_on (heap_alloc_new _ _) (al3 _ _ _ _)
  have rR : u.heap[w.heap.size + 1]? = some (.cells #[.string ⟨#[]⟩, .int .i64 0, .bool false] 52 (0, 0)) := hu ▸ row_on (row_new1 _ _ _) (al2 _ _ _)
  have rT : u.heap[w.heap.size + 1 + 1]? = some (.cells #[.int .i64 0, .int .i64 0, .int .i64 0, .int .i64 0, .int .i64 0, .int .i64 0] 39 (0, 0)) := hu ▸ row_on (row_new2 _ _ _ _) (al1 _ _)
  have rQ : u.heap[w.heap.size + 1 + 1 + 1]? = some (.cells #[.int .i64 0, .int .i64 0, .int .i64 0, .int .i64 0, .int .i64 0, .int .i64 0] 39 (0, 0)) := hu ▸ row_new3 _ _ _ _ _
  have hz : w.heap.size + 1 + 1 + 1 + 1 = u.heap.size := by rw [hu]; simp
  rw [← hu]
  clear hu
  generalize hP : w.heap.size = P at *
  generalize hR : P + 1 = R at *
  generalize hT : R + 1 = T at *
  generalize hQ : T + 1 = Q at *
  rw [hz]
  clear hz
  refine (H1.out (u)).mono ?_
  rintro e1 w1 ⟨rfl, g1⟩
  have rP_1 := row_kept rP g1
  have rR_1 := row_kept rR g1
  have rT_1 := row_kept rT g1
  have rQ_1 := row_kept rQ g1
  have hb1 : Below P w w1 := hb.trans (g1.mono (by first | exact hb.size | (have := hb.size; omega)))
  have cP0_1 : w1.cell? ⟨P, 0, none⟩ = some (.string S) := by rw [cell_of_row _ P 0 _ _ _ rP_1]; rfl
  have fP0_1 : w1.frozen? ⟨P, 0, none⟩ = false := frozen_of_row _ P 0 _ _ rP_1
  have cP1_1 : w1.cell? ⟨P, 1, none⟩ = some (.int .i64 k0) := by rw [cell_of_row _ P 1 _ _ _ rP_1]; rfl
  have fP1_1 : w1.frozen? ⟨P, 1, none⟩ = false := frozen_of_row _ P 1 _ _ rP_1
  have cP2_1 : w1.cell? ⟨P, 2, none⟩ = some (.bool b0) := by rw [cell_of_row _ P 2 _ _ _ rP_1]; rfl
  have fP2_1 : w1.frozen? ⟨P, 2, none⟩ = false := frozen_of_row _ P 2 _ _ rP_1
  have cQ0_1 : w1.cell? ⟨Q, 0, none⟩ = some (.int .i64 0) := by rw [cell_of_row _ Q 0 _ _ _ rQ_1]; rfl
  have fQ0_1 : w1.frozen? ⟨Q, 0, none⟩ = false := frozen_of_row _ Q 0 _ _ rQ_1
  have t1 : Bt P w1 (((w1.setCell ⟨P, 0, none⟩ (.string S)).setCell ⟨P, 1, none⟩ (.int .i64 k1)).setCell ⟨P, 2, none⟩ (.bool b1)) := Bt.sets P [(.string S), (.int .i64 k1), (.bool b1)] 0 w1
  have pP1 : (((w1.setCell ⟨P, 0, none⟩ (.string S)).setCell ⟨P, 1, none⟩ (.int .i64 k1)).setCell ⟨P, 2, none⟩ (.bool b1)).heap[P]? = some (.cells #[.string S, .int .i64 k1, .bool b1] 52 (0, 0)) := cat_all (.string S) (.int .i64 k1) (.bool b1) rP_1
  have pR1 := t1.row (show R ≠ P by omega) rR_1
  have pT1 := t1.row (show T ≠ P by omega) rT_1
  have pQ1 := t1.row (show Q ≠ P by omega) rQ_1
  have hbp1 : Below P w (((w1.setCell ⟨P, 0, none⟩ (.string S)).setCell ⟨P, 1, none⟩ (.int .i64 k1)).setCell ⟨P, 2, none⟩ (.bool b1)) := hb1.trans (t1.below (show P ≤ P by omega) (by have := hb1.size; omega))
  have cP0_2 : (((w1.setCell ⟨P, 0, none⟩ (.string S)).setCell ⟨P, 1, none⟩ (.int .i64 k1)).setCell ⟨P, 2, none⟩ (.bool b1)).cell? ⟨P, 0, none⟩ = some (.string S) := by rw [cell_of_row _ P 0 _ _ _ pP1]; rfl
  have fP0_2 : (((w1.setCell ⟨P, 0, none⟩ (.string S)).setCell ⟨P, 1, none⟩ (.int .i64 k1)).setCell ⟨P, 2, none⟩ (.bool b1)).frozen? ⟨P, 0, none⟩ = false := frozen_of_row _ P 0 _ _ pP1
  have cP1_2 : (((w1.setCell ⟨P, 0, none⟩ (.string S)).setCell ⟨P, 1, none⟩ (.int .i64 k1)).setCell ⟨P, 2, none⟩ (.bool b1)).cell? ⟨P, 1, none⟩ = some (.int .i64 k1) := by rw [cell_of_row _ P 1 _ _ _ pP1]; rfl
  have fP1_2 : (((w1.setCell ⟨P, 0, none⟩ (.string S)).setCell ⟨P, 1, none⟩ (.int .i64 k1)).setCell ⟨P, 2, none⟩ (.bool b1)).frozen? ⟨P, 1, none⟩ = false := frozen_of_row _ P 1 _ _ pP1
  have cP2_2 : (((w1.setCell ⟨P, 0, none⟩ (.string S)).setCell ⟨P, 1, none⟩ (.int .i64 k1)).setCell ⟨P, 2, none⟩ (.bool b1)).cell? ⟨P, 2, none⟩ = some (.bool b1) := by rw [cell_of_row _ P 2 _ _ _ pP1]; rfl
  have fP2_2 : (((w1.setCell ⟨P, 0, none⟩ (.string S)).setCell ⟨P, 1, none⟩ (.int .i64 k1)).setCell ⟨P, 2, none⟩ (.bool b1)).frozen? ⟨P, 2, none⟩ = false := frozen_of_row _ P 2 _ _ pP1
  have cQ0_2 : (((w1.setCell ⟨P, 0, none⟩ (.string S)).setCell ⟨P, 1, none⟩ (.int .i64 k1)).setCell ⟨P, 2, none⟩ (.bool b1)).cell? ⟨Q, 0, none⟩ = some (.int .i64 0) := by rw [cell_of_row _ Q 0 _ _ _ pQ1]; rfl
  have fQ0_2 : (((w1.setCell ⟨P, 0, none⟩ (.string S)).setCell ⟨P, 1, none⟩ (.int .i64 k1)).setCell ⟨P, 2, none⟩ (.bool b1)).frozen? ⟨Q, 0, none⟩ = false := frozen_of_row _ Q 0 _ _ pQ1
  have t2 : Bt Q (((w1.setCell ⟨P, 0, none⟩ (.string S)).setCell ⟨P, 1, none⟩ (.int .i64 k1)).setCell ⟨P, 2, none⟩ (.bool b1)) ((((w1.setCell ⟨P, 0, none⟩ (.string S)).setCell ⟨P, 1, none⟩ (.int .i64 k1)).setCell ⟨P, 2, none⟩ (.bool b1)).setCell ⟨Q, 0, none⟩ (.int .i64 0)) := Bt.sets Q [(.int .i64 0)] 0 (((w1.setCell ⟨P, 0, none⟩ (.string S)).setCell ⟨P, 1, none⟩ (.int .i64 k1)).setCell ⟨P, 2, none⟩ (.bool b1))
  have pQ2 : ((((w1.setCell ⟨P, 0, none⟩ (.string S)).setCell ⟨P, 1, none⟩ (.int .i64 k1)).setCell ⟨P, 2, none⟩ (.bool b1)).setCell ⟨Q, 0, none⟩ (.int .i64 0)).heap[Q]? = some (.cells #[.int .i64 0, .int .i64 0, .int .i64 0, .int .i64 0, .int .i64 0, .int .i64 0] 39 (0, 0)) := heap_setCell_same _ Q 0 _ _ _ pQ1
  have pP2 := t2.row (show P ≠ Q by omega) pP1
  have pR2 := t2.row (show R ≠ Q by omega) pR1
  have pT2 := t2.row (show T ≠ Q by omega) pT1
  have hbp2 : Below P w ((((w1.setCell ⟨P, 0, none⟩ (.string S)).setCell ⟨P, 1, none⟩ (.int .i64 k1)).setCell ⟨P, 2, none⟩ (.bool b1)).setCell ⟨Q, 0, none⟩ (.int .i64 0)) := hbp1.trans (t2.below (show P ≤ Q by omega) (by have := hbp1.size; omega))
  have cP0_3 : ((((w1.setCell ⟨P, 0, none⟩ (.string S)).setCell ⟨P, 1, none⟩ (.int .i64 k1)).setCell ⟨P, 2, none⟩ (.bool b1)).setCell ⟨Q, 0, none⟩ (.int .i64 0)).cell? ⟨P, 0, none⟩ = some (.string S) := by rw [cell_of_row _ P 0 _ _ _ pP2]; rfl
  have fP0_3 : ((((w1.setCell ⟨P, 0, none⟩ (.string S)).setCell ⟨P, 1, none⟩ (.int .i64 k1)).setCell ⟨P, 2, none⟩ (.bool b1)).setCell ⟨Q, 0, none⟩ (.int .i64 0)).frozen? ⟨P, 0, none⟩ = false := frozen_of_row _ P 0 _ _ pP2
  have cP1_3 : ((((w1.setCell ⟨P, 0, none⟩ (.string S)).setCell ⟨P, 1, none⟩ (.int .i64 k1)).setCell ⟨P, 2, none⟩ (.bool b1)).setCell ⟨Q, 0, none⟩ (.int .i64 0)).cell? ⟨P, 1, none⟩ = some (.int .i64 k1) := by rw [cell_of_row _ P 1 _ _ _ pP2]; rfl
  have fP1_3 : ((((w1.setCell ⟨P, 0, none⟩ (.string S)).setCell ⟨P, 1, none⟩ (.int .i64 k1)).setCell ⟨P, 2, none⟩ (.bool b1)).setCell ⟨Q, 0, none⟩ (.int .i64 0)).frozen? ⟨P, 1, none⟩ = false := frozen_of_row _ P 1 _ _ pP2
  have cP2_3 : ((((w1.setCell ⟨P, 0, none⟩ (.string S)).setCell ⟨P, 1, none⟩ (.int .i64 k1)).setCell ⟨P, 2, none⟩ (.bool b1)).setCell ⟨Q, 0, none⟩ (.int .i64 0)).cell? ⟨P, 2, none⟩ = some (.bool b1) := by rw [cell_of_row _ P 2 _ _ _ pP2]; rfl
  have fP2_3 : ((((w1.setCell ⟨P, 0, none⟩ (.string S)).setCell ⟨P, 1, none⟩ (.int .i64 k1)).setCell ⟨P, 2, none⟩ (.bool b1)).setCell ⟨Q, 0, none⟩ (.int .i64 0)).frozen? ⟨P, 2, none⟩ = false := frozen_of_row _ P 2 _ _ pP2
  go_wp2_with fail
  refine (H4.out (((((w1.setCell ⟨P, 0, none⟩ (.string S)).setCell ⟨P, 1, none⟩ (.int .i64 k1)).setCell ⟨P, 2, none⟩ (.bool b1)).setCell ⟨Q, 0, none⟩ (.int .i64 0)))).mono ?_
  clear cP0_1 fP0_1 cP1_1 fP1_1 cP2_1 fP2_1 cQ0_1 fQ0_1 cP0_2 fP0_2 cP1_2 fP1_2 cP2_2 fP2_2 cQ0_2 fQ0_2 cP0_3 fP0_3 cP1_3 fP1_3 cP2_3 fP2_3
  rintro e4 w4 ⟨rfl, g4⟩
  have rP_4 := row_kept pP2 g4
  have rR_4 := row_kept pR2 g4
  have rT_4 := row_kept pT2 g4
  have rQ_4 := row_kept pQ2 g4
  have hb4 : Below P w w4 := hbp2.trans (g4.mono (by first | exact hbp2.size | (have := hbp2.size; omega)))
  have cP0_4 : w4.cell? ⟨P, 0, none⟩ = some (.string S) := by rw [cell_of_row _ P 0 _ _ _ rP_4]; rfl
  have fP0_4 : w4.frozen? ⟨P, 0, none⟩ = false := frozen_of_row _ P 0 _ _ rP_4
  have cP1_4 : w4.cell? ⟨P, 1, none⟩ = some (.int .i64 k1) := by rw [cell_of_row _ P 1 _ _ _ rP_4]; rfl
  have fP1_4 : w4.frozen? ⟨P, 1, none⟩ = false := frozen_of_row _ P 1 _ _ rP_4
  have cP2_4 : w4.cell? ⟨P, 2, none⟩ = some (.bool b1) := by rw [cell_of_row _ P 2 _ _ _ rP_4]; rfl
  have fP2_4 : w4.frozen? ⟨P, 2, none⟩ = false := frozen_of_row _ P 2 _ _ rP_4
  have cQ1_4 : w4.cell? ⟨Q, 1, none⟩ = some (.int .i64 0) := by rw [cell_of_row _ Q 1 _ _ _ rQ_4]; rfl
  have fQ1_4 : w4.frozen? ⟨Q, 1, none⟩ = false := frozen_of_row _ Q 1 _ _ rQ_4
  have t3 : Bt P w4 (((w4.setCell ⟨P, 0, none⟩ (.string S)).setCell ⟨P, 1, none⟩ (.int .i64 k4)).setCell ⟨P, 2, none⟩ (.bool b4)) := Bt.sets P [(.string S), (.int .i64 k4), (.bool b4)] 0 w4
  have pP3 : (((w4.setCell ⟨P, 0, none⟩ (.string S)).setCell ⟨P, 1, none⟩ (.int .i64 k4)).setCell ⟨P, 2, none⟩ (.bool b4)).heap[P]? = some (.cells #[.string S, .int .i64 k4, .bool b4] 52 (0, 0)) := cat_all (.string S) (.int .i64 k4) (.bool b4) rP_4
  have pR3 := t3.row (show R ≠ P by omega) rR_4
  have pT3 := t3.row (show T ≠ P by omega) rT_4
  have pQ3 := t3.row (show Q ≠ P by omega) rQ_4
  have hbp3 : Below P w (((w4.setCell ⟨P, 0, none⟩ (.string S)).setCell ⟨P, 1, none⟩ (.int .i64 k4)).setCell ⟨P, 2, none⟩ (.bool b4)) := hb4.trans (t3.below (show P ≤ P by omega) (by have := hb4.size; omega))
  have cP0_5 : (((w4.setCell ⟨P, 0, none⟩ (.string S)).setCell ⟨P, 1, none⟩ (.int .i64 k4)).setCell ⟨P, 2, none⟩ (.bool b4)).cell? ⟨P, 0, none⟩ = some (.string S) := by rw [cell_of_row _ P 0 _ _ _ pP3]; rfl
  have fP0_5 : (((w4.setCell ⟨P, 0, none⟩ (.string S)).setCell ⟨P, 1, none⟩ (.int .i64 k4)).setCell ⟨P, 2, none⟩ (.bool b4)).frozen? ⟨P, 0, none⟩ = false := frozen_of_row _ P 0 _ _ pP3
  have cP1_5 : (((w4.setCell ⟨P, 0, none⟩ (.string S)).setCell ⟨P, 1, none⟩ (.int .i64 k4)).setCell ⟨P, 2, none⟩ (.bool b4)).cell? ⟨P, 1, none⟩ = some (.int .i64 k4) := by rw [cell_of_row _ P 1 _ _ _ pP3]; rfl
  have fP1_5 : (((w4.setCell ⟨P, 0, none⟩ (.string S)).setCell ⟨P, 1, none⟩ (.int .i64 k4)).setCell ⟨P, 2, none⟩ (.bool b4)).frozen? ⟨P, 1, none⟩ = false := frozen_of_row _ P 1 _ _ pP3
  have cP2_5 : (((w4.setCell ⟨P, 0, none⟩ (.string S)).setCell ⟨P, 1, none⟩ (.int .i64 k4)).setCell ⟨P, 2, none⟩ (.bool b4)).cell? ⟨P, 2, none⟩ = some (.bool b4) := by rw [cell_of_row _ P 2 _ _ _ pP3]; rfl
  have fP2_5 : (((w4.setCell ⟨P, 0, none⟩ (.string S)).setCell ⟨P, 1, none⟩ (.int .i64 k4)).setCell ⟨P, 2, none⟩ (.bool b4)).frozen? ⟨P, 2, none⟩ = false := frozen_of_row _ P 2 _ _ pP3
  have cQ1_5 : (((w4.setCell ⟨P, 0, none⟩ (.string S)).setCell ⟨P, 1, none⟩ (.int .i64 k4)).setCell ⟨P, 2, none⟩ (.bool b4)).cell? ⟨Q, 1, none⟩ = some (.int .i64 0) := by rw [cell_of_row _ Q 1 _ _ _ pQ3]; rfl
  have fQ1_5 : (((w4.setCell ⟨P, 0, none⟩ (.string S)).setCell ⟨P, 1, none⟩ (.int .i64 k4)).setCell ⟨P, 2, none⟩ (.bool b4)).frozen? ⟨Q, 1, none⟩ = false := frozen_of_row _ Q 1 _ _ pQ3
  have t4 : Bt Q (((w4.setCell ⟨P, 0, none⟩ (.string S)).setCell ⟨P, 1, none⟩ (.int .i64 k4)).setCell ⟨P, 2, none⟩ (.bool b4)) ((((w4.setCell ⟨P, 0, none⟩ (.string S)).setCell ⟨P, 1, none⟩ (.int .i64 k4)).setCell ⟨P, 2, none⟩ (.bool b4)).setCell ⟨Q, 1, none⟩ (.int .i64 m)) := Bt.sets Q [(.int .i64 m)] 1 (((w4.setCell ⟨P, 0, none⟩ (.string S)).setCell ⟨P, 1, none⟩ (.int .i64 k4)).setCell ⟨P, 2, none⟩ (.bool b4))
  have pQ4 : ((((w4.setCell ⟨P, 0, none⟩ (.string S)).setCell ⟨P, 1, none⟩ (.int .i64 k4)).setCell ⟨P, 2, none⟩ (.bool b4)).setCell ⟨Q, 1, none⟩ (.int .i64 m)).heap[Q]? = some (.cells #[.int .i64 0, .int .i64 m, .int .i64 0, .int .i64 0, .int .i64 0, .int .i64 0] 39 (0, 0)) := heap_setCell_same _ Q 1 _ _ _ pQ3
  have pP4 := t4.row (show P ≠ Q by omega) pP3
  have pR4 := t4.row (show R ≠ Q by omega) pR3
  have pT4 := t4.row (show T ≠ Q by omega) pT3
  have hbp4 : Below P w ((((w4.setCell ⟨P, 0, none⟩ (.string S)).setCell ⟨P, 1, none⟩ (.int .i64 k4)).setCell ⟨P, 2, none⟩ (.bool b4)).setCell ⟨Q, 1, none⟩ (.int .i64 m)) := hbp3.trans (t4.below (show P ≤ Q by omega) (by have := hbp3.size; omega))
  have cP0_6 : ((((w4.setCell ⟨P, 0, none⟩ (.string S)).setCell ⟨P, 1, none⟩ (.int .i64 k4)).setCell ⟨P, 2, none⟩ (.bool b4)).setCell ⟨Q, 1, none⟩ (.int .i64 m)).cell? ⟨P, 0, none⟩ = some (.string S) := by rw [cell_of_row _ P 0 _ _ _ pP4]; rfl
  have fP0_6 : ((((w4.setCell ⟨P, 0, none⟩ (.string S)).setCell ⟨P, 1, none⟩ (.int .i64 k4)).setCell ⟨P, 2, none⟩ (.bool b4)).setCell ⟨Q, 1, none⟩ (.int .i64 m)).frozen? ⟨P, 0, none⟩ = false := frozen_of_row _ P 0 _ _ pP4
  have cP1_6 : ((((w4.setCell ⟨P, 0, none⟩ (.string S)).setCell ⟨P, 1, none⟩ (.int .i64 k4)).setCell ⟨P, 2, none⟩ (.bool b4)).setCell ⟨Q, 1, none⟩ (.int .i64 m)).cell? ⟨P, 1, none⟩ = some (.int .i64 k4) := by rw [cell_of_row _ P 1 _ _ _ pP4]; rfl
  have fP1_6 : ((((w4.setCell ⟨P, 0, none⟩ (.string S)).setCell ⟨P, 1, none⟩ (.int .i64 k4)).setCell ⟨P, 2, none⟩ (.bool b4)).setCell ⟨Q, 1, none⟩ (.int .i64 m)).frozen? ⟨P, 1, none⟩ = false := frozen_of_row _ P 1 _ _ pP4
  have cP2_6 : ((((w4.setCell ⟨P, 0, none⟩ (.string S)).setCell ⟨P, 1, none⟩ (.int .i64 k4)).setCell ⟨P, 2, none⟩ (.bool b4)).setCell ⟨Q, 1, none⟩ (.int .i64 m)).cell? ⟨P, 2, none⟩ = some (.bool b4) := by rw [cell_of_row _ P 2 _ _ _ pP4]; rfl
  have fP2_6 : ((((w4.setCell ⟨P, 0, none⟩ (.string S)).setCell ⟨P, 1, none⟩ (.int .i64 k4)).setCell ⟨P, 2, none⟩ (.bool b4)).setCell ⟨Q, 1, none⟩ (.int .i64 m)).frozen? ⟨P, 2, none⟩ = false := frozen_of_row _ P 2 _ _ pP4
  go_wp2_with fail
  refine (H5.out (((((w4.setCell ⟨P, 0, none⟩ (.string S)).setCell ⟨P, 1, none⟩ (.int .i64 k4)).setCell ⟨P, 2, none⟩ (.bool b4)).setCell ⟨Q, 1, none⟩ (.int .i64 m)))).mono ?_
  clear cP0_4 fP0_4 cP1_4 fP1_4 cP2_4 fP2_4 cQ1_4 fQ1_4 cP0_5 fP0_5 cP1_5 fP1_5 cP2_5 fP2_5 cQ1_5 fQ1_5 cP0_6 fP0_6 cP1_6 fP1_6 cP2_6 fP2_6
  rintro e7 w7 ⟨rfl, g7⟩
  have rP_7 := row_kept pP4 g7
  have rR_7 := row_kept pR4 g7
  have rT_7 := row_kept pT4 g7
  have rQ_7 := row_kept pQ4 g7
  have hb7 : Below P w w7 := hbp4.trans (g7.mono (by first | exact hbp4.size | (have := hbp4.size; omega)))
  have cP0_7 : w7.cell? ⟨P, 0, none⟩ = some (.string S) := by rw [cell_of_row _ P 0 _ _ _ rP_7]; rfl
  have fP0_7 : w7.frozen? ⟨P, 0, none⟩ = false := frozen_of_row _ P 0 _ _ rP_7
  have cP1_7 : w7.cell? ⟨P, 1, none⟩ = some (.int .i64 k4) := by rw [cell_of_row _ P 1 _ _ _ rP_7]; rfl
  have fP1_7 : w7.frozen? ⟨P, 1, none⟩ = false := frozen_of_row _ P 1 _ _ rP_7
  have cP2_7 : w7.cell? ⟨P, 2, none⟩ = some (.bool b4) := by rw [cell_of_row _ P 2 _ _ _ rP_7]; rfl
  have fP2_7 : w7.frozen? ⟨P, 2, none⟩ = false := frozen_of_row _ P 2 _ _ rP_7
  have cQ2_7 : w7.cell? ⟨Q, 2, none⟩ = some (.int .i64 0) := by rw [cell_of_row _ Q 2 _ _ _ rQ_7]; rfl
  have fQ2_7 : w7.frozen? ⟨Q, 2, none⟩ = false := frozen_of_row _ Q 2 _ _ rQ_7
  have t5 : Bt P w7 (((w7.setCell ⟨P, 0, none⟩ (.string S)).setCell ⟨P, 1, none⟩ (.int .i64 k5)).setCell ⟨P, 2, none⟩ (.bool b5)) := Bt.sets P [(.string S), (.int .i64 k5), (.bool b5)] 0 w7
  have pP5 : (((w7.setCell ⟨P, 0, none⟩ (.string S)).setCell ⟨P, 1, none⟩ (.int .i64 k5)).setCell ⟨P, 2, none⟩ (.bool b5)).heap[P]? = some (.cells #[.string S, .int .i64 k5, .bool b5] 52 (0, 0)) := cat_all (.string S) (.int .i64 k5) (.bool b5) rP_7
  have pR5 := t5.row (show R ≠ P by omega) rR_7
  have pT5 := t5.row (show T ≠ P by omega) rT_7
  have pQ5 := t5.row (show Q ≠ P by omega) rQ_7
  have hbp5 : Below P w (((w7.setCell ⟨P, 0, none⟩ (.string S)).setCell ⟨P, 1, none⟩ (.int .i64 k5)).setCell ⟨P, 2, none⟩ (.bool b5)) := hb7.trans (t5.below (show P ≤ P by omega) (by have := hb7.size; omega))
  have cP0_8 : (((w7.setCell ⟨P, 0, none⟩ (.string S)).setCell ⟨P, 1, none⟩ (.int .i64 k5)).setCell ⟨P, 2, none⟩ (.bool b5)).cell? ⟨P, 0, none⟩ = some (.string S) := by rw [cell_of_row _ P 0 _ _ _ pP5]; rfl
  have fP0_8 : (((w7.setCell ⟨P, 0, none⟩ (.string S)).setCell ⟨P, 1, none⟩ (.int .i64 k5)).setCell ⟨P, 2, none⟩ (.bool b5)).frozen? ⟨P, 0, none⟩ = false := frozen_of_row _ P 0 _ _ pP5
  have cP1_8 : (((w7.setCell ⟨P, 0, none⟩ (.string S)).setCell ⟨P, 1, none⟩ (.int .i64 k5)).setCell ⟨P, 2, none⟩ (.bool b5)).cell? ⟨P, 1, none⟩ = some (.int .i64 k5) := by rw [cell_of_row _ P 1 _ _ _ pP5]; rfl
  have fP1_8 : (((w7.setCell ⟨P, 0, none⟩ (.string S)).setCell ⟨P, 1, none⟩ (.int .i64 k5)).setCell ⟨P, 2, none⟩ (.bool b5)).frozen? ⟨P, 1, none⟩ = false := frozen_of_row _ P 1 _ _ pP5
  have cP2_8 : (((w7.setCell ⟨P, 0, none⟩ (.string S)).setCell ⟨P, 1, none⟩ (.int .i64 k5)).setCell ⟨P, 2, none⟩ (.bool b5)).cell? ⟨P, 2, none⟩ = some (.bool b5) := by rw [cell_of_row _ P 2 _ _ _ pP5]; rfl
  have fP2_8 : (((w7.setCell ⟨P, 0, none⟩ (.string S)).setCell ⟨P, 1, none⟩ (.int .i64 k5)).setCell ⟨P, 2, none⟩ (.bool b5)).frozen? ⟨P, 2, none⟩ = false := frozen_of_row _ P 2 _ _ pP5
  have cQ2_8 : (((w7.setCell ⟨P, 0, none⟩ (.string S)).setCell ⟨P, 1, none⟩ (.int .i64 k5)).setCell ⟨P, 2, none⟩ (.bool b5)).cell? ⟨Q, 2, none⟩ = some (.int .i64 0) := by rw [cell_of_row _ Q 2 _ _ _ pQ5]; rfl
  have fQ2_8 : (((w7.setCell ⟨P, 0, none⟩ (.string S)).setCell ⟨P, 1, none⟩ (.int .i64 k5)).setCell ⟨P, 2, none⟩ (.bool b5)).frozen? ⟨Q, 2, none⟩ = false := frozen_of_row _ Q 2 _ _ pQ5
  have t6 : Bt Q (((w7.setCell ⟨P, 0, none⟩ (.string S)).setCell ⟨P, 1, none⟩ (.int .i64 k5)).setCell ⟨P, 2, none⟩ (.bool b5)) ((((w7.setCell ⟨P, 0, none⟩ (.string S)).setCell ⟨P, 1, none⟩ (.int .i64 k5)).setCell ⟨P, 2, none⟩ (.bool b5)).setCell ⟨Q, 2, none⟩ (.int .i64 d)) := Bt.sets Q [(.int .i64 d)] 2 (((w7.setCell ⟨P, 0, none⟩ (.string S)).setCell ⟨P, 1, none⟩ (.int .i64 k5)).setCell ⟨P, 2, none⟩ (.bool b5))
  have pQ6 : ((((w7.setCell ⟨P, 0, none⟩ (.string S)).setCell ⟨P, 1, none⟩ (.int .i64 k5)).setCell ⟨P, 2, none⟩ (.bool b5)).setCell ⟨Q, 2, none⟩ (.int .i64 d)).heap[Q]? = some (.cells #[.int .i64 0, .int .i64 m, .int .i64 d, .int .i64 0, .int .i64 0, .int .i64 0] 39 (0, 0)) := heap_setCell_same _ Q 2 _ _ _ pQ5
  have pP6 := t6.row (show P ≠ Q by omega) pP5
  have pR6 := t6.row (show R ≠ Q by omega) pR5
  have pT6 := t6.row (show T ≠ Q by omega) pT5
  have hbp6 : Below P w ((((w7.setCell ⟨P, 0, none⟩ (.string S)).setCell ⟨P, 1, none⟩ (.int .i64 k5)).setCell ⟨P, 2, none⟩ (.bool b5)).setCell ⟨Q, 2, none⟩ (.int .i64 d)) := hbp5.trans (t6.below (show P ≤ Q by omega) (by have := hbp5.size; omega))
  have cP0_9 : ((((w7.setCell ⟨P, 0, none⟩ (.string S)).setCell ⟨P, 1, none⟩ (.int .i64 k5)).setCell ⟨P, 2, none⟩ (.bool b5)).setCell ⟨Q, 2, none⟩ (.int .i64 d)).cell? ⟨P, 0, none⟩ = some (.string S) := by rw [cell_of_row _ P 0 _ _ _ pP6]; rfl
  have fP0_9 : ((((w7.setCell ⟨P, 0, none⟩ (.string S)).setCell ⟨P, 1, none⟩ (.int .i64 k5)).setCell ⟨P, 2, none⟩ (.bool b5)).setCell ⟨Q, 2, none⟩ (.int .i64 d)).frozen? ⟨P, 0, none⟩ = false := frozen_of_row _ P 0 _ _ pP6
  have cP1_9 : ((((w7.setCell ⟨P, 0, none⟩ (.string S)).setCell ⟨P, 1, none⟩ (.int .i64 k5)).setCell ⟨P, 2, none⟩ (.bool b5)).setCell ⟨Q, 2, none⟩ (.int .i64 d)).cell? ⟨P, 1, none⟩ = some (.int .i64 k5) := by rw [cell_of_row _ P 1 _ _ _ pP6]; rfl
  have fP1_9 : ((((w7.setCell ⟨P, 0, none⟩ (.string S)).setCell ⟨P, 1, none⟩ (.int .i64 k5)).setCell ⟨P, 2, none⟩ (.bool b5)).setCell ⟨Q, 2, none⟩ (.int .i64 d)).frozen? ⟨P, 1, none⟩ = false := frozen_of_row _ P 1 _ _ pP6
  have cP2_9 : ((((w7.setCell ⟨P, 0, none⟩ (.string S)).setCell ⟨P, 1, none⟩ (.int .i64 k5)).setCell ⟨P, 2, none⟩ (.bool b5)).setCell ⟨Q, 2, none⟩ (.int .i64 d)).cell? ⟨P, 2, none⟩ = some (.bool b5) := by rw [cell_of_row _ P 2 _ _ _ pP6]; rfl
  have fP2_9 : ((((w7.setCell ⟨P, 0, none⟩ (.string S)).setCell ⟨P, 1, none⟩ (.int .i64 k5)).setCell ⟨P, 2, none⟩ (.bool b5)).setCell ⟨Q, 2, none⟩ (.int .i64 d)).frozen? ⟨P, 2, none⟩ = false := frozen_of_row _ P 2 _ _ pP6
  go_wp2_with fail
  clear cP0_7 fP0_7 cP1_7 fP1_7 cP2_7 fP2_7 cQ2_7 fQ2_7 cP0_8 fP0_8 cP1_8 fP1_8 cP2_8 fP2_8 cQ2_8 fQ2_8 cP0_9 fP0_9 cP1_9 fP1_9 cP2_9 fP2_9
  obtain ⟨v7, hv7⟩ : ∃ v, v = ((((w7.setCell ⟨P, 0, none⟩ (.string S)).setCell ⟨P, 1, none⟩ (.int .i64 k5)).setCell ⟨P, 2, none⟩ (.bool b5)).setCell ⟨Q, 2, none⟩ (.int .i64 d)) := ⟨_, rfl⟩
  have hz7 : w7.heap.size = v7.heap.size := by rw [hv7]; simp
  rw [← hv7, hz7]
  rw [← hv7] at pP6 pR6 pT6 pQ6 hbp6
  clear hz7 hv7
  refine (H6.out (v7)).mono ?_
  rintro e10 w10 ⟨rfl, g10⟩
  have rP_10 := row_kept pP6 g10
  have rR_10 := row_kept pR6 g10
  have rT_10 := row_kept pT6 g10
  have rQ_10 := row_kept pQ6 g10
  have hb10 : Below P w w10 := hbp6.trans (g10.mono (by first | exact hbp6.size | (have := hbp6.size; omega)))
  have cP0_10 : w10.cell? ⟨P, 0, none⟩ = some (.string S) := by rw [cell_of_row _ P 0 _ _ _ rP_10]; rfl
  have fP0_10 : w10.frozen? ⟨P, 0, none⟩ = false := frozen_of_row _ P 0 _ _ rP_10
  have cP1_10 : w10.cell? ⟨P, 1, none⟩ = some (.int .i64 k5) := by rw [cell_of_row _ P 1 _ _ _ rP_10]; rfl
  have fP1_10 : w10.frozen? ⟨P, 1, none⟩ = false := frozen_of_row _ P 1 _ _ rP_10
  have cP2_10 : w10.cell? ⟨P, 2, none⟩ = some (.bool b5) := by rw [cell_of_row _ P 2 _ _ _ rP_10]; rfl
  have fP2_10 : w10.frozen? ⟨P, 2, none⟩ = false := frozen_of_row _ P 2 _ _ rP_10
  have t8 : Bt P w10 (((w10.setCell ⟨P, 0, none⟩ (.string S)).setCell ⟨P, 1, none⟩ (.int .i64 k6)).setCell ⟨P, 2, none⟩ (.bool b6)) := Bt.sets P [(.string S), (.int .i64 k6), (.bool b6)] 0 w10
  have pP8 : (((w10.setCell ⟨P, 0, none⟩ (.string S)).setCell ⟨P, 1, none⟩ (.int .i64 k6)).setCell ⟨P, 2, none⟩ (.bool b6)).heap[P]? = some (.cells #[.string S, .int .i64 k6, .bool b6] 52 (0, 0)) := cat_all (.string S) (.int .i64 k6) (.bool b6) rP_10
  have pR8 := t8.row (show R ≠ P by omega) rR_10
  have pT8 := t8.row (show T ≠ P by omega) rT_10
  have pQ8 := t8.row (show Q ≠ P by omega) rQ_10
  have hbp8 : Below P w (((w10.setCell ⟨P, 0, none⟩ (.string S)).setCell ⟨P, 1, none⟩ (.int .i64 k6)).setCell ⟨P, 2, none⟩ (.bool b6)) := hb10.trans (t8.below (show P ≤ P by omega) (by have := hb10.size; omega))
  have cP0_11 : (((w10.setCell ⟨P, 0, none⟩ (.string S)).setCell ⟨P, 1, none⟩ (.int .i64 k6)).setCell ⟨P, 2, none⟩ (.bool b6)).cell? ⟨P, 0, none⟩ = some (.string S) := by rw [cell_of_row _ P 0 _ _ _ pP8]; rfl
  have cP1_11 : (((w10.setCell ⟨P, 0, none⟩ (.string S)).setCell ⟨P, 1, none⟩ (.int .i64 k6)).setCell ⟨P, 2, none⟩ (.bool b6)).cell? ⟨P, 1, none⟩ = some (.int .i64 k6) := by rw [cell_of_row _ P 1 _ _ _ pP8]; rfl
  have cP2_11 : (((w10.setCell ⟨P, 0, none⟩ (.string S)).setCell ⟨P, 1, none⟩ (.int .i64 k6)).setCell ⟨P, 2, none⟩ (.bool b6)).cell? ⟨P, 2, none⟩ = some (.bool b6) := by rw [cell_of_row _ P 2 _ _ _ pP8]; rfl
  have cQ0_11 : (((w10.setCell ⟨P, 0, none⟩ (.string S)).setCell ⟨P, 1, none⟩ (.int .i64 k6)).setCell ⟨P, 2, none⟩ (.bool b6)).cell? ⟨Q, 0, none⟩ = some (.int .i64 0) := by rw [cell_of_row _ Q 0 _ _ _ pQ8]; rfl
  have cQ1_11 : (((w10.setCell ⟨P, 0, none⟩ (.string S)).setCell ⟨P, 1, none⟩ (.int .i64 k6)).setCell ⟨P, 2, none⟩ (.bool b6)).cell? ⟨Q, 1, none⟩ = some (.int .i64 m) := by rw [cell_of_row _ Q 1 _ _ _ pQ8]; rfl
  have cQ2_11 : (((w10.setCell ⟨P, 0, none⟩ (.string S)).setCell ⟨P, 1, none⟩ (.int .i64 k6)).setCell ⟨P, 2, none⟩ (.bool b6)).cell? ⟨Q, 2, none⟩ = some (.int .i64 d) := by rw [cell_of_row _ Q 2 _ _ _ pQ8]; rfl
  have cQ3_11 : (((w10.setCell ⟨P, 0, none⟩ (.string S)).setCell ⟨P, 1, none⟩ (.int .i64 k6)).setCell ⟨P, 2, none⟩ (.bool b6)).cell? ⟨Q, 3, none⟩ = some (.int .i64 0) := by rw [cell_of_row _ Q 3 _ _ _ pQ8]; rfl
  have cQ4_11 : (((w10.setCell ⟨P, 0, none⟩ (.string S)).setCell ⟨P, 1, none⟩ (.int .i64 k6)).setCell ⟨P, 2, none⟩ (.bool b6)).cell? ⟨Q, 4, none⟩ = some (.int .i64 0) := by rw [cell_of_row _ Q 4 _ _ _ pQ8]; rfl
  have cQ5_11 : (((w10.setCell ⟨P, 0, none⟩ (.string S)).setCell ⟨P, 1, none⟩ (.int .i64 k6)).setCell ⟨P, 2, none⟩ (.bool b6)).cell? ⟨Q, 5, none⟩ = some (.int .i64 0) := by rw [cell_of_row _ Q 5 _ _ _ pQ8]; rfl
  have cR0_11 : (((w10.setCell ⟨P, 0, none⟩ (.string S)).setCell ⟨P, 1, none⟩ (.int .i64 k6)).setCell ⟨P, 2, none⟩ (.bool b6)).cell? ⟨R, 0, none⟩ = some (.string ⟨#[]⟩) := by rw [cell_of_row _ R 0 _ _ _ pR8]; rfl
  have fR0_11 : (((w10.setCell ⟨P, 0, none⟩ (.string S)).setCell ⟨P, 1, none⟩ (.int .i64 k6)).setCell ⟨P, 2, none⟩ (.bool b6)).frozen? ⟨R, 0, none⟩ = false := frozen_of_row _ R 0 _ _ pR8
  have cR1_11 : (((w10.setCell ⟨P, 0, none⟩ (.string S)).setCell ⟨P, 1, none⟩ (.int .i64 k6)).setCell ⟨P, 2, none⟩ (.bool b6)).cell? ⟨R, 1, none⟩ = some (.int .i64 0) := by rw [cell_of_row _ R 1 _ _ _ pR8]; rfl
  have fR1_11 : (((w10.setCell ⟨P, 0, none⟩ (.string S)).setCell ⟨P, 1, none⟩ (.int .i64 k6)).setCell ⟨P, 2, none⟩ (.bool b6)).frozen? ⟨R, 1, none⟩ = false := frozen_of_row _ R 1 _ _ pR8
  have cR2_11 : (((w10.setCell ⟨P, 0, none⟩ (.string S)).setCell ⟨P, 1, none⟩ (.int .i64 k6)).setCell ⟨P, 2, none⟩ (.bool b6)).cell? ⟨R, 2, none⟩ = some (.bool false) := by rw [cell_of_row _ R 2 _ _ _ pR8]; rfl
  have fR2_11 : (((w10.setCell ⟨P, 0, none⟩ (.string S)).setCell ⟨P, 1, none⟩ (.int .i64 k6)).setCell ⟨P, 2, none⟩ (.bool b6)).frozen? ⟨R, 2, none⟩ = false := frozen_of_row _ R 2 _ _ pR8
  have cT0_11 : (((w10.setCell ⟨P, 0, none⟩ (.string S)).setCell ⟨P, 1, none⟩ (.int .i64 k6)).setCell ⟨P, 2, none⟩ (.bool b6)).cell? ⟨T, 0, none⟩ = some (.int .i64 0) := by rw [cell_of_row _ T 0 _ _ _ pT8]; rfl
  have fT0_11 : (((w10.setCell ⟨P, 0, none⟩ (.string S)).setCell ⟨P, 1, none⟩ (.int .i64 k6)).setCell ⟨P, 2, none⟩ (.bool b6)).frozen? ⟨T, 0, none⟩ = false := frozen_of_row _ T 0 _ _ pT8
  have cT1_11 : (((w10.setCell ⟨P, 0, none⟩ (.string S)).setCell ⟨P, 1, none⟩ (.int .i64 k6)).setCell ⟨P, 2, none⟩ (.bool b6)).cell? ⟨T, 1, none⟩ = some (.int .i64 0) := by rw [cell_of_row _ T 1 _ _ _ pT8]; rfl
  have fT1_11 : (((w10.setCell ⟨P, 0, none⟩ (.string S)).setCell ⟨P, 1, none⟩ (.int .i64 k6)).setCell ⟨P, 2, none⟩ (.bool b6)).frozen? ⟨T, 1, none⟩ = false := frozen_of_row _ T 1 _ _ pT8
  have cT2_11 : (((w10.setCell ⟨P, 0, none⟩ (.string S)).setCell ⟨P, 1, none⟩ (.int .i64 k6)).setCell ⟨P, 2, none⟩ (.bool b6)).cell? ⟨T, 2, none⟩ = some (.int .i64 0) := by rw [cell_of_row _ T 2 _ _ _ pT8]; rfl
  have fT2_11 : (((w10.setCell ⟨P, 0, none⟩ (.string S)).setCell ⟨P, 1, none⟩ (.int .i64 k6)).setCell ⟨P, 2, none⟩ (.bool b6)).frozen? ⟨T, 2, none⟩ = false := frozen_of_row _ T 2 _ _ pT8
  have cT3_11 : (((w10.setCell ⟨P, 0, none⟩ (.string S)).setCell ⟨P, 1, none⟩ (.int .i64 k6)).setCell ⟨P, 2, none⟩ (.bool b6)).cell? ⟨T, 3, none⟩ = some (.int .i64 0) := by rw [cell_of_row _ T 3 _ _ _ pT8]; rfl
  have fT3_11 : (((w10.setCell ⟨P, 0, none⟩ (.string S)).setCell ⟨P, 1, none⟩ (.int .i64 k6)).setCell ⟨P, 2, none⟩ (.bool b6)).frozen? ⟨T, 3, none⟩ = false := frozen_of_row _ T 3 _ _ pT8
  have cT4_11 : (((w10.setCell ⟨P, 0, none⟩ (.string S)).setCell ⟨P, 1, none⟩ (.int .i64 k6)).setCell ⟨P, 2, none⟩ (.bool b6)).cell? ⟨T, 4, none⟩ = some (.int .i64 0) := by rw [cell_of_row _ T 4 _ _ _ pT8]; rfl
  have fT4_11 : (((w10.setCell ⟨P, 0, none⟩ (.string S)).setCell ⟨P, 1, none⟩ (.int .i64 k6)).setCell ⟨P, 2, none⟩ (.bool b6)).frozen? ⟨T, 4, none⟩ = false := frozen_of_row _ T 4 _ _ pT8
  have cT5_11 : (((w10.setCell ⟨P, 0, none⟩ (.string S)).setCell ⟨P, 1, none⟩ (.int .i64 k6)).setCell ⟨P, 2, none⟩ (.bool b6)).cell? ⟨T, 5, none⟩ = some (.int .i64 0) := by rw [cell_of_row _ T 5 _ _ _ pT8]; rfl
  have fT5_11 : (((w10.setCell ⟨P, 0, none⟩ (.string S)).setCell ⟨P, 1, none⟩ (.int .i64 k6)).setCell ⟨P, 2, none⟩ (.bool b6)).frozen? ⟨T, 5, none⟩ = false := frozen_of_row _ T 5 _ _ pT8
  go_wp2_with fail
  go_region
  have t9 : Bt R (((w10.setCell ⟨P, 0, none⟩ (.string S)).setCell ⟨P, 1, none⟩ (.int .i64 k6)).setCell ⟨P, 2, none⟩ (.bool b6)) ((((((w10.setCell ⟨P, 0, none⟩ (.string S)).setCell ⟨P, 1, none⟩ (.int .i64 k6)).setCell ⟨P, 2, none⟩ (.bool b6)).setCell ⟨R, 0, none⟩ (.string S)).setCell ⟨R, 1, none⟩ (.int .i64 k6)).setCell ⟨R, 2, none⟩ (.bool b6)) := Bt.sets R [(.string S), (.int .i64 k6), (.bool b6)] 0 (((w10.setCell ⟨P, 0, none⟩ (.string S)).setCell ⟨P, 1, none⟩ (.int .i64 k6)).setCell ⟨P, 2, none⟩ (.bool b6))
  have pR9 : ((((((w10.setCell ⟨P, 0, none⟩ (.string S)).setCell ⟨P, 1, none⟩ (.int .i64 k6)).setCell ⟨P, 2, none⟩ (.bool b6)).setCell ⟨R, 0, none⟩ (.string S)).setCell ⟨R, 1, none⟩ (.int .i64 k6)).setCell ⟨R, 2, none⟩ (.bool b6)).heap[R]? = some (.cells #[.string S, .int .i64 k6, .bool b6] 52 (0, 0)) := cat_all (.string S) (.int .i64 k6) (.bool b6) pR8
  have pP9 := t9.row (show P ≠ R by omega) pP8
  have pT9 := t9.row (show T ≠ R by omega) pT8
  have pQ9 := t9.row (show Q ≠ R by omega) pQ8
  have hbp9 : Below P w ((((((w10.setCell ⟨P, 0, none⟩ (.string S)).setCell ⟨P, 1, none⟩ (.int .i64 k6)).setCell ⟨P, 2, none⟩ (.bool b6)).setCell ⟨R, 0, none⟩ (.string S)).setCell ⟨R, 1, none⟩ (.int .i64 k6)).setCell ⟨R, 2, none⟩ (.bool b6)) := hbp8.trans (t9.below (show P ≤ R by omega) (by have := hbp8.size; omega))
  have t10 : Bt T ((((((w10.setCell ⟨P, 0, none⟩ (.string S)).setCell ⟨P, 1, none⟩ (.int .i64 k6)).setCell ⟨P, 2, none⟩ (.bool b6)).setCell ⟨R, 0, none⟩ (.string S)).setCell ⟨R, 1, none⟩ (.int .i64 k6)).setCell ⟨R, 2, none⟩ (.bool b6)) ((((((((((((w10.setCell ⟨P, 0, none⟩ (.string S)).setCell ⟨P, 1, none⟩ (.int .i64 k6)).setCell ⟨P, 2, none⟩ (.bool b6)).setCell ⟨R, 0, none⟩ (.string S)).setCell ⟨R, 1, none⟩ (.int .i64 k6)).setCell ⟨R, 2, none⟩ (.bool b6)).setCell ⟨T, 0, none⟩ (.int .i64 0)).setCell ⟨T, 1, none⟩ (.int .i64 m)).setCell ⟨T, 2, none⟩ (.int .i64 d)).setCell ⟨T, 3, none⟩ (.int .i64 0)).setCell ⟨T, 4, none⟩ (.int .i64 0)).setCell ⟨T, 5, none⟩ (.int .i64 0)) := Bt.sets T [(.int .i64 0), (.int .i64 m), (.int .i64 d), (.int .i64 0), (.int .i64 0), (.int .i64 0)] 0 ((((((w10.setCell ⟨P, 0, none⟩ (.string S)).setCell ⟨P, 1, none⟩ (.int .i64 k6)).setCell ⟨P, 2, none⟩ (.bool b6)).setCell ⟨R, 0, none⟩ (.string S)).setCell ⟨R, 1, none⟩ (.int .i64 k6)).setCell ⟨R, 2, none⟩ (.bool b6))
  have pT10 : ((((((((((((w10.setCell ⟨P, 0, none⟩ (.string S)).setCell ⟨P, 1, none⟩ (.int .i64 k6)).setCell ⟨P, 2, none⟩ (.bool b6)).setCell ⟨R, 0, none⟩ (.string S)).setCell ⟨R, 1, none⟩ (.int .i64 k6)).setCell ⟨R, 2, none⟩ (.bool b6)).setCell ⟨T, 0, none⟩ (.int .i64 0)).setCell ⟨T, 1, none⟩ (.int .i64 m)).setCell ⟨T, 2, none⟩ (.int .i64 d)).setCell ⟨T, 3, none⟩ (.int .i64 0)).setCell ⟨T, 4, none⟩ (.int .i64 0)).setCell ⟨T, 5, none⟩ (.int .i64 0)).heap[T]? = some (.cells #[.int .i64 0, .int .i64 m, .int .i64 d, .int .i64 0, .int .i64 0, .int .i64 0] 39 (0, 0)) := anc_all (.int .i64 0) (.int .i64 m) (.int .i64 d) (.int .i64 0) (.int .i64 0) (.int .i64 0) pT9
  have pP10 := t10.row (show P ≠ T by omega) pP9
  have pR10 := t10.row (show R ≠ T by omega) pR9
  have pQ10 := t10.row (show Q ≠ T by omega) pQ9
  have hbp10 : Below P w ((((((((((((w10.setCell ⟨P, 0, none⟩ (.string S)).setCell ⟨P, 1, none⟩ (.int .i64 k6)).setCell ⟨P, 2, none⟩ (.bool b6)).setCell ⟨R, 0, none⟩ (.string S)).setCell ⟨R, 1, none⟩ (.int .i64 k6)).setCell ⟨R, 2, none⟩ (.bool b6)).setCell ⟨T, 0, none⟩ (.int .i64 0)).setCell ⟨T, 1, none⟩ (.int .i64 m)).setCell ⟨T, 2, none⟩ (.int .i64 d)).setCell ⟨T, 3, none⟩ (.int .i64 0)).setCell ⟨T, 4, none⟩ (.int .i64 0)).setCell ⟨T, 5, none⟩ (.int .i64 0)) := hbp9.trans (t10.below (show P ≤ T by omega) (by have := hbp9.size; omega))
  go_wp2_with fail
  obtain ⟨u9, hu9⟩ : ∃ u9, u9 = ((((((((((((w10.setCell ⟨P, 0, none⟩ (.string S)).setCell ⟨P, 1, none⟩ (.int .i64 k6)).setCell ⟨P, 2, none⟩ (.bool b6)).setCell ⟨R, 0, none⟩ (.string S)).setCell ⟨R, 1, none⟩ (.int .i64 k6)).setCell ⟨R, 2, none⟩ (.bool b6)).setCell ⟨T, 0, none⟩ (.int .i64 0)).setCell ⟨T, 1, none⟩ (.int .i64 m)).setCell ⟨T, 2, none⟩ (.int .i64 d)).setCell ⟨T, 3, none⟩ (.int .i64 0)).setCell ⟨T, 4, none⟩ (.int .i64 0)).setCell ⟨T, 5, none⟩ (.int .i64 0)) := ⟨_, rfl⟩
  rw [← hu9] at pR10 pT10 hbp10 ⊢
  have kR0 : u9.cell? ⟨R, 0, none⟩ = some (.string S) := by rw [cell_of_row _ R 0 _ _ _ pR10]; rfl
  have kR1 : u9.cell? ⟨R, 1, none⟩ = some (.int .i64 k6) := by rw [cell_of_row _ R 1 _ _ _ pR10]; rfl
  have kR2 : u9.cell? ⟨R, 2, none⟩ = some (.bool b6) := by rw [cell_of_row _ R 2 _ _ _ pR10]; rfl
  have kT0 : u9.cell? ⟨T, 0, none⟩ = some (.int .i64 0) := by rw [cell_of_row _ T 0 _ _ _ pT10]; rfl
  have kT1 : u9.cell? ⟨T, 1, none⟩ = some (.int .i64 m) := by rw [cell_of_row _ T 1 _ _ _ pT10]; rfl
  have kT2 : u9.cell? ⟨T, 2, none⟩ = some (.int .i64 d) := by rw [cell_of_row _ T 2 _ _ _ pT10]; rfl
  have kT3 : u9.cell? ⟨T, 3, none⟩ = some (.int .i64 0) := by rw [cell_of_row _ T 3 _ _ _ pT10]; rfl
  have kT4 : u9.cell? ⟨T, 4, none⟩ = some (.int .i64 0) := by rw [cell_of_row _ T 4 _ _ _ pT10]; rfl
  have kT5 : u9.cell? ⟨T, 5, none⟩ = some (.int .i64 0) := by rw [cell_of_row _ T 5 _ _ _ pT10]; rfl
  exact bodyPost_ret (v := .tuple #[sv S k6 b6, .agg #[.int .i64 0, .int .i64 m, .int .i64 d, .int .i64 0, .int .i64 0, .int .i64 0]]) (by simp [results, Tryz.results25, go_sem, kR0, kR1, kR2, kT0, kT1, kT2, kT3, kT4, kT5]) rfl ⟨rfl, (by rw [hP]; exact below_dn hbp10 1)⟩
set_option maxRecDepth 100000 in
set_option maxHeartbeats 2000000 in
theorem r26anc_go2 {S : ByteArray} {w : World} {k0 k1 k2 k3 k4 k5 k6 : Nat} {b0 b1 b2 b3 b4 b5 b6 : Bool} {i c m d j : Int} (H1 : ∀ u : World, Calls Tryz.prog 24 #[sv S k0 b0, .slice (some ⟨u.heap.size, 0, none⟩) 3 3] (u.alloc (.cells #[.string ⟨#[102, 105, 120, 101, 100]⟩, .string ⟨#[101, 97, 115, 116, 101, 114]⟩, .string ⟨#[110, 116, 104]⟩] 9)) fun r w' => r = .returned (.tuple #[sv S k1 b1, .int .i64 2]) ∧ Below u.heap.size u w') (HD : ∀ u : World, Calls Tryz.prog 53 #[] u fun e w' => ∃ g cap, e = .returned (.slice (some ⟨g, 0, none⟩) 7 cap) ∧ StrsIn g cap lWd w' ∧ u.heap.size ≤ g ∧ Below u.heap.size u w') (H2 : ∀ (u : World) (g cap : Nat), StrsIn g cap lWd u → Calls Tryz.prog 24 #[sv S k1 b1, .slice (some ⟨g, 0, none⟩) 7 cap] u fun r w' => r = .returned (.tuple #[sv S k2 b2, .int .i64 i]) ∧ Below u.heap.size u w') (H3 : ∀ u : World, Calls Tryz.prog 21 #[sv S k2 b2] u fun r w' => r = .returned (.tuple #[sv S k3 b3, .int .i64 c]) ∧ Below u.heap.size u w') (H4 : ∀ u : World, Calls Tryz.prog 21 #[sv S k3 b3] u fun r w' => r = .returned (.tuple #[sv S k4 b4, .int .i64 m]) ∧ Below u.heap.size u w') (H5 : ∀ u : World, Calls Tryz.prog 21 #[sv S k4 b4] u fun r w' => r = .returned (.tuple #[sv S k5 b5, .int .i64 d]) ∧ Below u.heap.size u w') (H6 : ∀ u : World, Calls Tryz.prog 20 #[sv S k5 b5, .slice (some ⟨u.heap.size, 0, none⟩) 1 1] (u.alloc (.cells #[.string ⟨#[10]⟩] 9)) fun r w' => r = .returned (.tuple #[sv S k6 b6, .int .i64 j]) ∧ Below u.heap.size u w') :
    Calls Tryz.prog 25 #[sv S k0 b0] w fun r w' => r = .returned (.tuple #[sv S k6 b6, .agg #[.int .i64 3, .int .i64 m, .int .i64 d, .int .i64 0, .int .i64 i, .int .i64 c]]) ∧ Below w.heap.size w w' := by
  have H1 := Lib.hid H1
  have H2 := Lib.hid H2
  have H3 := Lib.hid H3
  have H4 := Lib.hid H4
  have H5 := Lib.hid H5
  have H6 := Lib.hid H6
  have HD := Lib.hid HD
  go_enter Tryz.func25, Tryz.ntmps25
  go_wp2_with fail
  obtain ⟨u, hu⟩ : ∃ u, u = ((((w.alloc (.cells #[.string S, .int .i64 k0, .bool b0] 52)).alloc (.cells #[.string ⟨#[]⟩, .int .i64 0, .bool false] 52)).alloc (.cells #[.int .i64 0, .int .i64 0, .int .i64 0, .int .i64 0, .int .i64 0, .int .i64 0] 39)).alloc (.cells #[.int .i64 0, .int .i64 0, .int .i64 0, .int .i64 0, .int .i64 0, .int .i64 0] 39)) := ⟨_, rfl⟩
  have hb : Below w.heap.size w u := hu ▸ al4 w _ _ _ _
  have rP : u.heap[w.heap.size]? = some (.cells #[.string S, .int .i64 k0, .bool b0] 52 (0, 0)) := hu ▸ row_on (heap_alloc_new _ _) (al3 _ _ _ _)
  have rR : u.heap[w.heap.size + 1]? = some (.cells #[.string ⟨#[]⟩, .int .i64 0, .bool false] 52 (0, 0)) := hu ▸ row_on (row_new1 _ _ _) (al2 _ _ _)
  have rT : u.heap[w.heap.size + 1 + 1]? = some (.cells #[.int .i64 0, .int .i64 0, .int .i64 0, .int .i64 0, .int .i64 0, .int .i64 0] 39 (0, 0)) := hu ▸ row_on (row_new2 _ _ _ _) (al1 _ _)
  have rQ : u.heap[w.heap.size + 1 + 1 + 1]? = some (.cells #[.int .i64 0, .int .i64 0, .int .i64 0, .int .i64 0, .int .i64 0, .int .i64 0] 39 (0, 0)) := hu ▸ row_new3 _ _ _ _ _
  have hz : w.heap.size + 1 + 1 + 1 + 1 = u.heap.size := by rw [hu]; simp
  rw [← hu]
  clear hu
  generalize hP : w.heap.size = P at *
  generalize hR : P + 1 = R at *
  generalize hT : R + 1 = T at *
  generalize hQ : T + 1 = Q at *
  rw [hz]
  clear hz
  refine (H1.out (u)).mono ?_
  rintro e1 w1 ⟨rfl, g1⟩
  have rP_1 := row_kept rP g1
  have rR_1 := row_kept rR g1
  have rT_1 := row_kept rT g1
  have rQ_1 := row_kept rQ g1
  have hb1 : Below P w w1 := hb.trans (g1.mono (by first | exact hb.size | (have := hb.size; omega)))
  have cP0_1 : w1.cell? ⟨P, 0, none⟩ = some (.string S) := by rw [cell_of_row _ P 0 _ _ _ rP_1]; rfl
  have fP0_1 : w1.frozen? ⟨P, 0, none⟩ = false := frozen_of_row _ P 0 _ _ rP_1
  have cP1_1 : w1.cell? ⟨P, 1, none⟩ = some (.int .i64 k0) := by rw [cell_of_row _ P 1 _ _ _ rP_1]; rfl
  have fP1_1 : w1.frozen? ⟨P, 1, none⟩ = false := frozen_of_row _ P 1 _ _ rP_1
  have cP2_1 : w1.cell? ⟨P, 2, none⟩ = some (.bool b0) := by rw [cell_of_row _ P 2 _ _ _ rP_1]; rfl
  have fP2_1 : w1.frozen? ⟨P, 2, none⟩ = false := frozen_of_row _ P 2 _ _ rP_1
  have cQ0_1 : w1.cell? ⟨Q, 0, none⟩ = some (.int .i64 0) := by rw [cell_of_row _ Q 0 _ _ _ rQ_1]; rfl
  have fQ0_1 : w1.frozen? ⟨Q, 0, none⟩ = false := frozen_of_row _ Q 0 _ _ rQ_1
  have t1 : Bt P w1 (((w1.setCell ⟨P, 0, none⟩ (.string S)).setCell ⟨P, 1, none⟩ (.int .i64 k1)).setCell ⟨P, 2, none⟩ (.bool b1)) := Bt.sets P [(.string S), (.int .i64 k1), (.bool b1)] 0 w1
  have pP1 : (((w1.setCell ⟨P, 0, none⟩ (.string S)).setCell ⟨P, 1, none⟩ (.int .i64 k1)).setCell ⟨P, 2, none⟩ (.bool b1)).heap[P]? = some (.cells #[.string S, .int .i64 k1, .bool b1] 52 (0, 0)) := cat_all (.string S) (.int .i64 k1) (.bool b1) rP_1
  have pR1 := t1.row (show R ≠ P by omega) rR_1
  have pT1 := t1.row (show T ≠ P by omega) rT_1
  have pQ1 := t1.row (show Q ≠ P by omega) rQ_1
  have hbp1 : Below P w (((w1.setCell ⟨P, 0, none⟩ (.string S)).setCell ⟨P, 1, none⟩ (.int .i64 k1)).setCell ⟨P, 2, none⟩ (.bool b1)) := hb1.trans (t1.below (show P ≤ P by omega) (by have := hb1.size; omega))
  have cP0_2 : (((w1.setCell ⟨P, 0, none⟩ (.string S)).setCell ⟨P, 1, none⟩ (.int .i64 k1)).setCell ⟨P, 2, none⟩ (.bool b1)).cell? ⟨P, 0, none⟩ = some (.string S) := by rw [cell_of_row _ P 0 _ _ _ pP1]; rfl
  have fP0_2 : (((w1.setCell ⟨P, 0, none⟩ (.string S)).setCell ⟨P, 1, none⟩ (.int .i64 k1)).setCell ⟨P, 2, none⟩ (.bool b1)).frozen? ⟨P, 0, none⟩ = false := frozen_of_row _ P 0 _ _ pP1
  have cP1_2 : (((w1.setCell ⟨P, 0, none⟩ (.string S)).setCell ⟨P, 1, none⟩ (.int .i64 k1)).setCell ⟨P, 2, none⟩ (.bool b1)).cell? ⟨P, 1, none⟩ = some (.int .i64 k1) := by rw [cell_of_row _ P 1 _ _ _ pP1]; rfl
  have fP1_2 : (((w1.setCell ⟨P, 0, none⟩ (.string S)).setCell ⟨P, 1, none⟩ (.int .i64 k1)).setCell ⟨P, 2, none⟩ (.bool b1)).frozen? ⟨P, 1, none⟩ = false := frozen_of_row _ P 1 _ _ pP1
  have cP2_2 : (((w1.setCell ⟨P, 0, none⟩ (.string S)).setCell ⟨P, 1, none⟩ (.int .i64 k1)).setCell ⟨P, 2, none⟩ (.bool b1)).cell? ⟨P, 2, none⟩ = some (.bool b1) := by rw [cell_of_row _ P 2 _ _ _ pP1]; rfl
  have fP2_2 : (((w1.setCell ⟨P, 0, none⟩ (.string S)).setCell ⟨P, 1, none⟩ (.int .i64 k1)).setCell ⟨P, 2, none⟩ (.bool b1)).frozen? ⟨P, 2, none⟩ = false := frozen_of_row _ P 2 _ _ pP1
  have cQ0_2 : (((w1.setCell ⟨P, 0, none⟩ (.string S)).setCell ⟨P, 1, none⟩ (.int .i64 k1)).setCell ⟨P, 2, none⟩ (.bool b1)).cell? ⟨Q, 0, none⟩ = some (.int .i64 0) := by rw [cell_of_row _ Q 0 _ _ _ pQ1]; rfl
  have fQ0_2 : (((w1.setCell ⟨P, 0, none⟩ (.string S)).setCell ⟨P, 1, none⟩ (.int .i64 k1)).setCell ⟨P, 2, none⟩ (.bool b1)).frozen? ⟨Q, 0, none⟩ = false := frozen_of_row _ Q 0 _ _ pQ1
  have t2 : Bt Q (((w1.setCell ⟨P, 0, none⟩ (.string S)).setCell ⟨P, 1, none⟩ (.int .i64 k1)).setCell ⟨P, 2, none⟩ (.bool b1)) ((((w1.setCell ⟨P, 0, none⟩ (.string S)).setCell ⟨P, 1, none⟩ (.int .i64 k1)).setCell ⟨P, 2, none⟩ (.bool b1)).setCell ⟨Q, 0, none⟩ (.int .i64 3)) := Bt.sets Q [(.int .i64 3)] 0 (((w1.setCell ⟨P, 0, none⟩ (.string S)).setCell ⟨P, 1, none⟩ (.int .i64 k1)).setCell ⟨P, 2, none⟩ (.bool b1))
  have pQ2 : ((((w1.setCell ⟨P, 0, none⟩ (.string S)).setCell ⟨P, 1, none⟩ (.int .i64 k1)).setCell ⟨P, 2, none⟩ (.bool b1)).setCell ⟨Q, 0, none⟩ (.int .i64 3)).heap[Q]? = some (.cells #[.int .i64 3, .int .i64 0, .int .i64 0, .int .i64 0, .int .i64 0, .int .i64 0] 39 (0, 0)) := heap_setCell_same _ Q 0 _ _ _ pQ1
  have pP2 := t2.row (show P ≠ Q by omega) pP1
  have pR2 := t2.row (show R ≠ Q by omega) pR1
  have pT2 := t2.row (show T ≠ Q by omega) pT1
  have hbp2 : Below P w ((((w1.setCell ⟨P, 0, none⟩ (.string S)).setCell ⟨P, 1, none⟩ (.int .i64 k1)).setCell ⟨P, 2, none⟩ (.bool b1)).setCell ⟨Q, 0, none⟩ (.int .i64 3)) := hbp1.trans (t2.below (show P ≤ Q by omega) (by have := hbp1.size; omega))
  have cP0_3 : ((((w1.setCell ⟨P, 0, none⟩ (.string S)).setCell ⟨P, 1, none⟩ (.int .i64 k1)).setCell ⟨P, 2, none⟩ (.bool b1)).setCell ⟨Q, 0, none⟩ (.int .i64 3)).cell? ⟨P, 0, none⟩ = some (.string S) := by rw [cell_of_row _ P 0 _ _ _ pP2]; rfl
  have fP0_3 : ((((w1.setCell ⟨P, 0, none⟩ (.string S)).setCell ⟨P, 1, none⟩ (.int .i64 k1)).setCell ⟨P, 2, none⟩ (.bool b1)).setCell ⟨Q, 0, none⟩ (.int .i64 3)).frozen? ⟨P, 0, none⟩ = false := frozen_of_row _ P 0 _ _ pP2
  have cP1_3 : ((((w1.setCell ⟨P, 0, none⟩ (.string S)).setCell ⟨P, 1, none⟩ (.int .i64 k1)).setCell ⟨P, 2, none⟩ (.bool b1)).setCell ⟨Q, 0, none⟩ (.int .i64 3)).cell? ⟨P, 1, none⟩ = some (.int .i64 k1) := by rw [cell_of_row _ P 1 _ _ _ pP2]; rfl
  have fP1_3 : ((((w1.setCell ⟨P, 0, none⟩ (.string S)).setCell ⟨P, 1, none⟩ (.int .i64 k1)).setCell ⟨P, 2, none⟩ (.bool b1)).setCell ⟨Q, 0, none⟩ (.int .i64 3)).frozen? ⟨P, 1, none⟩ = false := frozen_of_row _ P 1 _ _ pP2
  have cP2_3 : ((((w1.setCell ⟨P, 0, none⟩ (.string S)).setCell ⟨P, 1, none⟩ (.int .i64 k1)).setCell ⟨P, 2, none⟩ (.bool b1)).setCell ⟨Q, 0, none⟩ (.int .i64 3)).cell? ⟨P, 2, none⟩ = some (.bool b1) := by rw [cell_of_row _ P 2 _ _ _ pP2]; rfl
  have fP2_3 : ((((w1.setCell ⟨P, 0, none⟩ (.string S)).setCell ⟨P, 1, none⟩ (.int .i64 k1)).setCell ⟨P, 2, none⟩ (.bool b1)).setCell ⟨Q, 0, none⟩ (.int .i64 3)).frozen? ⟨P, 2, none⟩ = false := frozen_of_row _ P 2 _ _ pP2
  go_wp2_with fail
  refine till_start (fun u => u.heap[P]? = some (.cells #[.string S, .int .i64 k1, .bool b1] 52 (0, 0))) 2 (by kernel_rfl) ?_
  refine till_take_load (i := 0) (oi := { dst := some 26, op := _, type := _, pos := _, after := _, guard := _ }) (v := ?vb) rfl (by kernel_rfl) (by kernel_rfl) (by kernel_rfl) (fun _ _ _ h => h) (by kernel_rfl) (by decide) (by kernel_rfl) (Or.inl ⟨by rfl, ?hb⟩) pP2 ?_
  case hb => (intro w hSw; (try dsimp only at hSw); obtain ⟨s0, s1, s2, t0, t1, t2, tz⟩ := row3 hSw; go_simp; try with_reducible rfl)
  (try simp only [Act.put, List.setIfInBounds_toArray, List.set_cons_zero, List.set_cons_succ])
  refine till_one (i := 1) (o := { dst := some 27, op := _, type := _, pos := _, after := _, guard := _ }) (by kernel_rfl) rfl (fun K hK => ?_)
  go_simp
  go_at_call 53
  refine (HD.out _).mono ?_
  have dP := row_kept pP2 (below_dn (Below.refl _ _) 1)
  have dR := row_kept pR2 (below_dn (Below.refl _ _) 1)
  have dT := row_kept pT2 (below_dn (Below.refl _ _) 1)
  have dQ := row_kept pQ2 (below_dn (Below.refl _ _) 1)
  have hbs : P ≤ (((((w1.setCell ⟨P, 0, none⟩ (.string S)).setCell ⟨P, 1, none⟩ (.int .i64 k1)).setCell ⟨P, 2, none⟩ (.bool b1)).setCell ⟨Q, 0, none⟩ (.int .i64 3))).heap.size := by have := hbp2.size; omega
  have dhb := below_dn hbp2 1
  clear cP0_1 fP0_1 cP1_1 fP1_1 cP2_1 fP2_1 cQ0_1 fQ0_1 cP0_2 fP0_2 cP1_2 fP1_2 cP2_2 fP2_2 cQ0_2 fQ0_2 cP0_3 fP0_3 cP1_3 fP1_3 cP2_3 fP2_3
  rintro e4 w4 ⟨g1, cap1, rfl, hI1, hg1, g4⟩
  have rP_4 := row_kept dP g4
  have rR_4 := row_kept dR g4
  have rT_4 := row_kept dT g4
  have rQ_4 := row_kept dQ g4
  have hb4 : Below P w w4 := dhb.trans (g4.mono (by first | exact dhb.size | (have := dhb.size; omega) | exact hbs))
  refine hK.out _ _ (.inr rP_4) ?_
  clear hK K
  (try simp only [Act.put, List.setIfInBounds_toArray, List.set_cons_zero, List.set_cons_succ])
  refine till_one (i := 2) (o := { dst := some 28, op := _, type := _, pos := _, after := _, guard := _ }) (by kernel_rfl) rfl (fun K hK => ?_)
  go_simp
  go_at_call 24
  refine (H2.out w4 g1 cap1 hI1).mono ?_
  rintro e5 w5 ⟨rfl, g5⟩
  have rP_5 := row_kept rP_4 g5
  have rR_5 := row_kept rR_4 g5
  have rT_5 := row_kept rT_4 g5
  have rQ_5 := row_kept rQ_4 g5
  have hb5 : Below P w w5 := hb4.trans (g5.mono (by first | exact hb4.size | (have := hb4.size; omega)))
  refine hK.out _ _ (.inl rfl) ?_
  clear hK K
  (try simp only [Act.put, List.setIfInBounds_toArray, List.set_cons_zero, List.set_cons_succ])
  refine till_take (i := 3) (oi := { dst := some 25, op := _, type := _, pos := _, after := _, guard := _ }) (v := ?v3) rfl (by kernel_rfl) (by kernel_rfl) (by kernel_rfl) (fun _ _ _ h => h) (by decide) (Or.inl ⟨by rfl, ?h3⟩) (.inl rfl) ?_
  case h3 => (intro w _; go_simp; try with_reducible rfl)
  (try simp only [Act.put, List.setIfInBounds_toArray, List.set_cons_zero, List.set_cons_succ])
  refine till_take (i := 4) (oi := { dst := some 29, op := _, type := _, pos := _, after := _, guard := _ }) (v := ?v4) rfl (by kernel_rfl) (by kernel_rfl) (by kernel_rfl) (fun _ _ _ h => h) (by decide) (Or.inl ⟨by rfl, ?h4⟩) (.inl rfl) ?_
  case h4 => (intro w _; go_simp; try with_reducible rfl)
  (try simp only [Act.put, List.setIfInBounds_toArray, List.set_cons_zero, List.set_cons_succ])
  refine till_take (i := 5) (oi := { dst := some 30, op := _, type := _, pos := _, after := _, guard := _ }) (v := ?v5) rfl (by kernel_rfl) (by kernel_rfl) (by kernel_rfl) (fun _ _ _ h => h) (by decide) (Or.inl ⟨by rfl, ?h5⟩) (.inl rfl) ?_
  case h5 => (intro w _; go_simp; try with_reducible rfl)
  (try simp only [Act.put, List.setIfInBounds_toArray, List.set_cons_zero, List.set_cons_succ])
  have cP0_5 : w5.cell? ⟨P, 0, none⟩ = some (.string S) := by rw [cell_of_row _ P 0 _ _ _ rP_5]; rfl
  have fP0_5 : w5.frozen? ⟨P, 0, none⟩ = false := frozen_of_row _ P 0 _ _ rP_5
  have cP1_5 : w5.cell? ⟨P, 1, none⟩ = some (.int .i64 k1) := by rw [cell_of_row _ P 1 _ _ _ rP_5]; rfl
  have fP1_5 : w5.frozen? ⟨P, 1, none⟩ = false := frozen_of_row _ P 1 _ _ rP_5
  have cP2_5 : w5.cell? ⟨P, 2, none⟩ = some (.bool b1) := by rw [cell_of_row _ P 2 _ _ _ rP_5]; rfl
  have fP2_5 : w5.frozen? ⟨P, 2, none⟩ = false := frozen_of_row _ P 2 _ _ rP_5
  have cQ4_5 : w5.cell? ⟨Q, 4, none⟩ = some (.int .i64 0) := by rw [cell_of_row _ Q 4 _ _ _ rQ_5]; rfl
  have fQ4_5 : w5.frozen? ⟨Q, 4, none⟩ = false := frozen_of_row _ Q 4 _ _ rQ_5
  have t3 : Bt P w5 (((w5.setCell ⟨P, 0, none⟩ (.string S)).setCell ⟨P, 1, none⟩ (.int .i64 k2)).setCell ⟨P, 2, none⟩ (.bool b2)) := Bt.sets P [(.string S), (.int .i64 k2), (.bool b2)] 0 w5
  have pP3 : (((w5.setCell ⟨P, 0, none⟩ (.string S)).setCell ⟨P, 1, none⟩ (.int .i64 k2)).setCell ⟨P, 2, none⟩ (.bool b2)).heap[P]? = some (.cells #[.string S, .int .i64 k2, .bool b2] 52 (0, 0)) := cat_all (.string S) (.int .i64 k2) (.bool b2) rP_5
  have pR3 := t3.row (show R ≠ P by omega) rR_5
  have pT3 := t3.row (show T ≠ P by omega) rT_5
  have pQ3 := t3.row (show Q ≠ P by omega) rQ_5
  have hbp3 : Below P w (((w5.setCell ⟨P, 0, none⟩ (.string S)).setCell ⟨P, 1, none⟩ (.int .i64 k2)).setCell ⟨P, 2, none⟩ (.bool b2)) := hb5.trans (t3.below (show P ≤ P by omega) (by have := hb5.size; omega))
  have cP0_6 : (((w5.setCell ⟨P, 0, none⟩ (.string S)).setCell ⟨P, 1, none⟩ (.int .i64 k2)).setCell ⟨P, 2, none⟩ (.bool b2)).cell? ⟨P, 0, none⟩ = some (.string S) := by rw [cell_of_row _ P 0 _ _ _ pP3]; rfl
  have fP0_6 : (((w5.setCell ⟨P, 0, none⟩ (.string S)).setCell ⟨P, 1, none⟩ (.int .i64 k2)).setCell ⟨P, 2, none⟩ (.bool b2)).frozen? ⟨P, 0, none⟩ = false := frozen_of_row _ P 0 _ _ pP3
  have cP1_6 : (((w5.setCell ⟨P, 0, none⟩ (.string S)).setCell ⟨P, 1, none⟩ (.int .i64 k2)).setCell ⟨P, 2, none⟩ (.bool b2)).cell? ⟨P, 1, none⟩ = some (.int .i64 k2) := by rw [cell_of_row _ P 1 _ _ _ pP3]; rfl
  have fP1_6 : (((w5.setCell ⟨P, 0, none⟩ (.string S)).setCell ⟨P, 1, none⟩ (.int .i64 k2)).setCell ⟨P, 2, none⟩ (.bool b2)).frozen? ⟨P, 1, none⟩ = false := frozen_of_row _ P 1 _ _ pP3
  have cP2_6 : (((w5.setCell ⟨P, 0, none⟩ (.string S)).setCell ⟨P, 1, none⟩ (.int .i64 k2)).setCell ⟨P, 2, none⟩ (.bool b2)).cell? ⟨P, 2, none⟩ = some (.bool b2) := by rw [cell_of_row _ P 2 _ _ _ pP3]; rfl
  have fP2_6 : (((w5.setCell ⟨P, 0, none⟩ (.string S)).setCell ⟨P, 1, none⟩ (.int .i64 k2)).setCell ⟨P, 2, none⟩ (.bool b2)).frozen? ⟨P, 2, none⟩ = false := frozen_of_row _ P 2 _ _ pP3
  have cQ4_6 : (((w5.setCell ⟨P, 0, none⟩ (.string S)).setCell ⟨P, 1, none⟩ (.int .i64 k2)).setCell ⟨P, 2, none⟩ (.bool b2)).cell? ⟨Q, 4, none⟩ = some (.int .i64 0) := by rw [cell_of_row _ Q 4 _ _ _ pQ3]; rfl
  have fQ4_6 : (((w5.setCell ⟨P, 0, none⟩ (.string S)).setCell ⟨P, 1, none⟩ (.int .i64 k2)).setCell ⟨P, 2, none⟩ (.bool b2)).frozen? ⟨Q, 4, none⟩ = false := frozen_of_row _ Q 4 _ _ pQ3
  refine till_one (i := 6) (o := { dst := none, op := _, type := _, pos := _, after := _, guard := _ }) (by kernel_rfl) rfl (fun K hK => ?_)
  go_simp
  refine hK.out _ _ (.inl rfl) ?_
  clear hK K
  (try simp only [Act.put, List.setIfInBounds_toArray, List.set_cons_zero, List.set_cons_succ])
  refine till_take (i := 7) (oi := { dst := some 31, op := _, type := _, pos := _, after := _, guard := _ }) (v := ?v7) rfl (by kernel_rfl) (by kernel_rfl) (by kernel_rfl) (fun _ _ _ h => h) (by decide) (Or.inl ⟨by rfl, ?h7⟩) (.inl rfl) ?_
  case h7 => (intro w _; go_simp; try with_reducible rfl)
  (try simp only [Act.put, List.setIfInBounds_toArray, List.set_cons_zero, List.set_cons_succ])
  refine till_one (i := 8) (o := { dst := none, op := _, type := _, pos := _, after := _, guard := _ }) (by kernel_rfl) rfl (fun K hK => ?_)
  go_simp
  refine hK.out _ _ (.inl rfl) ?_
  clear hK K
  refine till_done (by kernel_rfl) ?_ _
  have t4 : Bt Q (((w5.setCell ⟨P, 0, none⟩ (.string S)).setCell ⟨P, 1, none⟩ (.int .i64 k2)).setCell ⟨P, 2, none⟩ (.bool b2)) ((((w5.setCell ⟨P, 0, none⟩ (.string S)).setCell ⟨P, 1, none⟩ (.int .i64 k2)).setCell ⟨P, 2, none⟩ (.bool b2)).setCell ⟨Q, 4, none⟩ (.int .i64 i)) := Bt.sets Q [(.int .i64 i)] 4 (((w5.setCell ⟨P, 0, none⟩ (.string S)).setCell ⟨P, 1, none⟩ (.int .i64 k2)).setCell ⟨P, 2, none⟩ (.bool b2))
  have pQ4 : ((((w5.setCell ⟨P, 0, none⟩ (.string S)).setCell ⟨P, 1, none⟩ (.int .i64 k2)).setCell ⟨P, 2, none⟩ (.bool b2)).setCell ⟨Q, 4, none⟩ (.int .i64 i)).heap[Q]? = some (.cells #[.int .i64 3, .int .i64 0, .int .i64 0, .int .i64 0, .int .i64 i, .int .i64 0] 39 (0, 0)) := heap_setCell_same _ Q 4 _ _ _ pQ3
  have pP4 := t4.row (show P ≠ Q by omega) pP3
  have pR4 := t4.row (show R ≠ Q by omega) pR3
  have pT4 := t4.row (show T ≠ Q by omega) pT3
  have hbp4 : Below P w ((((w5.setCell ⟨P, 0, none⟩ (.string S)).setCell ⟨P, 1, none⟩ (.int .i64 k2)).setCell ⟨P, 2, none⟩ (.bool b2)).setCell ⟨Q, 4, none⟩ (.int .i64 i)) := hbp3.trans (t4.below (show P ≤ Q by omega) (by have := hbp3.size; omega))
  have cP0_7 : ((((w5.setCell ⟨P, 0, none⟩ (.string S)).setCell ⟨P, 1, none⟩ (.int .i64 k2)).setCell ⟨P, 2, none⟩ (.bool b2)).setCell ⟨Q, 4, none⟩ (.int .i64 i)).cell? ⟨P, 0, none⟩ = some (.string S) := by rw [cell_of_row _ P 0 _ _ _ pP4]; rfl
  have fP0_7 : ((((w5.setCell ⟨P, 0, none⟩ (.string S)).setCell ⟨P, 1, none⟩ (.int .i64 k2)).setCell ⟨P, 2, none⟩ (.bool b2)).setCell ⟨Q, 4, none⟩ (.int .i64 i)).frozen? ⟨P, 0, none⟩ = false := frozen_of_row _ P 0 _ _ pP4
  have cP1_7 : ((((w5.setCell ⟨P, 0, none⟩ (.string S)).setCell ⟨P, 1, none⟩ (.int .i64 k2)).setCell ⟨P, 2, none⟩ (.bool b2)).setCell ⟨Q, 4, none⟩ (.int .i64 i)).cell? ⟨P, 1, none⟩ = some (.int .i64 k2) := by rw [cell_of_row _ P 1 _ _ _ pP4]; rfl
  have fP1_7 : ((((w5.setCell ⟨P, 0, none⟩ (.string S)).setCell ⟨P, 1, none⟩ (.int .i64 k2)).setCell ⟨P, 2, none⟩ (.bool b2)).setCell ⟨Q, 4, none⟩ (.int .i64 i)).frozen? ⟨P, 1, none⟩ = false := frozen_of_row _ P 1 _ _ pP4
  have cP2_7 : ((((w5.setCell ⟨P, 0, none⟩ (.string S)).setCell ⟨P, 1, none⟩ (.int .i64 k2)).setCell ⟨P, 2, none⟩ (.bool b2)).setCell ⟨Q, 4, none⟩ (.int .i64 i)).cell? ⟨P, 2, none⟩ = some (.bool b2) := by rw [cell_of_row _ P 2 _ _ _ pP4]; rfl
  have fP2_7 : ((((w5.setCell ⟨P, 0, none⟩ (.string S)).setCell ⟨P, 1, none⟩ (.int .i64 k2)).setCell ⟨P, 2, none⟩ (.bool b2)).setCell ⟨Q, 4, none⟩ (.int .i64 i)).frozen? ⟨P, 2, none⟩ = false := frozen_of_row _ P 2 _ _ pP4
  go_wp2_with fail
  refine (H3.out (((((w5.setCell ⟨P, 0, none⟩ (.string S)).setCell ⟨P, 1, none⟩ (.int .i64 k2)).setCell ⟨P, 2, none⟩ (.bool b2)).setCell ⟨Q, 4, none⟩ (.int .i64 i)))).mono ?_
  clear cP0_5 fP0_5 cP1_5 fP1_5 cP2_5 fP2_5 cQ4_5 fQ4_5 cP0_6 fP0_6 cP1_6 fP1_6 cP2_6 fP2_6 cQ4_6 fQ4_6 cP0_7 fP0_7 cP1_7 fP1_7 cP2_7 fP2_7
  rintro e8 w8 ⟨rfl, g8⟩
  have rP_8 := row_kept pP4 g8
  have rR_8 := row_kept pR4 g8
  have rT_8 := row_kept pT4 g8
  have rQ_8 := row_kept pQ4 g8
  have hb8 : Below P w w8 := hbp4.trans (g8.mono (by first | exact hbp4.size | (have := hbp4.size; omega)))
  have cP0_8 : w8.cell? ⟨P, 0, none⟩ = some (.string S) := by rw [cell_of_row _ P 0 _ _ _ rP_8]; rfl
  have fP0_8 : w8.frozen? ⟨P, 0, none⟩ = false := frozen_of_row _ P 0 _ _ rP_8
  have cP1_8 : w8.cell? ⟨P, 1, none⟩ = some (.int .i64 k2) := by rw [cell_of_row _ P 1 _ _ _ rP_8]; rfl
  have fP1_8 : w8.frozen? ⟨P, 1, none⟩ = false := frozen_of_row _ P 1 _ _ rP_8
  have cP2_8 : w8.cell? ⟨P, 2, none⟩ = some (.bool b2) := by rw [cell_of_row _ P 2 _ _ _ rP_8]; rfl
  have fP2_8 : w8.frozen? ⟨P, 2, none⟩ = false := frozen_of_row _ P 2 _ _ rP_8
  have cQ5_8 : w8.cell? ⟨Q, 5, none⟩ = some (.int .i64 0) := by rw [cell_of_row _ Q 5 _ _ _ rQ_8]; rfl
  have fQ5_8 : w8.frozen? ⟨Q, 5, none⟩ = false := frozen_of_row _ Q 5 _ _ rQ_8
  have t5 : Bt P w8 (((w8.setCell ⟨P, 0, none⟩ (.string S)).setCell ⟨P, 1, none⟩ (.int .i64 k3)).setCell ⟨P, 2, none⟩ (.bool b3)) := Bt.sets P [(.string S), (.int .i64 k3), (.bool b3)] 0 w8
  have pP5 : (((w8.setCell ⟨P, 0, none⟩ (.string S)).setCell ⟨P, 1, none⟩ (.int .i64 k3)).setCell ⟨P, 2, none⟩ (.bool b3)).heap[P]? = some (.cells #[.string S, .int .i64 k3, .bool b3] 52 (0, 0)) := cat_all (.string S) (.int .i64 k3) (.bool b3) rP_8
  have pR5 := t5.row (show R ≠ P by omega) rR_8
  have pT5 := t5.row (show T ≠ P by omega) rT_8
  have pQ5 := t5.row (show Q ≠ P by omega) rQ_8
  have hbp5 : Below P w (((w8.setCell ⟨P, 0, none⟩ (.string S)).setCell ⟨P, 1, none⟩ (.int .i64 k3)).setCell ⟨P, 2, none⟩ (.bool b3)) := hb8.trans (t5.below (show P ≤ P by omega) (by have := hb8.size; omega))
  have cP0_9 : (((w8.setCell ⟨P, 0, none⟩ (.string S)).setCell ⟨P, 1, none⟩ (.int .i64 k3)).setCell ⟨P, 2, none⟩ (.bool b3)).cell? ⟨P, 0, none⟩ = some (.string S) := by rw [cell_of_row _ P 0 _ _ _ pP5]; rfl
  have fP0_9 : (((w8.setCell ⟨P, 0, none⟩ (.string S)).setCell ⟨P, 1, none⟩ (.int .i64 k3)).setCell ⟨P, 2, none⟩ (.bool b3)).frozen? ⟨P, 0, none⟩ = false := frozen_of_row _ P 0 _ _ pP5
  have cP1_9 : (((w8.setCell ⟨P, 0, none⟩ (.string S)).setCell ⟨P, 1, none⟩ (.int .i64 k3)).setCell ⟨P, 2, none⟩ (.bool b3)).cell? ⟨P, 1, none⟩ = some (.int .i64 k3) := by rw [cell_of_row _ P 1 _ _ _ pP5]; rfl
  have fP1_9 : (((w8.setCell ⟨P, 0, none⟩ (.string S)).setCell ⟨P, 1, none⟩ (.int .i64 k3)).setCell ⟨P, 2, none⟩ (.bool b3)).frozen? ⟨P, 1, none⟩ = false := frozen_of_row _ P 1 _ _ pP5
  have cP2_9 : (((w8.setCell ⟨P, 0, none⟩ (.string S)).setCell ⟨P, 1, none⟩ (.int .i64 k3)).setCell ⟨P, 2, none⟩ (.bool b3)).cell? ⟨P, 2, none⟩ = some (.bool b3) := by rw [cell_of_row _ P 2 _ _ _ pP5]; rfl
  have fP2_9 : (((w8.setCell ⟨P, 0, none⟩ (.string S)).setCell ⟨P, 1, none⟩ (.int .i64 k3)).setCell ⟨P, 2, none⟩ (.bool b3)).frozen? ⟨P, 2, none⟩ = false := frozen_of_row _ P 2 _ _ pP5
  have cQ5_9 : (((w8.setCell ⟨P, 0, none⟩ (.string S)).setCell ⟨P, 1, none⟩ (.int .i64 k3)).setCell ⟨P, 2, none⟩ (.bool b3)).cell? ⟨Q, 5, none⟩ = some (.int .i64 0) := by rw [cell_of_row _ Q 5 _ _ _ pQ5]; rfl
  have fQ5_9 : (((w8.setCell ⟨P, 0, none⟩ (.string S)).setCell ⟨P, 1, none⟩ (.int .i64 k3)).setCell ⟨P, 2, none⟩ (.bool b3)).frozen? ⟨Q, 5, none⟩ = false := frozen_of_row _ Q 5 _ _ pQ5
  have t6 : Bt Q (((w8.setCell ⟨P, 0, none⟩ (.string S)).setCell ⟨P, 1, none⟩ (.int .i64 k3)).setCell ⟨P, 2, none⟩ (.bool b3)) ((((w8.setCell ⟨P, 0, none⟩ (.string S)).setCell ⟨P, 1, none⟩ (.int .i64 k3)).setCell ⟨P, 2, none⟩ (.bool b3)).setCell ⟨Q, 5, none⟩ (.int .i64 c)) := Bt.sets Q [(.int .i64 c)] 5 (((w8.setCell ⟨P, 0, none⟩ (.string S)).setCell ⟨P, 1, none⟩ (.int .i64 k3)).setCell ⟨P, 2, none⟩ (.bool b3))
  have pQ6 : ((((w8.setCell ⟨P, 0, none⟩ (.string S)).setCell ⟨P, 1, none⟩ (.int .i64 k3)).setCell ⟨P, 2, none⟩ (.bool b3)).setCell ⟨Q, 5, none⟩ (.int .i64 c)).heap[Q]? = some (.cells #[.int .i64 3, .int .i64 0, .int .i64 0, .int .i64 0, .int .i64 i, .int .i64 c] 39 (0, 0)) := heap_setCell_same _ Q 5 _ _ _ pQ5
  have pP6 := t6.row (show P ≠ Q by omega) pP5
  have pR6 := t6.row (show R ≠ Q by omega) pR5
  have pT6 := t6.row (show T ≠ Q by omega) pT5
  have hbp6 : Below P w ((((w8.setCell ⟨P, 0, none⟩ (.string S)).setCell ⟨P, 1, none⟩ (.int .i64 k3)).setCell ⟨P, 2, none⟩ (.bool b3)).setCell ⟨Q, 5, none⟩ (.int .i64 c)) := hbp5.trans (t6.below (show P ≤ Q by omega) (by have := hbp5.size; omega))
  have cP0_10 : ((((w8.setCell ⟨P, 0, none⟩ (.string S)).setCell ⟨P, 1, none⟩ (.int .i64 k3)).setCell ⟨P, 2, none⟩ (.bool b3)).setCell ⟨Q, 5, none⟩ (.int .i64 c)).cell? ⟨P, 0, none⟩ = some (.string S) := by rw [cell_of_row _ P 0 _ _ _ pP6]; rfl
  have fP0_10 : ((((w8.setCell ⟨P, 0, none⟩ (.string S)).setCell ⟨P, 1, none⟩ (.int .i64 k3)).setCell ⟨P, 2, none⟩ (.bool b3)).setCell ⟨Q, 5, none⟩ (.int .i64 c)).frozen? ⟨P, 0, none⟩ = false := frozen_of_row _ P 0 _ _ pP6
  have cP1_10 : ((((w8.setCell ⟨P, 0, none⟩ (.string S)).setCell ⟨P, 1, none⟩ (.int .i64 k3)).setCell ⟨P, 2, none⟩ (.bool b3)).setCell ⟨Q, 5, none⟩ (.int .i64 c)).cell? ⟨P, 1, none⟩ = some (.int .i64 k3) := by rw [cell_of_row _ P 1 _ _ _ pP6]; rfl
  have fP1_10 : ((((w8.setCell ⟨P, 0, none⟩ (.string S)).setCell ⟨P, 1, none⟩ (.int .i64 k3)).setCell ⟨P, 2, none⟩ (.bool b3)).setCell ⟨Q, 5, none⟩ (.int .i64 c)).frozen? ⟨P, 1, none⟩ = false := frozen_of_row _ P 1 _ _ pP6
  have cP2_10 : ((((w8.setCell ⟨P, 0, none⟩ (.string S)).setCell ⟨P, 1, none⟩ (.int .i64 k3)).setCell ⟨P, 2, none⟩ (.bool b3)).setCell ⟨Q, 5, none⟩ (.int .i64 c)).cell? ⟨P, 2, none⟩ = some (.bool b3) := by rw [cell_of_row _ P 2 _ _ _ pP6]; rfl
  have fP2_10 : ((((w8.setCell ⟨P, 0, none⟩ (.string S)).setCell ⟨P, 1, none⟩ (.int .i64 k3)).setCell ⟨P, 2, none⟩ (.bool b3)).setCell ⟨Q, 5, none⟩ (.int .i64 c)).frozen? ⟨P, 2, none⟩ = false := frozen_of_row _ P 2 _ _ pP6
  go_wp2_with fail
  refine (H4.out (((((w8.setCell ⟨P, 0, none⟩ (.string S)).setCell ⟨P, 1, none⟩ (.int .i64 k3)).setCell ⟨P, 2, none⟩ (.bool b3)).setCell ⟨Q, 5, none⟩ (.int .i64 c)))).mono ?_
  clear cP0_8 fP0_8 cP1_8 fP1_8 cP2_8 fP2_8 cQ5_8 fQ5_8 cP0_9 fP0_9 cP1_9 fP1_9 cP2_9 fP2_9 cQ5_9 fQ5_9 cP0_10 fP0_10 cP1_10 fP1_10 cP2_10 fP2_10
  rintro e11 w11 ⟨rfl, g11⟩
  have rP_11 := row_kept pP6 g11
  have rR_11 := row_kept pR6 g11
  have rT_11 := row_kept pT6 g11
  have rQ_11 := row_kept pQ6 g11
  have hb11 : Below P w w11 := hbp6.trans (g11.mono (by first | exact hbp6.size | (have := hbp6.size; omega)))
  have cP0_11 : w11.cell? ⟨P, 0, none⟩ = some (.string S) := by rw [cell_of_row _ P 0 _ _ _ rP_11]; rfl
  have fP0_11 : w11.frozen? ⟨P, 0, none⟩ = false := frozen_of_row _ P 0 _ _ rP_11
  have cP1_11 : w11.cell? ⟨P, 1, none⟩ = some (.int .i64 k3) := by rw [cell_of_row _ P 1 _ _ _ rP_11]; rfl
  have fP1_11 : w11.frozen? ⟨P, 1, none⟩ = false := frozen_of_row _ P 1 _ _ rP_11
  have cP2_11 : w11.cell? ⟨P, 2, none⟩ = some (.bool b3) := by rw [cell_of_row _ P 2 _ _ _ rP_11]; rfl
  have fP2_11 : w11.frozen? ⟨P, 2, none⟩ = false := frozen_of_row _ P 2 _ _ rP_11
  have cQ1_11 : w11.cell? ⟨Q, 1, none⟩ = some (.int .i64 0) := by rw [cell_of_row _ Q 1 _ _ _ rQ_11]; rfl
  have fQ1_11 : w11.frozen? ⟨Q, 1, none⟩ = false := frozen_of_row _ Q 1 _ _ rQ_11
  have t7 : Bt P w11 (((w11.setCell ⟨P, 0, none⟩ (.string S)).setCell ⟨P, 1, none⟩ (.int .i64 k4)).setCell ⟨P, 2, none⟩ (.bool b4)) := Bt.sets P [(.string S), (.int .i64 k4), (.bool b4)] 0 w11
  have pP7 : (((w11.setCell ⟨P, 0, none⟩ (.string S)).setCell ⟨P, 1, none⟩ (.int .i64 k4)).setCell ⟨P, 2, none⟩ (.bool b4)).heap[P]? = some (.cells #[.string S, .int .i64 k4, .bool b4] 52 (0, 0)) := cat_all (.string S) (.int .i64 k4) (.bool b4) rP_11
  have pR7 := t7.row (show R ≠ P by omega) rR_11
  have pT7 := t7.row (show T ≠ P by omega) rT_11
  have pQ7 := t7.row (show Q ≠ P by omega) rQ_11
  have hbp7 : Below P w (((w11.setCell ⟨P, 0, none⟩ (.string S)).setCell ⟨P, 1, none⟩ (.int .i64 k4)).setCell ⟨P, 2, none⟩ (.bool b4)) := hb11.trans (t7.below (show P ≤ P by omega) (by have := hb11.size; omega))
  have cP0_12 : (((w11.setCell ⟨P, 0, none⟩ (.string S)).setCell ⟨P, 1, none⟩ (.int .i64 k4)).setCell ⟨P, 2, none⟩ (.bool b4)).cell? ⟨P, 0, none⟩ = some (.string S) := by rw [cell_of_row _ P 0 _ _ _ pP7]; rfl
  have fP0_12 : (((w11.setCell ⟨P, 0, none⟩ (.string S)).setCell ⟨P, 1, none⟩ (.int .i64 k4)).setCell ⟨P, 2, none⟩ (.bool b4)).frozen? ⟨P, 0, none⟩ = false := frozen_of_row _ P 0 _ _ pP7
  have cP1_12 : (((w11.setCell ⟨P, 0, none⟩ (.string S)).setCell ⟨P, 1, none⟩ (.int .i64 k4)).setCell ⟨P, 2, none⟩ (.bool b4)).cell? ⟨P, 1, none⟩ = some (.int .i64 k4) := by rw [cell_of_row _ P 1 _ _ _ pP7]; rfl
  have fP1_12 : (((w11.setCell ⟨P, 0, none⟩ (.string S)).setCell ⟨P, 1, none⟩ (.int .i64 k4)).setCell ⟨P, 2, none⟩ (.bool b4)).frozen? ⟨P, 1, none⟩ = false := frozen_of_row _ P 1 _ _ pP7
  have cP2_12 : (((w11.setCell ⟨P, 0, none⟩ (.string S)).setCell ⟨P, 1, none⟩ (.int .i64 k4)).setCell ⟨P, 2, none⟩ (.bool b4)).cell? ⟨P, 2, none⟩ = some (.bool b4) := by rw [cell_of_row _ P 2 _ _ _ pP7]; rfl
  have fP2_12 : (((w11.setCell ⟨P, 0, none⟩ (.string S)).setCell ⟨P, 1, none⟩ (.int .i64 k4)).setCell ⟨P, 2, none⟩ (.bool b4)).frozen? ⟨P, 2, none⟩ = false := frozen_of_row _ P 2 _ _ pP7
  have cQ1_12 : (((w11.setCell ⟨P, 0, none⟩ (.string S)).setCell ⟨P, 1, none⟩ (.int .i64 k4)).setCell ⟨P, 2, none⟩ (.bool b4)).cell? ⟨Q, 1, none⟩ = some (.int .i64 0) := by rw [cell_of_row _ Q 1 _ _ _ pQ7]; rfl
  have fQ1_12 : (((w11.setCell ⟨P, 0, none⟩ (.string S)).setCell ⟨P, 1, none⟩ (.int .i64 k4)).setCell ⟨P, 2, none⟩ (.bool b4)).frozen? ⟨Q, 1, none⟩ = false := frozen_of_row _ Q 1 _ _ pQ7
  have t8 : Bt Q (((w11.setCell ⟨P, 0, none⟩ (.string S)).setCell ⟨P, 1, none⟩ (.int .i64 k4)).setCell ⟨P, 2, none⟩ (.bool b4)) ((((w11.setCell ⟨P, 0, none⟩ (.string S)).setCell ⟨P, 1, none⟩ (.int .i64 k4)).setCell ⟨P, 2, none⟩ (.bool b4)).setCell ⟨Q, 1, none⟩ (.int .i64 m)) := Bt.sets Q [(.int .i64 m)] 1 (((w11.setCell ⟨P, 0, none⟩ (.string S)).setCell ⟨P, 1, none⟩ (.int .i64 k4)).setCell ⟨P, 2, none⟩ (.bool b4))
  have pQ8 : ((((w11.setCell ⟨P, 0, none⟩ (.string S)).setCell ⟨P, 1, none⟩ (.int .i64 k4)).setCell ⟨P, 2, none⟩ (.bool b4)).setCell ⟨Q, 1, none⟩ (.int .i64 m)).heap[Q]? = some (.cells #[.int .i64 3, .int .i64 m, .int .i64 0, .int .i64 0, .int .i64 i, .int .i64 c] 39 (0, 0)) := heap_setCell_same _ Q 1 _ _ _ pQ7
  have pP8 := t8.row (show P ≠ Q by omega) pP7
  have pR8 := t8.row (show R ≠ Q by omega) pR7
  have pT8 := t8.row (show T ≠ Q by omega) pT7
  have hbp8 : Below P w ((((w11.setCell ⟨P, 0, none⟩ (.string S)).setCell ⟨P, 1, none⟩ (.int .i64 k4)).setCell ⟨P, 2, none⟩ (.bool b4)).setCell ⟨Q, 1, none⟩ (.int .i64 m)) := hbp7.trans (t8.below (show P ≤ Q by omega) (by have := hbp7.size; omega))
  have cP0_13 : ((((w11.setCell ⟨P, 0, none⟩ (.string S)).setCell ⟨P, 1, none⟩ (.int .i64 k4)).setCell ⟨P, 2, none⟩ (.bool b4)).setCell ⟨Q, 1, none⟩ (.int .i64 m)).cell? ⟨P, 0, none⟩ = some (.string S) := by rw [cell_of_row _ P 0 _ _ _ pP8]; rfl
  have fP0_13 : ((((w11.setCell ⟨P, 0, none⟩ (.string S)).setCell ⟨P, 1, none⟩ (.int .i64 k4)).setCell ⟨P, 2, none⟩ (.bool b4)).setCell ⟨Q, 1, none⟩ (.int .i64 m)).frozen? ⟨P, 0, none⟩ = false := frozen_of_row _ P 0 _ _ pP8
  have cP1_13 : ((((w11.setCell ⟨P, 0, none⟩ (.string S)).setCell ⟨P, 1, none⟩ (.int .i64 k4)).setCell ⟨P, 2, none⟩ (.bool b4)).setCell ⟨Q, 1, none⟩ (.int .i64 m)).cell? ⟨P, 1, none⟩ = some (.int .i64 k4) := by rw [cell_of_row _ P 1 _ _ _ pP8]; rfl
  have fP1_13 : ((((w11.setCell ⟨P, 0, none⟩ (.string S)).setCell ⟨P, 1, none⟩ (.int .i64 k4)).setCell ⟨P, 2, none⟩ (.bool b4)).setCell ⟨Q, 1, none⟩ (.int .i64 m)).frozen? ⟨P, 1, none⟩ = false := frozen_of_row _ P 1 _ _ pP8
  have cP2_13 : ((((w11.setCell ⟨P, 0, none⟩ (.string S)).setCell ⟨P, 1, none⟩ (.int .i64 k4)).setCell ⟨P, 2, none⟩ (.bool b4)).setCell ⟨Q, 1, none⟩ (.int .i64 m)).cell? ⟨P, 2, none⟩ = some (.bool b4) := by rw [cell_of_row _ P 2 _ _ _ pP8]; rfl
  have fP2_13 : ((((w11.setCell ⟨P, 0, none⟩ (.string S)).setCell ⟨P, 1, none⟩ (.int .i64 k4)).setCell ⟨P, 2, none⟩ (.bool b4)).setCell ⟨Q, 1, none⟩ (.int .i64 m)).frozen? ⟨P, 2, none⟩ = false := frozen_of_row _ P 2 _ _ pP8
  go_wp2_with fail
  refine (H5.out (((((w11.setCell ⟨P, 0, none⟩ (.string S)).setCell ⟨P, 1, none⟩ (.int .i64 k4)).setCell ⟨P, 2, none⟩ (.bool b4)).setCell ⟨Q, 1, none⟩ (.int .i64 m)))).mono ?_
  clear cP0_11 fP0_11 cP1_11 fP1_11 cP2_11 fP2_11 cQ1_11 fQ1_11 cP0_12 fP0_12 cP1_12 fP1_12 cP2_12 fP2_12 cQ1_12 fQ1_12 cP0_13 fP0_13 cP1_13 fP1_13 cP2_13 fP2_13
  rintro e14 w14 ⟨rfl, g14⟩
  have rP_14 := row_kept pP8 g14
  have rR_14 := row_kept pR8 g14
  have rT_14 := row_kept pT8 g14
  have rQ_14 := row_kept pQ8 g14
  have hb14 : Below P w w14 := hbp8.trans (g14.mono (by first | exact hbp8.size | (have := hbp8.size; omega)))
  have cP0_14 : w14.cell? ⟨P, 0, none⟩ = some (.string S) := by rw [cell_of_row _ P 0 _ _ _ rP_14]; rfl
  have fP0_14 : w14.frozen? ⟨P, 0, none⟩ = false := frozen_of_row _ P 0 _ _ rP_14
  have cP1_14 : w14.cell? ⟨P, 1, none⟩ = some (.int .i64 k4) := by rw [cell_of_row _ P 1 _ _ _ rP_14]; rfl
  have fP1_14 : w14.frozen? ⟨P, 1, none⟩ = false := frozen_of_row _ P 1 _ _ rP_14
  have cP2_14 : w14.cell? ⟨P, 2, none⟩ = some (.bool b4) := by rw [cell_of_row _ P 2 _ _ _ rP_14]; rfl
  have fP2_14 : w14.frozen? ⟨P, 2, none⟩ = false := frozen_of_row _ P 2 _ _ rP_14
  have cQ2_14 : w14.cell? ⟨Q, 2, none⟩ = some (.int .i64 0) := by rw [cell_of_row _ Q 2 _ _ _ rQ_14]; rfl
  have fQ2_14 : w14.frozen? ⟨Q, 2, none⟩ = false := frozen_of_row _ Q 2 _ _ rQ_14
  have t9 : Bt P w14 (((w14.setCell ⟨P, 0, none⟩ (.string S)).setCell ⟨P, 1, none⟩ (.int .i64 k5)).setCell ⟨P, 2, none⟩ (.bool b5)) := Bt.sets P [(.string S), (.int .i64 k5), (.bool b5)] 0 w14
  have pP9 : (((w14.setCell ⟨P, 0, none⟩ (.string S)).setCell ⟨P, 1, none⟩ (.int .i64 k5)).setCell ⟨P, 2, none⟩ (.bool b5)).heap[P]? = some (.cells #[.string S, .int .i64 k5, .bool b5] 52 (0, 0)) := cat_all (.string S) (.int .i64 k5) (.bool b5) rP_14
  have pR9 := t9.row (show R ≠ P by omega) rR_14
  have pT9 := t9.row (show T ≠ P by omega) rT_14
  have pQ9 := t9.row (show Q ≠ P by omega) rQ_14
  have hbp9 : Below P w (((w14.setCell ⟨P, 0, none⟩ (.string S)).setCell ⟨P, 1, none⟩ (.int .i64 k5)).setCell ⟨P, 2, none⟩ (.bool b5)) := hb14.trans (t9.below (show P ≤ P by omega) (by have := hb14.size; omega))
  have cP0_15 : (((w14.setCell ⟨P, 0, none⟩ (.string S)).setCell ⟨P, 1, none⟩ (.int .i64 k5)).setCell ⟨P, 2, none⟩ (.bool b5)).cell? ⟨P, 0, none⟩ = some (.string S) := by rw [cell_of_row _ P 0 _ _ _ pP9]; rfl
  have fP0_15 : (((w14.setCell ⟨P, 0, none⟩ (.string S)).setCell ⟨P, 1, none⟩ (.int .i64 k5)).setCell ⟨P, 2, none⟩ (.bool b5)).frozen? ⟨P, 0, none⟩ = false := frozen_of_row _ P 0 _ _ pP9
  have cP1_15 : (((w14.setCell ⟨P, 0, none⟩ (.string S)).setCell ⟨P, 1, none⟩ (.int .i64 k5)).setCell ⟨P, 2, none⟩ (.bool b5)).cell? ⟨P, 1, none⟩ = some (.int .i64 k5) := by rw [cell_of_row _ P 1 _ _ _ pP9]; rfl
  have fP1_15 : (((w14.setCell ⟨P, 0, none⟩ (.string S)).setCell ⟨P, 1, none⟩ (.int .i64 k5)).setCell ⟨P, 2, none⟩ (.bool b5)).frozen? ⟨P, 1, none⟩ = false := frozen_of_row _ P 1 _ _ pP9
  have cP2_15 : (((w14.setCell ⟨P, 0, none⟩ (.string S)).setCell ⟨P, 1, none⟩ (.int .i64 k5)).setCell ⟨P, 2, none⟩ (.bool b5)).cell? ⟨P, 2, none⟩ = some (.bool b5) := by rw [cell_of_row _ P 2 _ _ _ pP9]; rfl
  have fP2_15 : (((w14.setCell ⟨P, 0, none⟩ (.string S)).setCell ⟨P, 1, none⟩ (.int .i64 k5)).setCell ⟨P, 2, none⟩ (.bool b5)).frozen? ⟨P, 2, none⟩ = false := frozen_of_row _ P 2 _ _ pP9
  have cQ2_15 : (((w14.setCell ⟨P, 0, none⟩ (.string S)).setCell ⟨P, 1, none⟩ (.int .i64 k5)).setCell ⟨P, 2, none⟩ (.bool b5)).cell? ⟨Q, 2, none⟩ = some (.int .i64 0) := by rw [cell_of_row _ Q 2 _ _ _ pQ9]; rfl
  have fQ2_15 : (((w14.setCell ⟨P, 0, none⟩ (.string S)).setCell ⟨P, 1, none⟩ (.int .i64 k5)).setCell ⟨P, 2, none⟩ (.bool b5)).frozen? ⟨Q, 2, none⟩ = false := frozen_of_row _ Q 2 _ _ pQ9
  have t10 : Bt Q (((w14.setCell ⟨P, 0, none⟩ (.string S)).setCell ⟨P, 1, none⟩ (.int .i64 k5)).setCell ⟨P, 2, none⟩ (.bool b5)) ((((w14.setCell ⟨P, 0, none⟩ (.string S)).setCell ⟨P, 1, none⟩ (.int .i64 k5)).setCell ⟨P, 2, none⟩ (.bool b5)).setCell ⟨Q, 2, none⟩ (.int .i64 d)) := Bt.sets Q [(.int .i64 d)] 2 (((w14.setCell ⟨P, 0, none⟩ (.string S)).setCell ⟨P, 1, none⟩ (.int .i64 k5)).setCell ⟨P, 2, none⟩ (.bool b5))
  have pQ10 : ((((w14.setCell ⟨P, 0, none⟩ (.string S)).setCell ⟨P, 1, none⟩ (.int .i64 k5)).setCell ⟨P, 2, none⟩ (.bool b5)).setCell ⟨Q, 2, none⟩ (.int .i64 d)).heap[Q]? = some (.cells #[.int .i64 3, .int .i64 m, .int .i64 d, .int .i64 0, .int .i64 i, .int .i64 c] 39 (0, 0)) := heap_setCell_same _ Q 2 _ _ _ pQ9
  have pP10 := t10.row (show P ≠ Q by omega) pP9
  have pR10 := t10.row (show R ≠ Q by omega) pR9
  have pT10 := t10.row (show T ≠ Q by omega) pT9
  have hbp10 : Below P w ((((w14.setCell ⟨P, 0, none⟩ (.string S)).setCell ⟨P, 1, none⟩ (.int .i64 k5)).setCell ⟨P, 2, none⟩ (.bool b5)).setCell ⟨Q, 2, none⟩ (.int .i64 d)) := hbp9.trans (t10.below (show P ≤ Q by omega) (by have := hbp9.size; omega))
  have cP0_16 : ((((w14.setCell ⟨P, 0, none⟩ (.string S)).setCell ⟨P, 1, none⟩ (.int .i64 k5)).setCell ⟨P, 2, none⟩ (.bool b5)).setCell ⟨Q, 2, none⟩ (.int .i64 d)).cell? ⟨P, 0, none⟩ = some (.string S) := by rw [cell_of_row _ P 0 _ _ _ pP10]; rfl
  have fP0_16 : ((((w14.setCell ⟨P, 0, none⟩ (.string S)).setCell ⟨P, 1, none⟩ (.int .i64 k5)).setCell ⟨P, 2, none⟩ (.bool b5)).setCell ⟨Q, 2, none⟩ (.int .i64 d)).frozen? ⟨P, 0, none⟩ = false := frozen_of_row _ P 0 _ _ pP10
  have cP1_16 : ((((w14.setCell ⟨P, 0, none⟩ (.string S)).setCell ⟨P, 1, none⟩ (.int .i64 k5)).setCell ⟨P, 2, none⟩ (.bool b5)).setCell ⟨Q, 2, none⟩ (.int .i64 d)).cell? ⟨P, 1, none⟩ = some (.int .i64 k5) := by rw [cell_of_row _ P 1 _ _ _ pP10]; rfl
  have fP1_16 : ((((w14.setCell ⟨P, 0, none⟩ (.string S)).setCell ⟨P, 1, none⟩ (.int .i64 k5)).setCell ⟨P, 2, none⟩ (.bool b5)).setCell ⟨Q, 2, none⟩ (.int .i64 d)).frozen? ⟨P, 1, none⟩ = false := frozen_of_row _ P 1 _ _ pP10
  have cP2_16 : ((((w14.setCell ⟨P, 0, none⟩ (.string S)).setCell ⟨P, 1, none⟩ (.int .i64 k5)).setCell ⟨P, 2, none⟩ (.bool b5)).setCell ⟨Q, 2, none⟩ (.int .i64 d)).cell? ⟨P, 2, none⟩ = some (.bool b5) := by rw [cell_of_row _ P 2 _ _ _ pP10]; rfl
  have fP2_16 : ((((w14.setCell ⟨P, 0, none⟩ (.string S)).setCell ⟨P, 1, none⟩ (.int .i64 k5)).setCell ⟨P, 2, none⟩ (.bool b5)).setCell ⟨Q, 2, none⟩ (.int .i64 d)).frozen? ⟨P, 2, none⟩ = false := frozen_of_row _ P 2 _ _ pP10
  go_wp2_with fail
  clear cP0_14 fP0_14 cP1_14 fP1_14 cP2_14 fP2_14 cQ2_14 fQ2_14 cP0_15 fP0_15 cP1_15 fP1_15 cP2_15 fP2_15 cQ2_15 fQ2_15 cP0_16 fP0_16 cP1_16 fP1_16 cP2_16 fP2_16
  obtain ⟨v11, hv11⟩ : ∃ v, v = ((((w14.setCell ⟨P, 0, none⟩ (.string S)).setCell ⟨P, 1, none⟩ (.int .i64 k5)).setCell ⟨P, 2, none⟩ (.bool b5)).setCell ⟨Q, 2, none⟩ (.int .i64 d)) := ⟨_, rfl⟩
  have hz11 : w14.heap.size = v11.heap.size := by rw [hv11]; simp
  rw [← hv11, hz11]
  rw [← hv11] at pP10 pR10 pT10 pQ10 hbp10
  clear hz11 hv11
  refine (H6.out (v11)).mono ?_
  rintro e17 w17 ⟨rfl, g17⟩
  have rP_17 := row_kept pP10 g17
  have rR_17 := row_kept pR10 g17
  have rT_17 := row_kept pT10 g17
  have rQ_17 := row_kept pQ10 g17
  have hb17 : Below P w w17 := hbp10.trans (g17.mono (by first | exact hbp10.size | (have := hbp10.size; omega)))
  have cP0_17 : w17.cell? ⟨P, 0, none⟩ = some (.string S) := by rw [cell_of_row _ P 0 _ _ _ rP_17]; rfl
  have fP0_17 : w17.frozen? ⟨P, 0, none⟩ = false := frozen_of_row _ P 0 _ _ rP_17
  have cP1_17 : w17.cell? ⟨P, 1, none⟩ = some (.int .i64 k5) := by rw [cell_of_row _ P 1 _ _ _ rP_17]; rfl
  have fP1_17 : w17.frozen? ⟨P, 1, none⟩ = false := frozen_of_row _ P 1 _ _ rP_17
  have cP2_17 : w17.cell? ⟨P, 2, none⟩ = some (.bool b5) := by rw [cell_of_row _ P 2 _ _ _ rP_17]; rfl
  have fP2_17 : w17.frozen? ⟨P, 2, none⟩ = false := frozen_of_row _ P 2 _ _ rP_17
  have t12 : Bt P w17 (((w17.setCell ⟨P, 0, none⟩ (.string S)).setCell ⟨P, 1, none⟩ (.int .i64 k6)).setCell ⟨P, 2, none⟩ (.bool b6)) := Bt.sets P [(.string S), (.int .i64 k6), (.bool b6)] 0 w17
  have pP12 : (((w17.setCell ⟨P, 0, none⟩ (.string S)).setCell ⟨P, 1, none⟩ (.int .i64 k6)).setCell ⟨P, 2, none⟩ (.bool b6)).heap[P]? = some (.cells #[.string S, .int .i64 k6, .bool b6] 52 (0, 0)) := cat_all (.string S) (.int .i64 k6) (.bool b6) rP_17
  have pR12 := t12.row (show R ≠ P by omega) rR_17
  have pT12 := t12.row (show T ≠ P by omega) rT_17
  have pQ12 := t12.row (show Q ≠ P by omega) rQ_17
  have hbp12 : Below P w (((w17.setCell ⟨P, 0, none⟩ (.string S)).setCell ⟨P, 1, none⟩ (.int .i64 k6)).setCell ⟨P, 2, none⟩ (.bool b6)) := hb17.trans (t12.below (show P ≤ P by omega) (by have := hb17.size; omega))
  have cP0_18 : (((w17.setCell ⟨P, 0, none⟩ (.string S)).setCell ⟨P, 1, none⟩ (.int .i64 k6)).setCell ⟨P, 2, none⟩ (.bool b6)).cell? ⟨P, 0, none⟩ = some (.string S) := by rw [cell_of_row _ P 0 _ _ _ pP12]; rfl
  have cP1_18 : (((w17.setCell ⟨P, 0, none⟩ (.string S)).setCell ⟨P, 1, none⟩ (.int .i64 k6)).setCell ⟨P, 2, none⟩ (.bool b6)).cell? ⟨P, 1, none⟩ = some (.int .i64 k6) := by rw [cell_of_row _ P 1 _ _ _ pP12]; rfl
  have cP2_18 : (((w17.setCell ⟨P, 0, none⟩ (.string S)).setCell ⟨P, 1, none⟩ (.int .i64 k6)).setCell ⟨P, 2, none⟩ (.bool b6)).cell? ⟨P, 2, none⟩ = some (.bool b6) := by rw [cell_of_row _ P 2 _ _ _ pP12]; rfl
  have cQ0_18 : (((w17.setCell ⟨P, 0, none⟩ (.string S)).setCell ⟨P, 1, none⟩ (.int .i64 k6)).setCell ⟨P, 2, none⟩ (.bool b6)).cell? ⟨Q, 0, none⟩ = some (.int .i64 3) := by rw [cell_of_row _ Q 0 _ _ _ pQ12]; rfl
  have cQ1_18 : (((w17.setCell ⟨P, 0, none⟩ (.string S)).setCell ⟨P, 1, none⟩ (.int .i64 k6)).setCell ⟨P, 2, none⟩ (.bool b6)).cell? ⟨Q, 1, none⟩ = some (.int .i64 m) := by rw [cell_of_row _ Q 1 _ _ _ pQ12]; rfl
  have cQ2_18 : (((w17.setCell ⟨P, 0, none⟩ (.string S)).setCell ⟨P, 1, none⟩ (.int .i64 k6)).setCell ⟨P, 2, none⟩ (.bool b6)).cell? ⟨Q, 2, none⟩ = some (.int .i64 d) := by rw [cell_of_row _ Q 2 _ _ _ pQ12]; rfl
  have cQ3_18 : (((w17.setCell ⟨P, 0, none⟩ (.string S)).setCell ⟨P, 1, none⟩ (.int .i64 k6)).setCell ⟨P, 2, none⟩ (.bool b6)).cell? ⟨Q, 3, none⟩ = some (.int .i64 0) := by rw [cell_of_row _ Q 3 _ _ _ pQ12]; rfl
  have cQ4_18 : (((w17.setCell ⟨P, 0, none⟩ (.string S)).setCell ⟨P, 1, none⟩ (.int .i64 k6)).setCell ⟨P, 2, none⟩ (.bool b6)).cell? ⟨Q, 4, none⟩ = some (.int .i64 i) := by rw [cell_of_row _ Q 4 _ _ _ pQ12]; rfl
  have cQ5_18 : (((w17.setCell ⟨P, 0, none⟩ (.string S)).setCell ⟨P, 1, none⟩ (.int .i64 k6)).setCell ⟨P, 2, none⟩ (.bool b6)).cell? ⟨Q, 5, none⟩ = some (.int .i64 c) := by rw [cell_of_row _ Q 5 _ _ _ pQ12]; rfl
  have cR0_18 : (((w17.setCell ⟨P, 0, none⟩ (.string S)).setCell ⟨P, 1, none⟩ (.int .i64 k6)).setCell ⟨P, 2, none⟩ (.bool b6)).cell? ⟨R, 0, none⟩ = some (.string ⟨#[]⟩) := by rw [cell_of_row _ R 0 _ _ _ pR12]; rfl
  have fR0_18 : (((w17.setCell ⟨P, 0, none⟩ (.string S)).setCell ⟨P, 1, none⟩ (.int .i64 k6)).setCell ⟨P, 2, none⟩ (.bool b6)).frozen? ⟨R, 0, none⟩ = false := frozen_of_row _ R 0 _ _ pR12
  have cR1_18 : (((w17.setCell ⟨P, 0, none⟩ (.string S)).setCell ⟨P, 1, none⟩ (.int .i64 k6)).setCell ⟨P, 2, none⟩ (.bool b6)).cell? ⟨R, 1, none⟩ = some (.int .i64 0) := by rw [cell_of_row _ R 1 _ _ _ pR12]; rfl
  have fR1_18 : (((w17.setCell ⟨P, 0, none⟩ (.string S)).setCell ⟨P, 1, none⟩ (.int .i64 k6)).setCell ⟨P, 2, none⟩ (.bool b6)).frozen? ⟨R, 1, none⟩ = false := frozen_of_row _ R 1 _ _ pR12
  have cR2_18 : (((w17.setCell ⟨P, 0, none⟩ (.string S)).setCell ⟨P, 1, none⟩ (.int .i64 k6)).setCell ⟨P, 2, none⟩ (.bool b6)).cell? ⟨R, 2, none⟩ = some (.bool false) := by rw [cell_of_row _ R 2 _ _ _ pR12]; rfl
  have fR2_18 : (((w17.setCell ⟨P, 0, none⟩ (.string S)).setCell ⟨P, 1, none⟩ (.int .i64 k6)).setCell ⟨P, 2, none⟩ (.bool b6)).frozen? ⟨R, 2, none⟩ = false := frozen_of_row _ R 2 _ _ pR12
  have cT0_18 : (((w17.setCell ⟨P, 0, none⟩ (.string S)).setCell ⟨P, 1, none⟩ (.int .i64 k6)).setCell ⟨P, 2, none⟩ (.bool b6)).cell? ⟨T, 0, none⟩ = some (.int .i64 0) := by rw [cell_of_row _ T 0 _ _ _ pT12]; rfl
  have fT0_18 : (((w17.setCell ⟨P, 0, none⟩ (.string S)).setCell ⟨P, 1, none⟩ (.int .i64 k6)).setCell ⟨P, 2, none⟩ (.bool b6)).frozen? ⟨T, 0, none⟩ = false := frozen_of_row _ T 0 _ _ pT12
  have cT1_18 : (((w17.setCell ⟨P, 0, none⟩ (.string S)).setCell ⟨P, 1, none⟩ (.int .i64 k6)).setCell ⟨P, 2, none⟩ (.bool b6)).cell? ⟨T, 1, none⟩ = some (.int .i64 0) := by rw [cell_of_row _ T 1 _ _ _ pT12]; rfl
  have fT1_18 : (((w17.setCell ⟨P, 0, none⟩ (.string S)).setCell ⟨P, 1, none⟩ (.int .i64 k6)).setCell ⟨P, 2, none⟩ (.bool b6)).frozen? ⟨T, 1, none⟩ = false := frozen_of_row _ T 1 _ _ pT12
  have cT2_18 : (((w17.setCell ⟨P, 0, none⟩ (.string S)).setCell ⟨P, 1, none⟩ (.int .i64 k6)).setCell ⟨P, 2, none⟩ (.bool b6)).cell? ⟨T, 2, none⟩ = some (.int .i64 0) := by rw [cell_of_row _ T 2 _ _ _ pT12]; rfl
  have fT2_18 : (((w17.setCell ⟨P, 0, none⟩ (.string S)).setCell ⟨P, 1, none⟩ (.int .i64 k6)).setCell ⟨P, 2, none⟩ (.bool b6)).frozen? ⟨T, 2, none⟩ = false := frozen_of_row _ T 2 _ _ pT12
  have cT3_18 : (((w17.setCell ⟨P, 0, none⟩ (.string S)).setCell ⟨P, 1, none⟩ (.int .i64 k6)).setCell ⟨P, 2, none⟩ (.bool b6)).cell? ⟨T, 3, none⟩ = some (.int .i64 0) := by rw [cell_of_row _ T 3 _ _ _ pT12]; rfl
  have fT3_18 : (((w17.setCell ⟨P, 0, none⟩ (.string S)).setCell ⟨P, 1, none⟩ (.int .i64 k6)).setCell ⟨P, 2, none⟩ (.bool b6)).frozen? ⟨T, 3, none⟩ = false := frozen_of_row _ T 3 _ _ pT12
  have cT4_18 : (((w17.setCell ⟨P, 0, none⟩ (.string S)).setCell ⟨P, 1, none⟩ (.int .i64 k6)).setCell ⟨P, 2, none⟩ (.bool b6)).cell? ⟨T, 4, none⟩ = some (.int .i64 0) := by rw [cell_of_row _ T 4 _ _ _ pT12]; rfl
  have fT4_18 : (((w17.setCell ⟨P, 0, none⟩ (.string S)).setCell ⟨P, 1, none⟩ (.int .i64 k6)).setCell ⟨P, 2, none⟩ (.bool b6)).frozen? ⟨T, 4, none⟩ = false := frozen_of_row _ T 4 _ _ pT12
  have cT5_18 : (((w17.setCell ⟨P, 0, none⟩ (.string S)).setCell ⟨P, 1, none⟩ (.int .i64 k6)).setCell ⟨P, 2, none⟩ (.bool b6)).cell? ⟨T, 5, none⟩ = some (.int .i64 0) := by rw [cell_of_row _ T 5 _ _ _ pT12]; rfl
  have fT5_18 : (((w17.setCell ⟨P, 0, none⟩ (.string S)).setCell ⟨P, 1, none⟩ (.int .i64 k6)).setCell ⟨P, 2, none⟩ (.bool b6)).frozen? ⟨T, 5, none⟩ = false := frozen_of_row _ T 5 _ _ pT12
  go_wp2_with fail
  go_region
  have t13 : Bt R (((w17.setCell ⟨P, 0, none⟩ (.string S)).setCell ⟨P, 1, none⟩ (.int .i64 k6)).setCell ⟨P, 2, none⟩ (.bool b6)) ((((((w17.setCell ⟨P, 0, none⟩ (.string S)).setCell ⟨P, 1, none⟩ (.int .i64 k6)).setCell ⟨P, 2, none⟩ (.bool b6)).setCell ⟨R, 0, none⟩ (.string S)).setCell ⟨R, 1, none⟩ (.int .i64 k6)).setCell ⟨R, 2, none⟩ (.bool b6)) := Bt.sets R [(.string S), (.int .i64 k6), (.bool b6)] 0 (((w17.setCell ⟨P, 0, none⟩ (.string S)).setCell ⟨P, 1, none⟩ (.int .i64 k6)).setCell ⟨P, 2, none⟩ (.bool b6))
  have pR13 : ((((((w17.setCell ⟨P, 0, none⟩ (.string S)).setCell ⟨P, 1, none⟩ (.int .i64 k6)).setCell ⟨P, 2, none⟩ (.bool b6)).setCell ⟨R, 0, none⟩ (.string S)).setCell ⟨R, 1, none⟩ (.int .i64 k6)).setCell ⟨R, 2, none⟩ (.bool b6)).heap[R]? = some (.cells #[.string S, .int .i64 k6, .bool b6] 52 (0, 0)) := cat_all (.string S) (.int .i64 k6) (.bool b6) pR12
  have pP13 := t13.row (show P ≠ R by omega) pP12
  have pT13 := t13.row (show T ≠ R by omega) pT12
  have pQ13 := t13.row (show Q ≠ R by omega) pQ12
  have hbp13 : Below P w ((((((w17.setCell ⟨P, 0, none⟩ (.string S)).setCell ⟨P, 1, none⟩ (.int .i64 k6)).setCell ⟨P, 2, none⟩ (.bool b6)).setCell ⟨R, 0, none⟩ (.string S)).setCell ⟨R, 1, none⟩ (.int .i64 k6)).setCell ⟨R, 2, none⟩ (.bool b6)) := hbp12.trans (t13.below (show P ≤ R by omega) (by have := hbp12.size; omega))
  have t14 : Bt T ((((((w17.setCell ⟨P, 0, none⟩ (.string S)).setCell ⟨P, 1, none⟩ (.int .i64 k6)).setCell ⟨P, 2, none⟩ (.bool b6)).setCell ⟨R, 0, none⟩ (.string S)).setCell ⟨R, 1, none⟩ (.int .i64 k6)).setCell ⟨R, 2, none⟩ (.bool b6)) ((((((((((((w17.setCell ⟨P, 0, none⟩ (.string S)).setCell ⟨P, 1, none⟩ (.int .i64 k6)).setCell ⟨P, 2, none⟩ (.bool b6)).setCell ⟨R, 0, none⟩ (.string S)).setCell ⟨R, 1, none⟩ (.int .i64 k6)).setCell ⟨R, 2, none⟩ (.bool b6)).setCell ⟨T, 0, none⟩ (.int .i64 3)).setCell ⟨T, 1, none⟩ (.int .i64 m)).setCell ⟨T, 2, none⟩ (.int .i64 d)).setCell ⟨T, 3, none⟩ (.int .i64 0)).setCell ⟨T, 4, none⟩ (.int .i64 i)).setCell ⟨T, 5, none⟩ (.int .i64 c)) := Bt.sets T [(.int .i64 3), (.int .i64 m), (.int .i64 d), (.int .i64 0), (.int .i64 i), (.int .i64 c)] 0 ((((((w17.setCell ⟨P, 0, none⟩ (.string S)).setCell ⟨P, 1, none⟩ (.int .i64 k6)).setCell ⟨P, 2, none⟩ (.bool b6)).setCell ⟨R, 0, none⟩ (.string S)).setCell ⟨R, 1, none⟩ (.int .i64 k6)).setCell ⟨R, 2, none⟩ (.bool b6))
  have pT14 : ((((((((((((w17.setCell ⟨P, 0, none⟩ (.string S)).setCell ⟨P, 1, none⟩ (.int .i64 k6)).setCell ⟨P, 2, none⟩ (.bool b6)).setCell ⟨R, 0, none⟩ (.string S)).setCell ⟨R, 1, none⟩ (.int .i64 k6)).setCell ⟨R, 2, none⟩ (.bool b6)).setCell ⟨T, 0, none⟩ (.int .i64 3)).setCell ⟨T, 1, none⟩ (.int .i64 m)).setCell ⟨T, 2, none⟩ (.int .i64 d)).setCell ⟨T, 3, none⟩ (.int .i64 0)).setCell ⟨T, 4, none⟩ (.int .i64 i)).setCell ⟨T, 5, none⟩ (.int .i64 c)).heap[T]? = some (.cells #[.int .i64 3, .int .i64 m, .int .i64 d, .int .i64 0, .int .i64 i, .int .i64 c] 39 (0, 0)) := anc_all (.int .i64 3) (.int .i64 m) (.int .i64 d) (.int .i64 0) (.int .i64 i) (.int .i64 c) pT13
  have pP14 := t14.row (show P ≠ T by omega) pP13
  have pR14 := t14.row (show R ≠ T by omega) pR13
  have pQ14 := t14.row (show Q ≠ T by omega) pQ13
  have hbp14 : Below P w ((((((((((((w17.setCell ⟨P, 0, none⟩ (.string S)).setCell ⟨P, 1, none⟩ (.int .i64 k6)).setCell ⟨P, 2, none⟩ (.bool b6)).setCell ⟨R, 0, none⟩ (.string S)).setCell ⟨R, 1, none⟩ (.int .i64 k6)).setCell ⟨R, 2, none⟩ (.bool b6)).setCell ⟨T, 0, none⟩ (.int .i64 3)).setCell ⟨T, 1, none⟩ (.int .i64 m)).setCell ⟨T, 2, none⟩ (.int .i64 d)).setCell ⟨T, 3, none⟩ (.int .i64 0)).setCell ⟨T, 4, none⟩ (.int .i64 i)).setCell ⟨T, 5, none⟩ (.int .i64 c)) := hbp13.trans (t14.below (show P ≤ T by omega) (by have := hbp13.size; omega))
  go_wp2_with fail
  obtain ⟨u9, hu9⟩ : ∃ u9, u9 = ((((((((((((w17.setCell ⟨P, 0, none⟩ (.string S)).setCell ⟨P, 1, none⟩ (.int .i64 k6)).setCell ⟨P, 2, none⟩ (.bool b6)).setCell ⟨R, 0, none⟩ (.string S)).setCell ⟨R, 1, none⟩ (.int .i64 k6)).setCell ⟨R, 2, none⟩ (.bool b6)).setCell ⟨T, 0, none⟩ (.int .i64 3)).setCell ⟨T, 1, none⟩ (.int .i64 m)).setCell ⟨T, 2, none⟩ (.int .i64 d)).setCell ⟨T, 3, none⟩ (.int .i64 0)).setCell ⟨T, 4, none⟩ (.int .i64 i)).setCell ⟨T, 5, none⟩ (.int .i64 c)) := ⟨_, rfl⟩
  rw [← hu9] at pR14 pT14 hbp14 ⊢
  have kR0 : u9.cell? ⟨R, 0, none⟩ = some (.string S) := by rw [cell_of_row _ R 0 _ _ _ pR14]; rfl
  have kR1 : u9.cell? ⟨R, 1, none⟩ = some (.int .i64 k6) := by rw [cell_of_row _ R 1 _ _ _ pR14]; rfl
  have kR2 : u9.cell? ⟨R, 2, none⟩ = some (.bool b6) := by rw [cell_of_row _ R 2 _ _ _ pR14]; rfl
  have kT0 : u9.cell? ⟨T, 0, none⟩ = some (.int .i64 3) := by rw [cell_of_row _ T 0 _ _ _ pT14]; rfl
  have kT1 : u9.cell? ⟨T, 1, none⟩ = some (.int .i64 m) := by rw [cell_of_row _ T 1 _ _ _ pT14]; rfl
  have kT2 : u9.cell? ⟨T, 2, none⟩ = some (.int .i64 d) := by rw [cell_of_row _ T 2 _ _ _ pT14]; rfl
  have kT3 : u9.cell? ⟨T, 3, none⟩ = some (.int .i64 0) := by rw [cell_of_row _ T 3 _ _ _ pT14]; rfl
  have kT4 : u9.cell? ⟨T, 4, none⟩ = some (.int .i64 i) := by rw [cell_of_row _ T 4 _ _ _ pT14]; rfl
  have kT5 : u9.cell? ⟨T, 5, none⟩ = some (.int .i64 c) := by rw [cell_of_row _ T 5 _ _ _ pT14]; rfl
  exact bodyPost_ret (v := .tuple #[sv S k6 b6, .agg #[.int .i64 3, .int .i64 m, .int .i64 d, .int .i64 0, .int .i64 i, .int .i64 c]]) (by simp [results, Tryz.results25, go_sem, kR0, kR1, kR2, kT0, kT1, kT2, kT3, kT4, kT5]) rfl ⟨rfl, (by rw [hP]; exact below_dn hbp14 1)⟩
end Go.Proofs.YthmfhgehahpgbaaGreatDoor
