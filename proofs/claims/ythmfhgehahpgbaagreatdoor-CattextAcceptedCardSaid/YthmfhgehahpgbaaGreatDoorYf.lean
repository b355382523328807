/- Package cattext: the parser's methods, from letters for what their calls answer. -/
import Derived.Test.YthmfhgehahpgbaaGreatDoorYe
import Derived.Deep.RegionHeld3
namespace Go.Proofs.YthmfhgehahpgbaaGreatDoor
open Go.RowKit

theorem ne_scan {w : World} {b : Nat} {S : ByteArray} {x : Sc} (h : WTab w) (hr : w.heap[b]? = some (scX S x)) : 1 ≠ b := by
  rintro rfl
  obtain ⟨t, fr, e⟩ := h.row
  rw [hr] at e
  injection e with e
  injection e with e _ _
  have e := congrArg Array.size e
  rw [show nms.size = 7 from rfl] at e
  exact absurd e (by show ¬ 3 = 7; decide)
theorem WTab.mv {w w' : World} {b : Nat} (h : WTab w) (hb : Bt b w w') (hn : 1 ≠ b) : WTab w' := by
  obtain ⟨t, fr, e⟩ := h.row
  exact ⟨⟨t, fr, hb.row hn e⟩⟩
set_option maxRecDepth 100000 in
theorem p26clo (s : ByteArray) (hs : s.size ≤ 100000) (w : World) : Calls Tryz.prog 87 #[.string s] w fun e w' => e = .returned (.string s) ∧ Below w.heap.size w w' := by
  have H := Lib.hid (fun u => sh_stringslite_Clone s u (by omega))
  go_enter Tryz.func87, Tryz.ntmps87
  go_wp2_with fail
  refine (H.out w).mono ?_
  rintro e w' ⟨rfl, hb⟩
  go_wp2_with fail
  go_ret
  exact ⟨rfl, hb⟩
theorem p26pol (w : World) : Calls Tryz.prog 58 #[] w fun e w' => ∃ g, e = .returned (.slice (some ⟨g, 0, none⟩) 3 3) ∧ StrsIn g 3 lPo w' ∧ w.heap.size ≤ g ∧ Below w.heap.size w w' := by
  go_enter Tryz.func58, Tryz.ntmps58
  go_wp2_with fail
  go_ret
  exact ⟨_, rfl, lit3 _ _ _ _, Nat.le_refl _, al1 _ _⟩
set_option maxRecDepth 100000 in
set_option maxHeartbeats 1000000 in
theorem p26ide_go {S : ByteArray} {b : Nat} {x : Sc} {w : World} {s : ByteArray} {i : Int} {y1 y2 : Sc} (h : w.heap[b]? = some (scX S x)) (H1 : ∀ u : World, u.heap[b]? = some (scX S x) → Calls Tryz.prog 88 #[xp b] u fun r w' => r = .returned (.string s) ∧ w'.heap[b]? = some (scX S y1) ∧ Bt b u w') (H2 : ∀ u : World, Calls Tryz.prog 87 #[.string s] u fun e w' => e = .returned (.string s) ∧ Below u.heap.size u w') (H3 : ∀ u : World, u.heap[b]? = some (scX S y1) → Calls Tryz.prog 38 #[xp b, .slice (some ⟨u.heap.size, 0, none⟩) 1 1] (u.alloc (.cells #[.string ⟨#[32]⟩] 9)) fun r w' => r = .returned (.int .i64 i) ∧ w'.heap[b]? = some (scX S y2) ∧ Bt b u w') :
    Calls Tryz.prog 65 #[pv b] w fun r w' => r = .returned (.string s) ∧ w'.heap[b]? = some (scX S y2) ∧ Bt b w w' := by
  have H1 := Lib.hid H1
  have H2 := Lib.hid H2
  have H3 := Lib.hid H3
  go_enter Tryz.func65, Tryz.ntmps65
  go_wp2_with fail
  obtain ⟨u, hu⟩ : ∃ u, u = (w.alloc (.cells #[xp b] 47)) := ⟨_, rfl⟩
  have B0 : Below w.heap.size w u := hu ▸ al1 w _
  have rs := row_kept h B0
  have rP : u.heap[w.heap.size]? = some (.cells #[xp b] 47 (0, 0)) := hu ▸ heap_alloc_new _ _
  rw [← hu]
  clear hu
  have hb := Bt.of_below (b := b) B0
  generalize hP : w.heap.size = P at *
  have lb : b < P := by have := row_lt h; omega
  refine (H1.out u rs).mono ?_
  rintro e1 w1 ⟨rfl, rs1, g1⟩
  have rP_1 := g1.row (show P ≠ b by omega) rP
  have hb1 := hb.trans g1
  go_wp2_with fail
  refine (H2.out _).mono ?_
  rintro e2 w2 ⟨rfl, g2⟩
  have rP_2 := row_kept rP_1 g2
  have rs2 := row_kept rs1 g2
  have hb2 := hb1.trans (Bt.of_below g2)
  have cP0_2 : w2.cell? ⟨P, 0, none⟩ = some (xp b) := by rw [cell_of_row _ P 0 _ _ _ rP_2]; rfl
  go_wp2_with fail
  refine (H3.out w2 rs2).mono ?_
  clear cP0_2
  rintro e3 w3 ⟨rfl, rs3, g3⟩
  have rP_3 := g3.row (show P ≠ b by omega) rP_2
  have hb3 := hb2.trans g3
  go_wp2_with fail
  go_ret
  exact ⟨rfl, rs3, hb3⟩
set_option maxRecDepth 100000 in
set_option maxHeartbeats 1000000 in
theorem p26cho_go {S : ByteArray} {b : Nat} {x : Sc} {w : World} {v : Value} {i j : Int} {y1 y2 : Sc} (h : w.heap[b]? = some (scX S x)) (H1 : ∀ u : World, u.heap[b]? = some (scX S x) → Below w.heap.size w u → Calls Tryz.prog 38 #[xp b, v] u fun r w' => r = .returned (.int .i64 i) ∧ w'.heap[b]? = some (scX S y1) ∧ Bt b u w') (H3 : ∀ u : World, u.heap[b]? = some (scX S y1) → Calls Tryz.prog 38 #[xp b, .slice (some ⟨u.heap.size, 0, none⟩) 1 1] (u.alloc (.cells #[.string ⟨#[32]⟩] 9)) fun r w' => r = .returned (.int .i64 j) ∧ w'.heap[b]? = some (scX S y2) ∧ Bt b u w') :
    Calls Tryz.prog 67 #[pv b, v] w fun r w' => r = .returned (.int .i64 i) ∧ w'.heap[b]? = some (scX S y2) ∧ Bt b w w' := by
  have H1 := Lib.hid H1
  have H3 := Lib.hid H3
  go_enter Tryz.func67, Tryz.ntmps67
  go_wp2_with fail
  obtain ⟨u, hu⟩ : ∃ u, u = (w.alloc (.cells #[xp b] 47)) := ⟨_, rfl⟩
  have B0 : Below w.heap.size w u := hu ▸ al1 w _
  have rs := row_kept h B0
  have rP : u.heap[w.heap.size]? = some (.cells #[xp b] 47 (0, 0)) := hu ▸ heap_alloc_new _ _
  rw [← hu]
  clear hu
  have hb := Bt.of_below (b := b) B0
  generalize hP : w.heap.size = P at *
  have lb : b < P := by have := row_lt h; omega
  refine (H1.out u rs B0).mono ?_
  rintro e1 w1 ⟨rfl, rs1, g1⟩
  have rP_1 := g1.row (show P ≠ b by omega) rP
  have hb1 := hb.trans g1
  have cP0_1 : w1.cell? ⟨P, 0, none⟩ = some (xp b) := by rw [cell_of_row _ P 0 _ _ _ rP_1]; rfl
  go_wp2_with fail
  refine (H3.out w1 rs1).mono ?_
  clear cP0_1
  rintro e2 w2 ⟨rfl, rs2, g2⟩
  have rP_2 := g2.row (show P ≠ b by omega) rP_1
  have hb2 := hb1.trans g2
  go_wp2_with fail
  go_ret
  exact ⟨rfl, rs2, hb2⟩
set_option maxRecDepth 100000 in
set_option maxHeartbeats 1000000 in
theorem p26beg_go {S : ByteArray} {b : Nat} {x : Sc} {w : World} {t : ByteArray} {c d : Int} {r : Bool} (h : w.heap[b]? = some (scX S x)) (H1 : ∀ u : World, u.heap[b]? = some (scX S x) → Calls Tryz.prog 64 #[xp b] u fun e w' => e = .returned (.int .u8 c) ∧ Below u.heap.size u w')
    (hd : ∀ u : World, (Instr.index 9 (.string t) (.int .i64 0)).run Tryz.prog u = .ok (.int .u8 d) u) (hr : (c == d) = r) :
    Calls Tryz.prog 40 #[pv b, .string t] w fun e w' => e = .returned (.bool r) ∧ Below w.heap.size w w' := by
  have H1 := Lib.hid (fun u (hu : u.cell? ⟨w.heap.size, 0, none⟩ = some (xp b) ∧ u.heap[b]? = some (scX S x) ∧ Below w.heap.size w u) => (H1 u hu.2.1).mono (R' := fun e u' => e = .returned (.int .u8 c) ∧ (u'.cell? ⟨w.heap.size, 0, none⟩ = some (xp b) ∧ u'.heap[b]? = some (scX S x) ∧ Below w.heap.size w u')) fun e u' ⟨he, hq⟩ => ⟨he, cell_below hu.1 hq, row_kept hu.2.1 hq, hu.2.2.trans (hq.mono hu.2.2.size)⟩)
  have Hs := Lib.hid (show (w.alloc (bxP b)).drew.cell? ⟨w.heap.size, 0, none⟩ = some (xp b) ∧ (w.alloc (bxP b)).drew.heap[b]? = some (scX S x) ∧ Below w.heap.size w (w.alloc (bxP b)).drew from ⟨by rw [cell_of_row (w.alloc (bxP b)).drew w.heap.size 0 _ _ _ (heap_alloc_new w _)]; rfl, row_kept h (below_dn (al1 w (bxP b)) 1), below_dn (al1 w _) 1⟩)
  go_enter Tryz.func40, Tryz.ntmps40
  go_wp2_with fail
  refine wp_region_held_drew (S := fun u => u.cell? ⟨w.heap.size, 0, none⟩ = some (xp b) ∧ u.heap[b]? = some (scX S x) ∧ Below w.heap.size w u) (by kernel_rfl) Hs.out (fun hHeld => ?_)
  refine wpAnyH_take (i := 0) (oi := { dst := some 5, op := _, type := _, pos := _, after := _, guard := _ }) (v := ?v1_0) rfl (by kernel_rfl) (by kernel_rfl) (by kernel_rfl) (fun _ _ _ h => h) (Or.inl ⟨by rfl, ?hy1_0⟩) hHeld ?_
  case hy1_0 => (intro w hSw; (try dsimp only at hSw); go_simp; try with_reducible rfl)
  simp only [Act.put, List.setIfInBounds_toArray, List.set_cons_zero, List.set_cons_succ]
  refine wpAnyH_take (i := 1) (oi := { dst := some 6, op := _, type := _, pos := _, after := _, guard := _ }) (v := ?v1_1) rfl (by kernel_rfl) (by kernel_rfl) (by kernel_rfl) (fun _ _ _ h => h) (Or.inl ⟨by rfl, ?hy1_1⟩) hHeld ?_
  case hy1_1 => (intro w hSw; (try dsimp only at hSw); go_simp; try with_reducible rfl)
  simp only [Act.put, List.setIfInBounds_toArray, List.set_cons_zero, List.set_cons_succ]
  refine wpAnyH_take (i := 3) (oi := { dst := some 8, op := _, type := _, pos := _, after := _, guard := _ }) (v := ?v1_3) rfl (by kernel_rfl) (by kernel_rfl) (by kernel_rfl) (fun _ _ _ h => h) (Or.inl ⟨by rfl, ?hy1_3⟩) hHeld ?_
  case hy1_3 => (intro w hSw; (try dsimp only at hSw); go_simp; try with_reducible rfl)
  simp only [Act.put, List.setIfInBounds_toArray, List.set_cons_zero, List.set_cons_succ]
  refine wpAnyH_take (i := 4) (oi := { dst := some 9, op := _, type := _, pos := _, after := _, guard := _ }) (v := ?v1_4) rfl (by kernel_rfl) (by kernel_rfl) (by kernel_rfl) (fun _ _ _ h => h) (Or.inl ⟨by rfl, ?hy1_4⟩) hHeld ?_
  case hy1_4 => (intro w hSw; (try dsimp only at hSw); go_simp; try with_reducible rfl)
  simp only [Act.put, List.setIfInBounds_toArray, List.set_cons_zero, List.set_cons_succ]
  refine wpAnyH_ready (rs := [2]) (by kernel_rfl) (by simp) ?_
  refine AllReadyH.cons (o := { dst := some 7, op := _, type := _, pos := _, after := _, guard := _ }) rfl (fun K hK => ?_) AllReadyH.nil
  go_simp
  go_at_call 64
  refine (H1.out _ (by assumption)).mono ?_
  rintro ee u1 ⟨rfl, hs1⟩
  refine hK.out _ _ hs1 (fun hHeld => ?_)
  clear hK K
  refine wpAnyH_take (i := 5) (oi := { dst := some 10, op := _, type := _, pos := _, after := _, guard := _ }) (v := ?v1_5) rfl (by kernel_rfl) (by kernel_rfl) (by kernel_rfl) (fun _ _ _ h => h) (Or.inl ⟨by rfl, ?hy1_5⟩) hHeld ?_
  case hy1_5 => (intro w hSw; (try dsimp only at hSw); go_simp; try with_reducible rfl)
  simp only [Act.put, List.setIfInBounds_toArray, List.set_cons_zero, List.set_cons_succ]
  refine wpAnyH_take (i := 6) (oi := { dst := some 4, op := _, type := _, pos := _, after := _, guard := _ }) (v := ?v1_6) rfl (by kernel_rfl) (by kernel_rfl) (by kernel_rfl) (fun _ _ _ h => h) (Or.inl ⟨by rfl, ?hy1_6⟩) hHeld ?_
  case hy1_6 => (intro w hSw; (try dsimp only at hSw); go_simp; try with_reducible rfl)
  simp only [Act.put, List.setIfInBounds_toArray, List.set_cons_zero, List.set_cons_succ]
  refine wpAnyH_done (by kernel_rfl) ?_ _
  go_wp2_with fail
  go_ret
  exact ⟨rfl, hs1.2.2⟩
set_option maxRecDepth 100000 in
set_option maxHeartbeats 1000000 in
theorem p26nth_go {S : ByteArray} {b : Nat} {x : Sc} {w : World} {i c m d : Int} {y1 y2 y3 y4 : Sc} (h : w.heap[b]? = some (scX S x)) (hT : WTab w) (HW : ∀ u : World, WTab u → Calls Tryz.prog 106 #[] u fun e w' => ∃ g cap, e = .returned (.slice (some ⟨g, 0, none⟩) 7 cap) ∧ StrsIn g cap lWd w' ∧ u.heap.size ≤ g ∧ Below u.heap.size u w') (H1 : ∀ (u : World) (g cap : Nat), u.heap[b]? = some (scX S x) → StrsIn g cap lWd u → g ≠ b → Calls Tryz.prog 67 #[pv b, .slice (some ⟨g, 0, none⟩) 7 cap] u fun r w' => r = .returned (.int .i64 i) ∧ w'.heap[b]? = some (scX S y1) ∧ Bt b u w') (H2 : ∀ u : World, u.heap[b]? = some (scX S y1) → Calls Tryz.prog 39 #[pv b, .string wSp] u fun r w' => r = .returned (.int .i64 c) ∧ w'.heap[b]? = some (scX S y2) ∧ Bt b u w') (H3 : ∀ u : World, u.heap[b]? = some (scX S y2) → Calls Tryz.prog 39 #[pv b, .string wSp] u fun r w' => r = .returned (.int .i64 m) ∧ w'.heap[b]? = some (scX S y3) ∧ Bt b u w') (H4 : ∀ u : World, u.heap[b]? = some (scX S y3) → Calls Tryz.prog 39 #[pv b, .string wLf] u fun r w' => r = .returned (.int .i64 d) ∧ w'.heap[b]? = some (scX S y4) ∧ Bt b u w') :
    Calls Tryz.prog 91 #[pv b] w fun r w' => r = .returned (.agg #[.int .i64 3, .int .i64 m, .int .i64 d, .int .i64 0, .int .i64 i, .int .i64 c]) ∧ w'.heap[b]? = some (scX S y4) ∧ Bt b w w' := by
  have HW := Lib.hid HW
  have H1 := Lib.hid H1
  have H2 := Lib.hid H2
  have H3 := Lib.hid H3
  have H4 := Lib.hid H4
  go_enter Tryz.func91, Tryz.ntmps91
  go_wp2_with fail
  obtain ⟨u, hu⟩ : ∃ u, u = (((w.alloc (.cells #[xp b] 47)).alloc (.cells #[.int .i64 0, .int .i64 0, .int .i64 0, .int .i64 0, .int .i64 0, .int .i64 0] 39)).alloc (.cells #[.int .i64 3, .int .i64 0, .int .i64 0, .int .i64 0, .int .i64 0, .int .i64 0] 39)) := ⟨_, rfl⟩
  have B0 : Below w.heap.size w u := hu ▸ al3 w _ _ _
  have rs := row_kept h B0
  have rP : u.heap[w.heap.size]? = some (.cells #[xp b] 47 (0, 0)) := hu ▸ row_on (heap_alloc_new _ _) (al2 _ _ _)
  have rR : u.heap[w.heap.size + 1]? = some (.cells #[.int .i64 0, .int .i64 0, .int .i64 0, .int .i64 0, .int .i64 0, .int .i64 0] 39 (0, 0)) := hu ▸ row_on (row_new1 _ _ _) (al1 _ _)
  have rQ : u.heap[w.heap.size + 1 + 1]? = some (.cells #[.int .i64 3, .int .i64 0, .int .i64 0, .int .i64 0, .int .i64 0, .int .i64 0] 39 (0, 0)) := hu ▸ row_new2 _ _ _ _
  rw [← hu]
  clear hu
  have hb := Bt.of_below (b := b) B0
  generalize hP : w.heap.size = P at *
  generalize hR : P + 1 = R at *
  generalize hQ : R + 1 = Q at *
  have lb : b < P := by have := row_lt h; omega
  have HT := Lib.hid ((hT.below B0 (by have := hT.heap; omega)).on (below_dn (Below.refl _ _) 1))
  clear hT
  have Hs := Lib.hid (show (u).drew.cell? ⟨P, 0, none⟩ = some (xp b) from by rw [cell_of_row (u).drew P 0 _ _ _ rP]; rfl)
  refine wp_region_held_drew (S := fun u => u.cell? ⟨P, 0, none⟩ = some (xp b)) (by kernel_rfl) Hs.out (fun hHeld => ?_)
  refine wpAnyH_take (i := 0) (oi := { dst := some 5, op := _, type := _, pos := _, after := _, guard := _ }) (v := ?v2_0) rfl (by kernel_rfl) (by kernel_rfl) (by kernel_rfl) (fun _ _ _ h => h) (Or.inl ⟨by rfl, ?hy2_0⟩) hHeld ?_
  case hy2_0 => (intro w hSw; (try dsimp only at hSw); go_simp; try with_reducible rfl)
  simp only [Act.put, List.setIfInBounds_toArray, List.set_cons_zero, List.set_cons_succ]
  refine wpAnyH_ready (rs := [1]) (by kernel_rfl) (by simp) ?_
  refine AllReadyH.cons (o := { dst := some 6, op := _, type := _, pos := _, after := _, guard := _ }) rfl (fun K hK => ?_) AllReadyH.nil
  go_simp
  go_at_call 106
  refine (HW.out _ HT.out).mono ?_
  rintro ee1 v1 ⟨g1, cap1, rfl, hI1, hg1, q1⟩
  refine hK.out _ _ (cell_below Hs.out q1) (fun hHeld => ?_)
  clear hK K
  have vP1 := row_kept (show (u).drew.heap[P]? = _ from rP) q1
  have vR1 := row_kept (show (u).drew.heap[R]? = _ from rR) q1
  have vQ1 := row_kept (show (u).drew.heap[Q]? = _ from rQ) q1
  have vs1 := row_kept (show (u).drew.heap[b]? = _ from rs) q1
  have vb1 := hb.drew.trans (Bt.of_below q1)
  refine wpAnyH_ready (rs := [2]) (by kernel_rfl) (by simp) ?_
  refine AllReadyH.cons (o := { dst := some 7, op := _, type := _, pos := _, after := _, guard := _ }) rfl (fun K hK => ?_) AllReadyH.nil
  go_simp
  go_at_call 67
  refine (H1.out v1 g1 cap1 vs1 hI1 (by have : (u.drewN 1).heap.size = u.heap.size := rfl; have := row_lt rs; omega)).mono ?_
  rintro ee2 v2 ⟨rfl, vs2, q2⟩
  refine hK.out _ _ (q2.cell (show P ≠ b by omega) (cell_below Hs.out q1)) (fun hHeld => ?_)
  clear hK K
  have vP2 := q2.row (show P ≠ b by omega) vP1
  have vR2 := q2.row (show R ≠ b by omega) vR1
  have vQ2 := q2.row (show Q ≠ b by omega) vQ1
  have vb2 := vb1.trans q2
  refine wpAnyH_take (i := 3) (oi := { dst := some 8, op := _, type := _, pos := _, after := _, guard := _ }) (v := ?v2_3) rfl (by kernel_rfl) (by kernel_rfl) (by kernel_rfl) (fun _ _ _ h => h) (Or.inl ⟨by rfl, ?hy2_3⟩) hHeld ?_
  case hy2_3 => (intro w hSw; (try dsimp only at hSw); go_simp; try with_reducible rfl)
  simp only [Act.put, List.setIfInBounds_toArray, List.set_cons_zero, List.set_cons_succ]
  have cQ4_10 : v2.cell? ⟨Q, 4, none⟩ = some (.int .i64 0) := by rw [cell_of_row _ Q 4 _ _ _ vQ2]; rfl
  have fQ4_10 : v2.frozen? ⟨Q, 4, none⟩ = false := frozen_of_row _ Q 4 _ _ vQ2
  have t1 : Bt Q v2 (v2.setCell ⟨Q, 4, none⟩ (.int .i64 i)) := Bt.sets Q [(.int .i64 i)] 4 v2
  have pQ1 : (v2.setCell ⟨Q, 4, none⟩ (.int .i64 i)).heap[Q]? = some (.cells #[.int .i64 3, .int .i64 0, .int .i64 0, .int .i64 0, .int .i64 i, .int .i64 0] 39 (0, 0)) := heap_setCell_same _ Q 4 _ _ _ vQ2
  have pP1 := t1.row (show P ≠ Q by omega) vP2
  have pR1 := t1.row (show R ≠ Q by omega) vR2
  have ps1 := t1.row (show b ≠ Q by omega) vs2
  have hbp1 := vb2.over t1 (show w.heap.size ≤ Q by omega)
  have cP0_11 : (v2.setCell ⟨Q, 4, none⟩ (.int .i64 i)).cell? ⟨P, 0, none⟩ = some (xp b) := by rw [cell_of_row _ P 0 _ _ _ pP1]; rfl
  refine wpAnyH_ready (rs := [4]) (by kernel_rfl) (by simp) ?_
  refine AllReadyH.cons (o := { dst := none, op := _, type := _, pos := _, after := _, guard := _ }) rfl (fun K hK => ?_) AllReadyH.nil
  go_simp
  refine hK.out _ _ (by rw [cell_of_row _ P 0 _ _ _ pP1]; rfl) (fun hHeld => ?_)
  clear hK K
  refine wpAnyH_done (by kernel_rfl) ?_ _
  go_wp2_with fail
  refine (H2.out (v2.setCell ⟨Q, 4, none⟩ (.int .i64 i)) ps1).mono ?_
  clear cQ4_10 fQ4_10 cP0_11
  rintro e12 w12 ⟨rfl, rs12, g12⟩
  have rP_12 := g12.row (show P ≠ b by omega) pP1
  have rR_12 := g12.row (show R ≠ b by omega) pR1
  have rQ_12 := g12.row (show Q ≠ b by omega) pQ1
  have hb12 := hbp1.trans g12
  have cQ5_12 : w12.cell? ⟨Q, 5, none⟩ = some (.int .i64 0) := by rw [cell_of_row _ Q 5 _ _ _ rQ_12]; rfl
  have fQ5_12 : w12.frozen? ⟨Q, 5, none⟩ = false := frozen_of_row _ Q 5 _ _ rQ_12
  have t2 : Bt Q w12 (w12.setCell ⟨Q, 5, none⟩ (.int .i64 c)) := Bt.sets Q [(.int .i64 c)] 5 w12
  have pQ2 : (w12.setCell ⟨Q, 5, none⟩ (.int .i64 c)).heap[Q]? = some (.cells #[.int .i64 3, .int .i64 0, .int .i64 0, .int .i64 0, .int .i64 i, .int .i64 c] 39 (0, 0)) := heap_setCell_same _ Q 5 _ _ _ rQ_12
  have pP2 := t2.row (show P ≠ Q by omega) rP_12
  have pR2 := t2.row (show R ≠ Q by omega) rR_12
  have ps2 := t2.row (show b ≠ Q by omega) rs12
  have hbp2 := hb12.over t2 (show w.heap.size ≤ Q by omega)
  have cP0_13 : (w12.setCell ⟨Q, 5, none⟩ (.int .i64 c)).cell? ⟨P, 0, none⟩ = some (xp b) := by rw [cell_of_row _ P 0 _ _ _ pP2]; rfl
  go_wp2_with fail
  refine (H3.out (w12.setCell ⟨Q, 5, none⟩ (.int .i64 c)) ps2).mono ?_
  clear cQ5_12 fQ5_12 cP0_13
  rintro e14 w14 ⟨rfl, rs14, g14⟩
  have rP_14 := g14.row (show P ≠ b by omega) pP2
  have rR_14 := g14.row (show R ≠ b by omega) pR2
  have rQ_14 := g14.row (show Q ≠ b by omega) pQ2
  have hb14 := hbp2.trans g14
  have cQ1_14 : w14.cell? ⟨Q, 1, none⟩ = some (.int .i64 0) := by rw [cell_of_row _ Q 1 _ _ _ rQ_14]; rfl
  have fQ1_14 : w14.frozen? ⟨Q, 1, none⟩ = false := frozen_of_row _ Q 1 _ _ rQ_14
  have t3 : Bt Q w14 (w14.setCell ⟨Q, 1, none⟩ (.int .i64 m)) := Bt.sets Q [(.int .i64 m)] 1 w14
  have pQ3 : (w14.setCell ⟨Q, 1, none⟩ (.int .i64 m)).heap[Q]? = some (.cells #[.int .i64 3, .int .i64 m, .int .i64 0, .int .i64 0, .int .i64 i, .int .i64 c] 39 (0, 0)) := heap_setCell_same _ Q 1 _ _ _ rQ_14
  have pP3 := t3.row (show P ≠ Q by omega) rP_14
  have pR3 := t3.row (show R ≠ Q by omega) rR_14
  have ps3 := t3.row (show b ≠ Q by omega) rs14
  have hbp3 := hb14.over t3 (show w.heap.size ≤ Q by omega)
  have cP0_15 : (w14.setCell ⟨Q, 1, none⟩ (.int .i64 m)).cell? ⟨P, 0, none⟩ = some (xp b) := by rw [cell_of_row _ P 0 _ _ _ pP3]; rfl
  go_wp2_with fail
  refine (H4.out (w14.setCell ⟨Q, 1, none⟩ (.int .i64 m)) ps3).mono ?_
  clear cQ1_14 fQ1_14 cP0_15
  rintro e16 w16 ⟨rfl, rs16, g16⟩
  have rP_16 := g16.row (show P ≠ b by omega) pP3
  have rR_16 := g16.row (show R ≠ b by omega) pR3
  have rQ_16 := g16.row (show Q ≠ b by omega) pQ3
  have hb16 := hbp3.trans g16
  have cQ2_16 : w16.cell? ⟨Q, 2, none⟩ = some (.int .i64 0) := by rw [cell_of_row _ Q 2 _ _ _ rQ_16]; rfl
  have fQ2_16 : w16.frozen? ⟨Q, 2, none⟩ = false := frozen_of_row _ Q 2 _ _ rQ_16
  have t4 : Bt Q w16 (w16.setCell ⟨Q, 2, none⟩ (.int .i64 d)) := Bt.sets Q [(.int .i64 d)] 2 w16
  have pQ4 : (w16.setCell ⟨Q, 2, none⟩ (.int .i64 d)).heap[Q]? = some (.cells #[.int .i64 3, .int .i64 m, .int .i64 d, .int .i64 0, .int .i64 i, .int .i64 c] 39 (0, 0)) := heap_setCell_same _ Q 2 _ _ _ rQ_16
  have pP4 := t4.row (show P ≠ Q by omega) rP_16
  have pR4 := t4.row (show R ≠ Q by omega) rR_16
  have ps4 := t4.row (show b ≠ Q by omega) rs16
  have hbp4 := hb16.over t4 (show w.heap.size ≤ Q by omega)
  have cQ0_17 : (w16.setCell ⟨Q, 2, none⟩ (.int .i64 d)).cell? ⟨Q, 0, none⟩ = some (.int .i64 3) := by rw [cell_of_row _ Q 0 _ _ _ pQ4]; rfl
  have cQ1_17 : (w16.setCell ⟨Q, 2, none⟩ (.int .i64 d)).cell? ⟨Q, 1, none⟩ = some (.int .i64 m) := by rw [cell_of_row _ Q 1 _ _ _ pQ4]; rfl
  have cQ2_17 : (w16.setCell ⟨Q, 2, none⟩ (.int .i64 d)).cell? ⟨Q, 2, none⟩ = some (.int .i64 d) := by rw [cell_of_row _ Q 2 _ _ _ pQ4]; rfl
  have cQ3_17 : (w16.setCell ⟨Q, 2, none⟩ (.int .i64 d)).cell? ⟨Q, 3, none⟩ = some (.int .i64 0) := by rw [cell_of_row _ Q 3 _ _ _ pQ4]; rfl
  have cQ4_17 : (w16.setCell ⟨Q, 2, none⟩ (.int .i64 d)).cell? ⟨Q, 4, none⟩ = some (.int .i64 i) := by rw [cell_of_row _ Q 4 _ _ _ pQ4]; rfl
  have cQ5_17 : (w16.setCell ⟨Q, 2, none⟩ (.int .i64 d)).cell? ⟨Q, 5, none⟩ = some (.int .i64 c) := by rw [cell_of_row _ Q 5 _ _ _ pQ4]; rfl
  have cR0_17 : (w16.setCell ⟨Q, 2, none⟩ (.int .i64 d)).cell? ⟨R, 0, none⟩ = some (.int .i64 0) := by rw [cell_of_row _ R 0 _ _ _ pR4]; rfl
  have fR0_17 : (w16.setCell ⟨Q, 2, none⟩ (.int .i64 d)).frozen? ⟨R, 0, none⟩ = false := frozen_of_row _ R 0 _ _ pR4
  have cR1_17 : (w16.setCell ⟨Q, 2, none⟩ (.int .i64 d)).cell? ⟨R, 1, none⟩ = some (.int .i64 0) := by rw [cell_of_row _ R 1 _ _ _ pR4]; rfl
  have fR1_17 : (w16.setCell ⟨Q, 2, none⟩ (.int .i64 d)).frozen? ⟨R, 1, none⟩ = false := frozen_of_row _ R 1 _ _ pR4
  have cR2_17 : (w16.setCell ⟨Q, 2, none⟩ (.int .i64 d)).cell? ⟨R, 2, none⟩ = some (.int .i64 0) := by rw [cell_of_row _ R 2 _ _ _ pR4]; rfl
  have fR2_17 : (w16.setCell ⟨Q, 2, none⟩ (.int .i64 d)).frozen? ⟨R, 2, none⟩ = false := frozen_of_row _ R 2 _ _ pR4
  have cR3_17 : (w16.setCell ⟨Q, 2, none⟩ (.int .i64 d)).cell? ⟨R, 3, none⟩ = some (.int .i64 0) := by rw [cell_of_row _ R 3 _ _ _ pR4]; rfl
  have fR3_17 : (w16.setCell ⟨Q, 2, none⟩ (.int .i64 d)).frozen? ⟨R, 3, none⟩ = false := frozen_of_row _ R 3 _ _ pR4
  have cR4_17 : (w16.setCell ⟨Q, 2, none⟩ (.int .i64 d)).cell? ⟨R, 4, none⟩ = some (.int .i64 0) := by rw [cell_of_row _ R 4 _ _ _ pR4]; rfl
  have fR4_17 : (w16.setCell ⟨Q, 2, none⟩ (.int .i64 d)).frozen? ⟨R, 4, none⟩ = false := frozen_of_row _ R 4 _ _ pR4
  have cR5_17 : (w16.setCell ⟨Q, 2, none⟩ (.int .i64 d)).cell? ⟨R, 5, none⟩ = some (.int .i64 0) := by rw [cell_of_row _ R 5 _ _ _ pR4]; rfl
  have fR5_17 : (w16.setCell ⟨Q, 2, none⟩ (.int .i64 d)).frozen? ⟨R, 5, none⟩ = false := frozen_of_row _ R 5 _ _ pR4
  have t5 : Bt R (w16.setCell ⟨Q, 2, none⟩ (.int .i64 d)) (((((((w16.setCell ⟨Q, 2, none⟩ (.int .i64 d)).setCell ⟨R, 0, none⟩ (.int .i64 3)).setCell ⟨R, 1, none⟩ (.int .i64 m)).setCell ⟨R, 2, none⟩ (.int .i64 d)).setCell ⟨R, 3, none⟩ (.int .i64 0)).setCell ⟨R, 4, none⟩ (.int .i64 i)).setCell ⟨R, 5, none⟩ (.int .i64 c)) := Bt.sets R [(.int .i64 3), (.int .i64 m), (.int .i64 d), (.int .i64 0), (.int .i64 i), (.int .i64 c)] 0 (w16.setCell ⟨Q, 2, none⟩ (.int .i64 d))
  have pR5 : (((((((w16.setCell ⟨Q, 2, none⟩ (.int .i64 d)).setCell ⟨R, 0, none⟩ (.int .i64 3)).setCell ⟨R, 1, none⟩ (.int .i64 m)).setCell ⟨R, 2, none⟩ (.int .i64 d)).setCell ⟨R, 3, none⟩ (.int .i64 0)).setCell ⟨R, 4, none⟩ (.int .i64 i)).setCell ⟨R, 5, none⟩ (.int .i64 c)).heap[R]? = some (.cells #[.int .i64 3, .int .i64 m, .int .i64 d, .int .i64 0, .int .i64 i, .int .i64 c] 39 (0, 0)) := anc_all (.int .i64 3) (.int .i64 m) (.int .i64 d) (.int .i64 0) (.int .i64 i) (.int .i64 c) pR4
  have pP5 := t5.row (show P ≠ R by omega) pP4
  have pQ5 := t5.row (show Q ≠ R by omega) pQ4
  have ps5 := t5.row (show b ≠ R by omega) ps4
  have hbp5 := hbp4.over t5 (show w.heap.size ≤ R by omega)
  go_wp2_with fail
  obtain ⟨u9, hu9⟩ : ∃ u9, u9 = (((((((w16.setCell ⟨Q, 2, none⟩ (.int .i64 d)).setCell ⟨R, 0, none⟩ (.int .i64 3)).setCell ⟨R, 1, none⟩ (.int .i64 m)).setCell ⟨R, 2, none⟩ (.int .i64 d)).setCell ⟨R, 3, none⟩ (.int .i64 0)).setCell ⟨R, 4, none⟩ (.int .i64 i)).setCell ⟨R, 5, none⟩ (.int .i64 c)) := ⟨_, rfl⟩
  rw [← hu9] at pR5 ps5 hbp5 ⊢
  have k0 : u9.cell? ⟨R, 0, none⟩ = some (.int .i64 3) := by rw [cell_of_row _ R 0 _ _ _ pR5]; rfl
  have k1 : u9.cell? ⟨R, 1, none⟩ = some (.int .i64 m) := by rw [cell_of_row _ R 1 _ _ _ pR5]; rfl
  have k2 : u9.cell? ⟨R, 2, none⟩ = some (.int .i64 d) := by rw [cell_of_row _ R 2 _ _ _ pR5]; rfl
  have k3 : u9.cell? ⟨R, 3, none⟩ = some (.int .i64 0) := by rw [cell_of_row _ R 3 _ _ _ pR5]; rfl
  have k4 : u9.cell? ⟨R, 4, none⟩ = some (.int .i64 i) := by rw [cell_of_row _ R 4 _ _ _ pR5]; rfl
  have k5 : u9.cell? ⟨R, 5, none⟩ = some (.int .i64 c) := by rw [cell_of_row _ R 5 _ _ _ pR5]; rfl
  exact bodyPost_ret (v := .agg #[.int .i64 3, .int .i64 m, .int .i64 d, .int .i64 0, .int .i64 i, .int .i64 c]) (by simp [results, Tryz.results91, go_sem, k0, k1, k2, k3, k4, k5]) rfl ⟨rfl, ps5, hbp5⟩
set_option maxRecDepth 100000 in
set_option maxHeartbeats 1000000 in
theorem p26anc_go0 {S : ByteArray} {b : Nat} {x : Sc} {w : World} {k m d o q c : Int} {y1 y2 : Sc} (h : w.heap[b]? = some (scX S x)) (H1 : ∀ u : World, u.heap[b]? = some (scX S x) → Calls Tryz.prog 67 #[pv b, .slice (some ⟨u.heap.size, 0, none⟩) 3 3] (u.alloc (.cells #[.string ⟨#[102, 105, 120, 101, 100]⟩, .string ⟨#[101, 97, 115, 116, 101, 114]⟩, .string ⟨#[110, 116, 104]⟩] 9)) fun r w' => r = .returned (.int .i64 0) ∧ w'.heap[b]? = some (scX S y1) ∧ Bt b u w') (H2 : ∀ u : World, u.heap[b]? = some (scX S y1) → Calls Tryz.prog 89 #[pv b] u fun r w' => r = .returned (.agg #[.int .i64 k, .int .i64 m, .int .i64 d, .int .i64 o, .int .i64 q, .int .i64 c]) ∧ w'.heap[b]? = some (scX S y2) ∧ Bt b u w') :
    Calls Tryz.prog 66 #[pv b] w fun r w' => r = .returned (.agg #[.int .i64 k, .int .i64 m, .int .i64 d, .int .i64 o, .int .i64 q, .int .i64 c]) ∧ w'.heap[b]? = some (scX S y2) ∧ Bt b w w' := by
  have H1 := Lib.hid H1
  have H2 := Lib.hid H2
  go_enter Tryz.func66, Tryz.ntmps66
  go_wp2_with fail
  obtain ⟨u, hu⟩ : ∃ u, u = ((w.alloc (.cells #[xp b] 47)).alloc (.cells #[.int .i64 0, .int .i64 0, .int .i64 0, .int .i64 0, .int .i64 0, .int .i64 0] 39)) := ⟨_, rfl⟩
  have B0 : Below w.heap.size w u := hu ▸ al2 w _ _
  have rs := row_kept h B0
  have rP : u.heap[w.heap.size]? = some (.cells #[xp b] 47 (0, 0)) := hu ▸ row_on (heap_alloc_new _ _) (al1 _ _)
  have rR : u.heap[w.heap.size + 1]? = some (.cells #[.int .i64 0, .int .i64 0, .int .i64 0, .int .i64 0, .int .i64 0, .int .i64 0] 39 (0, 0)) := hu ▸ row_new1 _ _ _
  have hz : w.heap.size + 1 + 1 = u.heap.size := by rw [hu]; simp
  rw [← hu]
  clear hu
  have hb := Bt.of_below (b := b) B0
  generalize hP : w.heap.size = P at *
  generalize hR : P + 1 = R at *
  have lb : b < P := by have := row_lt h; omega
  rw [hz]
  clear hz
  have cP0_0 : u.cell? ⟨P, 0, none⟩ = some (xp b) := by rw [cell_of_row _ P 0 _ _ _ rP]; rfl
  refine (H1.out u rs).mono ?_
  clear cP0_0
  rintro e1 w1 ⟨rfl, rs1, g1⟩
  have rP_1 := g1.row (show P ≠ b by omega) rP
  have rR_1 := g1.row (show R ≠ b by omega) rR
  have hb1 := hb.trans g1
  have cP0_1 : w1.cell? ⟨P, 0, none⟩ = some (xp b) := by rw [cell_of_row _ P 0 _ _ _ rP_1]; rfl
  go_wp2_with fail
  refine (H2.out w1 rs1).mono ?_
  clear cP0_1
  rintro e2 w2 ⟨rfl, rs2, g2⟩
  have rP_2 := g2.row (show P ≠ b by omega) rP_1
  have rR_2 := g2.row (show R ≠ b by omega) rR_1
  have hb2 := hb1.trans g2
  have cR0_2 : w2.cell? ⟨R, 0, none⟩ = some (.int .i64 0) := by rw [cell_of_row _ R 0 _ _ _ rR_2]; rfl
  have fR0_2 : w2.frozen? ⟨R, 0, none⟩ = false := frozen_of_row _ R 0 _ _ rR_2
  have cR1_2 : w2.cell? ⟨R, 1, none⟩ = some (.int .i64 0) := by rw [cell_of_row _ R 1 _ _ _ rR_2]; rfl
  have fR1_2 : w2.frozen? ⟨R, 1, none⟩ = false := frozen_of_row _ R 1 _ _ rR_2
  have cR2_2 : w2.cell? ⟨R, 2, none⟩ = some (.int .i64 0) := by rw [cell_of_row _ R 2 _ _ _ rR_2]; rfl
  have fR2_2 : w2.frozen? ⟨R, 2, none⟩ = false := frozen_of_row _ R 2 _ _ rR_2
  have cR3_2 : w2.cell? ⟨R, 3, none⟩ = some (.int .i64 0) := by rw [cell_of_row _ R 3 _ _ _ rR_2]; rfl
  have fR3_2 : w2.frozen? ⟨R, 3, none⟩ = false := frozen_of_row _ R 3 _ _ rR_2
  have cR4_2 : w2.cell? ⟨R, 4, none⟩ = some (.int .i64 0) := by rw [cell_of_row _ R 4 _ _ _ rR_2]; rfl
  have fR4_2 : w2.frozen? ⟨R, 4, none⟩ = false := frozen_of_row _ R 4 _ _ rR_2
  have cR5_2 : w2.cell? ⟨R, 5, none⟩ = some (.int .i64 0) := by rw [cell_of_row _ R 5 _ _ _ rR_2]; rfl
  have fR5_2 : w2.frozen? ⟨R, 5, none⟩ = false := frozen_of_row _ R 5 _ _ rR_2
  have t1 : Bt R w2 ((((((w2.setCell ⟨R, 0, none⟩ (.int .i64 k)).setCell ⟨R, 1, none⟩ (.int .i64 m)).setCell ⟨R, 2, none⟩ (.int .i64 d)).setCell ⟨R, 3, none⟩ (.int .i64 o)).setCell ⟨R, 4, none⟩ (.int .i64 q)).setCell ⟨R, 5, none⟩ (.int .i64 c)) := Bt.sets R [(.int .i64 k), (.int .i64 m), (.int .i64 d), (.int .i64 o), (.int .i64 q), (.int .i64 c)] 0 w2
  have pR1 : ((((((w2.setCell ⟨R, 0, none⟩ (.int .i64 k)).setCell ⟨R, 1, none⟩ (.int .i64 m)).setCell ⟨R, 2, none⟩ (.int .i64 d)).setCell ⟨R, 3, none⟩ (.int .i64 o)).setCell ⟨R, 4, none⟩ (.int .i64 q)).setCell ⟨R, 5, none⟩ (.int .i64 c)).heap[R]? = some (.cells #[.int .i64 k, .int .i64 m, .int .i64 d, .int .i64 o, .int .i64 q, .int .i64 c] 39 (0, 0)) := anc_all (.int .i64 k) (.int .i64 m) (.int .i64 d) (.int .i64 o) (.int .i64 q) (.int .i64 c) rR_2
  have pP1 := t1.row (show P ≠ R by omega) rP_2
  have ps1 := t1.row (show b ≠ R by omega) rs2
  have hbp1 := hb2.over t1 (show w.heap.size ≤ R by omega)
  go_wp2_with fail
  obtain ⟨u9, hu9⟩ : ∃ u9, u9 = ((((((w2.setCell ⟨R, 0, none⟩ (.int .i64 k)).setCell ⟨R, 1, none⟩ (.int .i64 m)).setCell ⟨R, 2, none⟩ (.int .i64 d)).setCell ⟨R, 3, none⟩ (.int .i64 o)).setCell ⟨R, 4, none⟩ (.int .i64 q)).setCell ⟨R, 5, none⟩ (.int .i64 c)) := ⟨_, rfl⟩
  rw [← hu9] at pR1 ps1 hbp1 ⊢
  have k0 : u9.cell? ⟨R, 0, none⟩ = some (.int .i64 k) := by rw [cell_of_row _ R 0 _ _ _ pR1]; rfl
  have k1 : u9.cell? ⟨R, 1, none⟩ = some (.int .i64 m) := by rw [cell_of_row _ R 1 _ _ _ pR1]; rfl
  have k2 : u9.cell? ⟨R, 2, none⟩ = some (.int .i64 d) := by rw [cell_of_row _ R 2 _ _ _ pR1]; rfl
  have k3 : u9.cell? ⟨R, 3, none⟩ = some (.int .i64 o) := by rw [cell_of_row _ R 3 _ _ _ pR1]; rfl
  have k4 : u9.cell? ⟨R, 4, none⟩ = some (.int .i64 q) := by rw [cell_of_row _ R 4 _ _ _ pR1]; rfl
  have k5 : u9.cell? ⟨R, 5, none⟩ = some (.int .i64 c) := by rw [cell_of_row _ R 5 _ _ _ pR1]; rfl
  exact bodyPost_ret (v := .agg #[.int .i64 k, .int .i64 m, .int .i64 d, .int .i64 o, .int .i64 q, .int .i64 c]) (by simp [results, Tryz.results66, go_sem, k0, k1, k2, k3, k4, k5]) rfl ⟨rfl, ps1, hbp1⟩
set_option maxRecDepth 100000 in
set_option maxHeartbeats 1000000 in
theorem p26anc_go1 {S : ByteArray} {b : Nat} {x : Sc} {w : World} {k m d o q c : Int} {y1 y2 : Sc} (h : w.heap[b]? = some (scX S x)) (H1 : ∀ u : World, u.heap[b]? = some (scX S x) → Calls Tryz.prog 67 #[pv b, .slice (some ⟨u.heap.size, 0, none⟩) 3 3] (u.alloc (.cells #[.string ⟨#[102, 105, 120, 101, 100]⟩, .string ⟨#[101, 97, 115, 116, 101, 114]⟩, .string ⟨#[110, 116, 104]⟩] 9)) fun r w' => r = .returned (.int .i64 1) ∧ w'.heap[b]? = some (scX S y1) ∧ Bt b u w') (H2 : ∀ u : World, u.heap[b]? = some (scX S y1) → Calls Tryz.prog 90 #[pv b] u fun r w' => r = .returned (.agg #[.int .i64 k, .int .i64 m, .int .i64 d, .int .i64 o, .int .i64 q, .int .i64 c]) ∧ w'.heap[b]? = some (scX S y2) ∧ Bt b u w') :
    Calls Tryz.prog 66 #[pv b] w fun r w' => r = .returned (.agg #[.int .i64 k, .int .i64 m, .int .i64 d, .int .i64 o, .int .i64 q, .int .i64 c]) ∧ w'.heap[b]? = some (scX S y2) ∧ Bt b w w' := by
  have H1 := Lib.hid H1
  have H2 := Lib.hid H2
  go_enter Tryz.func66, Tryz.ntmps66
  go_wp2_with fail
  obtain ⟨u, hu⟩ : ∃ u, u = ((w.alloc (.cells #[xp b] 47)).alloc (.cells #[.int .i64 0, .int .i64 0, .int .i64 0, .int .i64 0, .int .i64 0, .int .i64 0] 39)) := ⟨_, rfl⟩
  have B0 : Below w.heap.size w u := hu ▸ al2 w _ _
  have rs := row_kept h B0
  have rP : u.heap[w.heap.size]? = some (.cells #[xp b] 47 (0, 0)) := hu ▸ row_on (heap_alloc_new _ _) (al1 _ _)
  have rR : u.heap[w.heap.size + 1]? = some (.cells #[.int .i64 0, .int .i64 0, .int .i64 0, .int .i64 0, .int .i64 0, .int .i64 0] 39 (0, 0)) := hu ▸ row_new1 _ _ _
  have hz : w.heap.size + 1 + 1 = u.heap.size := by rw [hu]; simp
  rw [← hu]
  clear hu
  have hb := Bt.of_below (b := b) B0
  generalize hP : w.heap.size = P at *
  generalize hR : P + 1 = R at *
  have lb : b < P := by have := row_lt h; omega
  rw [hz]
  clear hz
  have cP0_0 : u.cell? ⟨P, 0, none⟩ = some (xp b) := by rw [cell_of_row _ P 0 _ _ _ rP]; rfl
  refine (H1.out u rs).mono ?_
  clear cP0_0
  rintro e1 w1 ⟨rfl, rs1, g1⟩
  have rP_1 := g1.row (show P ≠ b by omega) rP
  have rR_1 := g1.row (show R ≠ b by omega) rR
  have hb1 := hb.trans g1
  have cP0_1 : w1.cell? ⟨P, 0, none⟩ = some (xp b) := by rw [cell_of_row _ P 0 _ _ _ rP_1]; rfl
  go_wp2_with fail
  refine (H2.out w1 rs1).mono ?_
  clear cP0_1
  rintro e2 w2 ⟨rfl, rs2, g2⟩
  have rP_2 := g2.row (show P ≠ b by omega) rP_1
  have rR_2 := g2.row (show R ≠ b by omega) rR_1
  have hb2 := hb1.trans g2
  have cR0_2 : w2.cell? ⟨R, 0, none⟩ = some (.int .i64 0) := by rw [cell_of_row _ R 0 _ _ _ rR_2]; rfl
  have fR0_2 : w2.frozen? ⟨R, 0, none⟩ = false := frozen_of_row _ R 0 _ _ rR_2
  have cR1_2 : w2.cell? ⟨R, 1, none⟩ = some (.int .i64 0) := by rw [cell_of_row _ R 1 _ _ _ rR_2]; rfl
  have fR1_2 : w2.frozen? ⟨R, 1, none⟩ = false := frozen_of_row _ R 1 _ _ rR_2
  have cR2_2 : w2.cell? ⟨R, 2, none⟩ = some (.int .i64 0) := by rw [cell_of_row _ R 2 _ _ _ rR_2]; rfl
  have fR2_2 : w2.frozen? ⟨R, 2, none⟩ = false := frozen_of_row _ R 2 _ _ rR_2
  have cR3_2 : w2.cell? ⟨R, 3, none⟩ = some (.int .i64 0) := by rw [cell_of_row _ R 3 _ _ _ rR_2]; rfl
  have fR3_2 : w2.frozen? ⟨R, 3, none⟩ = false := frozen_of_row _ R 3 _ _ rR_2
  have cR4_2 : w2.cell? ⟨R, 4, none⟩ = some (.int .i64 0) := by rw [cell_of_row _ R 4 _ _ _ rR_2]; rfl
  have fR4_2 : w2.frozen? ⟨R, 4, none⟩ = false := frozen_of_row _ R 4 _ _ rR_2
  have cR5_2 : w2.cell? ⟨R, 5, none⟩ = some (.int .i64 0) := by rw [cell_of_row _ R 5 _ _ _ rR_2]; rfl
  have fR5_2 : w2.frozen? ⟨R, 5, none⟩ = false := frozen_of_row _ R 5 _ _ rR_2
  have t1 : Bt R w2 ((((((w2.setCell ⟨R, 0, none⟩ (.int .i64 k)).setCell ⟨R, 1, none⟩ (.int .i64 m)).setCell ⟨R, 2, none⟩ (.int .i64 d)).setCell ⟨R, 3, none⟩ (.int .i64 o)).setCell ⟨R, 4, none⟩ (.int .i64 q)).setCell ⟨R, 5, none⟩ (.int .i64 c)) := Bt.sets R [(.int .i64 k), (.int .i64 m), (.int .i64 d), (.int .i64 o), (.int .i64 q), (.int .i64 c)] 0 w2
  have pR1 : ((((((w2.setCell ⟨R, 0, none⟩ (.int .i64 k)).setCell ⟨R, 1, none⟩ (.int .i64 m)).setCell ⟨R, 2, none⟩ (.int .i64 d)).setCell ⟨R, 3, none⟩ (.int .i64 o)).setCell ⟨R, 4, none⟩ (.int .i64 q)).setCell ⟨R, 5, none⟩ (.int .i64 c)).heap[R]? = some (.cells #[.int .i64 k, .int .i64 m, .int .i64 d, .int .i64 o, .int .i64 q, .int .i64 c] 39 (0, 0)) := anc_all (.int .i64 k) (.int .i64 m) (.int .i64 d) (.int .i64 o) (.int .i64 q) (.int .i64 c) rR_2
  have pP1 := t1.row (show P ≠ R by omega) rP_2
  have ps1 := t1.row (show b ≠ R by omega) rs2
  have hbp1 := hb2.over t1 (show w.heap.size ≤ R by omega)
  go_wp2_with fail
  obtain ⟨u9, hu9⟩ : ∃ u9, u9 = ((((((w2.setCell ⟨R, 0, none⟩ (.int .i64 k)).setCell ⟨R, 1, none⟩ (.int .i64 m)).setCell ⟨R, 2, none⟩ (.int .i64 d)).setCell ⟨R, 3, none⟩ (.int .i64 o)).setCell ⟨R, 4, none⟩ (.int .i64 q)).setCell ⟨R, 5, none⟩ (.int .i64 c)) := ⟨_, rfl⟩
  rw [← hu9] at pR1 ps1 hbp1 ⊢
  have k0 : u9.cell? ⟨R, 0, none⟩ = some (.int .i64 k) := by rw [cell_of_row _ R 0 _ _ _ pR1]; rfl
  have k1 : u9.cell? ⟨R, 1, none⟩ = some (.int .i64 m) := by rw [cell_of_row _ R 1 _ _ _ pR1]; rfl
  have k2 : u9.cell? ⟨R, 2, none⟩ = some (.int .i64 d) := by rw [cell_of_row _ R 2 _ _ _ pR1]; rfl
  have k3 : u9.cell? ⟨R, 3, none⟩ = some (.int .i64 o) := by rw [cell_of_row _ R 3 _ _ _ pR1]; rfl
  have k4 : u9.cell? ⟨R, 4, none⟩ = some (.int .i64 q) := by rw [cell_of_row _ R 4 _ _ _ pR1]; rfl
  have k5 : u9.cell? ⟨R, 5, none⟩ = some (.int .i64 c) := by rw [cell_of_row _ R 5 _ _ _ pR1]; rfl
  exact bodyPost_ret (v := .agg #[.int .i64 k, .int .i64 m, .int .i64 d, .int .i64 o, .int .i64 q, .int .i64 c]) (by simp [results, Tryz.results66, go_sem, k0, k1, k2, k3, k4, k5]) rfl ⟨rfl, ps1, hbp1⟩
set_option maxRecDepth 100000 in
set_option maxHeartbeats 1000000 in
theorem p26anc_go2 {S : ByteArray} {b : Nat} {x : Sc} {w : World} {k m d o q c : Int} {y1 y2 : Sc} (h : w.heap[b]? = some (scX S x)) (hT : WTab w) (H1 : ∀ u : World, u.heap[b]? = some (scX S x) → Calls Tryz.prog 67 #[pv b, .slice (some ⟨u.heap.size, 0, none⟩) 3 3] (u.alloc (.cells #[.string ⟨#[102, 105, 120, 101, 100]⟩, .string ⟨#[101, 97, 115, 116, 101, 114]⟩, .string ⟨#[110, 116, 104]⟩] 9)) fun r w' => r = .returned (.int .i64 2) ∧ w'.heap[b]? = some (scX S y1) ∧ Bt b u w') (H2 : ∀ u : World, u.heap[b]? = some (scX S y1) → WTab u → Calls Tryz.prog 91 #[pv b] u fun r w' => r = .returned (.agg #[.int .i64 k, .int .i64 m, .int .i64 d, .int .i64 o, .int .i64 q, .int .i64 c]) ∧ w'.heap[b]? = some (scX S y2) ∧ Bt b u w') :
    Calls Tryz.prog 66 #[pv b] w fun r w' => r = .returned (.agg #[.int .i64 k, .int .i64 m, .int .i64 d, .int .i64 o, .int .i64 q, .int .i64 c]) ∧ w'.heap[b]? = some (scX S y2) ∧ Bt b w w' := by
  have H1 := Lib.hid H1
  have H2 := Lib.hid H2
  go_enter Tryz.func66, Tryz.ntmps66
  go_wp2_with fail
  obtain ⟨u, hu⟩ : ∃ u, u = ((w.alloc (.cells #[xp b] 47)).alloc (.cells #[.int .i64 0, .int .i64 0, .int .i64 0, .int .i64 0, .int .i64 0, .int .i64 0] 39)) := ⟨_, rfl⟩
  have B0 : Below w.heap.size w u := hu ▸ al2 w _ _
  have rs := row_kept h B0
  have rP : u.heap[w.heap.size]? = some (.cells #[xp b] 47 (0, 0)) := hu ▸ row_on (heap_alloc_new _ _) (al1 _ _)
  have rR : u.heap[w.heap.size + 1]? = some (.cells #[.int .i64 0, .int .i64 0, .int .i64 0, .int .i64 0, .int .i64 0, .int .i64 0] 39 (0, 0)) := hu ▸ row_new1 _ _ _
  have hz : w.heap.size + 1 + 1 = u.heap.size := by rw [hu]; simp
  rw [← hu]
  clear hu
  have hb := Bt.of_below (b := b) B0
  generalize hP : w.heap.size = P at *
  generalize hR : P + 1 = R at *
  have lb : b < P := by have := row_lt h; omega
  rw [hz]
  clear hz
  have cP0_0 : u.cell? ⟨P, 0, none⟩ = some (xp b) := by rw [cell_of_row _ P 0 _ _ _ rP]; rfl
  have HT := Lib.hid (hT.below B0 (by have := hT.heap; omega))
  refine (H1.out u rs).mono ?_
  clear cP0_0
  rintro e1 w1 ⟨rfl, rs1, g1⟩
  have rP_1 := g1.row (show P ≠ b by omega) rP
  have rR_1 := g1.row (show R ≠ b by omega) rR
  have hb1 := hb.trans g1
  have cP0_1 : w1.cell? ⟨P, 0, none⟩ = some (xp b) := by rw [cell_of_row _ P 0 _ _ _ rP_1]; rfl
  have HT1 := Lib.hid (HT.out.mv g1 (ne_scan HT.out rs))
  go_wp2_with fail
  refine (H2.out w1 rs1 HT1.out).mono ?_
  clear cP0_1
  rintro e2 w2 ⟨rfl, rs2, g2⟩
  have rP_2 := g2.row (show P ≠ b by omega) rP_1
  have rR_2 := g2.row (show R ≠ b by omega) rR_1
  have hb2 := hb1.trans g2
  have cR0_2 : w2.cell? ⟨R, 0, none⟩ = some (.int .i64 0) := by rw [cell_of_row _ R 0 _ _ _ rR_2]; rfl
  have fR0_2 : w2.frozen? ⟨R, 0, none⟩ = false := frozen_of_row _ R 0 _ _ rR_2
  have cR1_2 : w2.cell? ⟨R, 1, none⟩ = some (.int .i64 0) := by rw [cell_of_row _ R 1 _ _ _ rR_2]; rfl
  have fR1_2 : w2.frozen? ⟨R, 1, none⟩ = false := frozen_of_row _ R 1 _ _ rR_2
  have cR2_2 : w2.cell? ⟨R, 2, none⟩ = some (.int .i64 0) := by rw [cell_of_row _ R 2 _ _ _ rR_2]; rfl
  have fR2_2 : w2.frozen? ⟨R, 2, none⟩ = false := frozen_of_row _ R 2 _ _ rR_2
  have cR3_2 : w2.cell? ⟨R, 3, none⟩ = some (.int .i64 0) := by rw [cell_of_row _ R 3 _ _ _ rR_2]; rfl
  have fR3_2 : w2.frozen? ⟨R, 3, none⟩ = false := frozen_of_row _ R 3 _ _ rR_2
  have cR4_2 : w2.cell? ⟨R, 4, none⟩ = some (.int .i64 0) := by rw [cell_of_row _ R 4 _ _ _ rR_2]; rfl
  have fR4_2 : w2.frozen? ⟨R, 4, none⟩ = false := frozen_of_row _ R 4 _ _ rR_2
  have cR5_2 : w2.cell? ⟨R, 5, none⟩ = some (.int .i64 0) := by rw [cell_of_row _ R 5 _ _ _ rR_2]; rfl
  have fR5_2 : w2.frozen? ⟨R, 5, none⟩ = false := frozen_of_row _ R 5 _ _ rR_2
  have t1 : Bt R w2 ((((((w2.setCell ⟨R, 0, none⟩ (.int .i64 k)).setCell ⟨R, 1, none⟩ (.int .i64 m)).setCell ⟨R, 2, none⟩ (.int .i64 d)).setCell ⟨R, 3, none⟩ (.int .i64 o)).setCell ⟨R, 4, none⟩ (.int .i64 q)).setCell ⟨R, 5, none⟩ (.int .i64 c)) := Bt.sets R [(.int .i64 k), (.int .i64 m), (.int .i64 d), (.int .i64 o), (.int .i64 q), (.int .i64 c)] 0 w2
  have pR1 : ((((((w2.setCell ⟨R, 0, none⟩ (.int .i64 k)).setCell ⟨R, 1, none⟩ (.int .i64 m)).setCell ⟨R, 2, none⟩ (.int .i64 d)).setCell ⟨R, 3, none⟩ (.int .i64 o)).setCell ⟨R, 4, none⟩ (.int .i64 q)).setCell ⟨R, 5, none⟩ (.int .i64 c)).heap[R]? = some (.cells #[.int .i64 k, .int .i64 m, .int .i64 d, .int .i64 o, .int .i64 q, .int .i64 c] 39 (0, 0)) := anc_all (.int .i64 k) (.int .i64 m) (.int .i64 d) (.int .i64 o) (.int .i64 q) (.int .i64 c) rR_2
  have pP1 := t1.row (show P ≠ R by omega) rP_2
  have ps1 := t1.row (show b ≠ R by omega) rs2
  have hbp1 := hb2.over t1 (show w.heap.size ≤ R by omega)
  go_wp2_with fail
  obtain ⟨u9, hu9⟩ : ∃ u9, u9 = ((((((w2.setCell ⟨R, 0, none⟩ (.int .i64 k)).setCell ⟨R, 1, none⟩ (.int .i64 m)).setCell ⟨R, 2, none⟩ (.int .i64 d)).setCell ⟨R, 3, none⟩ (.int .i64 o)).setCell ⟨R, 4, none⟩ (.int .i64 q)).setCell ⟨R, 5, none⟩ (.int .i64 c)) := ⟨_, rfl⟩
  rw [← hu9] at pR1 ps1 hbp1 ⊢
  have k0 : u9.cell? ⟨R, 0, none⟩ = some (.int .i64 k) := by rw [cell_of_row _ R 0 _ _ _ pR1]; rfl
  have k1 : u9.cell? ⟨R, 1, none⟩ = some (.int .i64 m) := by rw [cell_of_row _ R 1 _ _ _ pR1]; rfl
  have k2 : u9.cell? ⟨R, 2, none⟩ = some (.int .i64 d) := by rw [cell_of_row _ R 2 _ _ _ pR1]; rfl
  have k3 : u9.cell? ⟨R, 3, none⟩ = some (.int .i64 o) := by rw [cell_of_row _ R 3 _ _ _ pR1]; rfl
  have k4 : u9.cell? ⟨R, 4, none⟩ = some (.int .i64 q) := by rw [cell_of_row _ R 4 _ _ _ pR1]; rfl
  have k5 : u9.cell? ⟨R, 5, none⟩ = some (.int .i64 c) := by rw [cell_of_row _ R 5 _ _ _ pR1]; rfl
  exact bodyPost_ret (v := .agg #[.int .i64 k, .int .i64 m, .int .i64 d, .int .i64 o, .int .i64 q, .int .i64 c]) (by simp [results, Tryz.results66, go_sem, k0, k1, k2, k3, k4, k5]) rfl ⟨rfl, ps1, hbp1⟩
set_option maxRecDepth 100000 in
set_option maxHeartbeats 1000000 in
theorem p26anc_go3 {S : ByteArray} {b : Nat} {x : Sc} {w : World} {y1 : Sc} (h : w.heap[b]? = some (scX S x)) (H1 : ∀ u : World, u.heap[b]? = some (scX S x) → Calls Tryz.prog 67 #[pv b, .slice (some ⟨u.heap.size, 0, none⟩) 3 3] (u.alloc (.cells #[.string ⟨#[102, 105, 120, 101, 100]⟩, .string ⟨#[101, 97, 115, 116, 101, 114]⟩, .string ⟨#[110, 116, 104]⟩] 9)) fun r w' => r = .returned (.int .i64 (-1)) ∧ w'.heap[b]? = some (scX S y1) ∧ Bt b u w') :
    Calls Tryz.prog 66 #[pv b] w fun r w' => r = .returned (.agg #[.int .i64 0, .int .i64 0, .int .i64 0, .int .i64 0, .int .i64 0, .int .i64 0]) ∧ w'.heap[b]? = some (scX S y1) ∧ Bt b w w' := by
  have H1 := Lib.hid H1
  go_enter Tryz.func66, Tryz.ntmps66
  go_wp2_with fail
  obtain ⟨u, hu⟩ : ∃ u, u = ((w.alloc (.cells #[xp b] 47)).alloc (.cells #[.int .i64 0, .int .i64 0, .int .i64 0, .int .i64 0, .int .i64 0, .int .i64 0] 39)) := ⟨_, rfl⟩
  have B0 : Below w.heap.size w u := hu ▸ al2 w _ _
  have rs := row_kept h B0
  have rP : u.heap[w.heap.size]? = some (.cells #[xp b] 47 (0, 0)) := hu ▸ row_on (heap_alloc_new _ _) (al1 _ _)
  have rR : u.heap[w.heap.size + 1]? = some (.cells #[.int .i64 0, .int .i64 0, .int .i64 0, .int .i64 0, .int .i64 0, .int .i64 0] 39 (0, 0)) := hu ▸ row_new1 _ _ _
  have hz : w.heap.size + 1 + 1 = u.heap.size := by rw [hu]; simp
  rw [← hu]
  clear hu
  have hb := Bt.of_below (b := b) B0
  generalize hP : w.heap.size = P at *
  generalize hR : P + 1 = R at *
  have lb : b < P := by have := row_lt h; omega
  rw [hz]
  clear hz
  have cP0_0 : u.cell? ⟨P, 0, none⟩ = some (xp b) := by rw [cell_of_row _ P 0 _ _ _ rP]; rfl
  refine (H1.out u rs).mono ?_
  clear cP0_0
  rintro e1 w1 ⟨rfl, rs1, g1⟩
  have rP_1 := g1.row (show P ≠ b by omega) rP
  have rR_1 := g1.row (show R ≠ b by omega) rR
  have hb1 := hb.trans g1
  have cP0_1 : w1.cell? ⟨P, 0, none⟩ = some (xp b) := by rw [cell_of_row _ P 0 _ _ _ rP_1]; rfl
  have cR0_1 : w1.cell? ⟨R, 0, none⟩ = some (.int .i64 0) := by rw [cell_of_row _ R 0 _ _ _ rR_1]; rfl
  have fR0_1 : w1.frozen? ⟨R, 0, none⟩ = false := frozen_of_row _ R 0 _ _ rR_1
  have cR1_1 : w1.cell? ⟨R, 1, none⟩ = some (.int .i64 0) := by rw [cell_of_row _ R 1 _ _ _ rR_1]; rfl
  have fR1_1 : w1.frozen? ⟨R, 1, none⟩ = false := frozen_of_row _ R 1 _ _ rR_1
  have cR2_1 : w1.cell? ⟨R, 2, none⟩ = some (.int .i64 0) := by rw [cell_of_row _ R 2 _ _ _ rR_1]; rfl
  have fR2_1 : w1.frozen? ⟨R, 2, none⟩ = false := frozen_of_row _ R 2 _ _ rR_1
  have cR3_1 : w1.cell? ⟨R, 3, none⟩ = some (.int .i64 0) := by rw [cell_of_row _ R 3 _ _ _ rR_1]; rfl
  have fR3_1 : w1.frozen? ⟨R, 3, none⟩ = false := frozen_of_row _ R 3 _ _ rR_1
  have cR4_1 : w1.cell? ⟨R, 4, none⟩ = some (.int .i64 0) := by rw [cell_of_row _ R 4 _ _ _ rR_1]; rfl
  have fR4_1 : w1.frozen? ⟨R, 4, none⟩ = false := frozen_of_row _ R 4 _ _ rR_1
  have cR5_1 : w1.cell? ⟨R, 5, none⟩ = some (.int .i64 0) := by rw [cell_of_row _ R 5 _ _ _ rR_1]; rfl
  have fR5_1 : w1.frozen? ⟨R, 5, none⟩ = false := frozen_of_row _ R 5 _ _ rR_1
  have t1 : Bt R w1 ((((((w1.setCell ⟨R, 0, none⟩ (.int .i64 0)).setCell ⟨R, 1, none⟩ (.int .i64 0)).setCell ⟨R, 2, none⟩ (.int .i64 0)).setCell ⟨R, 3, none⟩ (.int .i64 0)).setCell ⟨R, 4, none⟩ (.int .i64 0)).setCell ⟨R, 5, none⟩ (.int .i64 0)) := Bt.sets R [(.int .i64 0), (.int .i64 0), (.int .i64 0), (.int .i64 0), (.int .i64 0), (.int .i64 0)] 0 w1
  have pR1 : ((((((w1.setCell ⟨R, 0, none⟩ (.int .i64 0)).setCell ⟨R, 1, none⟩ (.int .i64 0)).setCell ⟨R, 2, none⟩ (.int .i64 0)).setCell ⟨R, 3, none⟩ (.int .i64 0)).setCell ⟨R, 4, none⟩ (.int .i64 0)).setCell ⟨R, 5, none⟩ (.int .i64 0)).heap[R]? = some (.cells #[.int .i64 0, .int .i64 0, .int .i64 0, .int .i64 0, .int .i64 0, .int .i64 0] 39 (0, 0)) := anc_all (.int .i64 0) (.int .i64 0) (.int .i64 0) (.int .i64 0) (.int .i64 0) (.int .i64 0) rR_1
  have pP1 := t1.row (show P ≠ R by omega) rP_1
  have ps1 := t1.row (show b ≠ R by omega) rs1
  have hbp1 := hb1.over t1 (show w.heap.size ≤ R by omega)
  go_wp2_with fail
  obtain ⟨u9, hu9⟩ : ∃ u9, u9 = ((((((w1.setCell ⟨R, 0, none⟩ (.int .i64 0)).setCell ⟨R, 1, none⟩ (.int .i64 0)).setCell ⟨R, 2, none⟩ (.int .i64 0)).setCell ⟨R, 3, none⟩ (.int .i64 0)).setCell ⟨R, 4, none⟩ (.int .i64 0)).setCell ⟨R, 5, none⟩ (.int .i64 0)) := ⟨_, rfl⟩
  rw [← hu9] at pR1 ps1 hbp1 ⊢
  have k0 : u9.cell? ⟨R, 0, none⟩ = some (.int .i64 0) := by rw [cell_of_row _ R 0 _ _ _ pR1]; rfl
  have k1 : u9.cell? ⟨R, 1, none⟩ = some (.int .i64 0) := by rw [cell_of_row _ R 1 _ _ _ pR1]; rfl
  have k2 : u9.cell? ⟨R, 2, none⟩ = some (.int .i64 0) := by rw [cell_of_row _ R 2 _ _ _ pR1]; rfl
  have k3 : u9.cell? ⟨R, 3, none⟩ = some (.int .i64 0) := by rw [cell_of_row _ R 3 _ _ _ pR1]; rfl
  have k4 : u9.cell? ⟨R, 4, none⟩ = some (.int .i64 0) := by rw [cell_of_row _ R 4 _ _ _ pR1]; rfl
  have k5 : u9.cell? ⟨R, 5, none⟩ = some (.int .i64 0) := by rw [cell_of_row _ R 5 _ _ _ pR1]; rfl
  exact bodyPost_ret (v := .agg #[.int .i64 0, .int .i64 0, .int .i64 0, .int .i64 0, .int .i64 0, .int .i64 0]) (by simp [results, Tryz.results66, go_sem, k0, k1, k2, k3, k4, k5]) rfl ⟨rfl, ps1, hbp1⟩
set_option maxRecDepth 100000 in
set_option maxHeartbeats 1000000 in
theorem p26sea_go {S : ByteArray} {b : Nat} {x : Sc} {w : World} {s : ByteArray} {j n1 n2 k m d o q c : Int} {y1 y2 y3 y4 y5 : Sc} (h : w.heap[b]? = some (scX S x)) (hT : WTab w) (H1 : ∀ u : World, u.heap[b]? = some (scX S x) → Calls Tryz.prog 38 #[xp b, .slice (some ⟨u.heap.size, 0, none⟩) 1 1] (u.alloc (.cells #[.string ⟨#[115, 101, 97, 115, 111, 110, 32]⟩] 9)) fun r w' => r = .returned (.int .i64 j) ∧ w'.heap[b]? = some (scX S y1) ∧ Bt b u w') (H2 : ∀ u : World, u.heap[b]? = some (scX S y1) → Calls Tryz.prog 65 #[pv b] u fun r w' => r = .returned (.string s) ∧ w'.heap[b]? = some (scX S y2) ∧ Bt b u w') (H3 : ∀ u : World, u.heap[b]? = some (scX S y2) → Calls Tryz.prog 39 #[pv b, .string wSp] u fun r w' => r = .returned (.int .i64 n1) ∧ w'.heap[b]? = some (scX S y3) ∧ Bt b u w') (H4 : ∀ u : World, u.heap[b]? = some (scX S y3) → Calls Tryz.prog 39 #[pv b, .string wSp] u fun r w' => r = .returned (.int .i64 n2) ∧ w'.heap[b]? = some (scX S y4) ∧ Bt b u w') (H5 : ∀ u : World, u.heap[b]? = some (scX S y4) → WTab u → Calls Tryz.prog 66 #[pv b] u fun r w' => r = .returned (.agg #[.int .i64 k, .int .i64 m, .int .i64 d, .int .i64 o, .int .i64 q, .int .i64 c]) ∧ w'.heap[b]? = some (scX S y5) ∧ Bt b u w') :
    Calls Tryz.prog 41 #[pv b] w fun r w' => r = .returned (.agg #[.string s, .int .i64 n1, .int .i64 n2, .int .i64 k, .int .i64 m, .int .i64 d, .int .i64 o, .int .i64 q, .int .i64 c]) ∧ w'.heap[b]? = some (scX S y5) ∧ Bt b w w' := by
  have H1 := Lib.hid H1
  have H2 := Lib.hid H2
  have H3 := Lib.hid H3
  have H4 := Lib.hid H4
  have H5 := Lib.hid H5
  go_enter Tryz.func41, Tryz.ntmps41
  go_wp2_with fail
  obtain ⟨u, hu⟩ : ∃ u, u = (((w.alloc (.cells #[xp b] 47)).alloc (.cells #[.string ⟨#[]⟩, .int .i64 0, .int .i64 0, .int .i64 0, .int .i64 0, .int .i64 0, .int .i64 0, .int .i64 0, .int .i64 0] 41)).alloc (.cells #[.string ⟨#[]⟩, .int .i64 0, .int .i64 0, .int .i64 0, .int .i64 0, .int .i64 0, .int .i64 0, .int .i64 0, .int .i64 0] 41)) := ⟨_, rfl⟩
  have B0 : Below w.heap.size w u := hu ▸ al3 w _ _ _
  have rs := row_kept h B0
  have rP : u.heap[w.heap.size]? = some (.cells #[xp b] 47 (0, 0)) := hu ▸ row_on (heap_alloc_new _ _) (al2 _ _ _)
  have rR : u.heap[w.heap.size + 1]? = some (.cells #[.string ⟨#[]⟩, .int .i64 0, .int .i64 0, .int .i64 0, .int .i64 0, .int .i64 0, .int .i64 0, .int .i64 0, .int .i64 0] 41 (0, 0)) := hu ▸ row_on (row_new1 _ _ _) (al1 _ _)
  have rQ : u.heap[w.heap.size + 1 + 1]? = some (.cells #[.string ⟨#[]⟩, .int .i64 0, .int .i64 0, .int .i64 0, .int .i64 0, .int .i64 0, .int .i64 0, .int .i64 0, .int .i64 0] 41 (0, 0)) := hu ▸ row_new2 _ _ _ _
  have hz : w.heap.size + 1 + 1 + 1 = u.heap.size := by rw [hu]; simp
  rw [← hu]
  clear hu
  have hb := Bt.of_below (b := b) B0
  generalize hP : w.heap.size = P at *
  generalize hR : P + 1 = R at *
  generalize hQ : R + 1 = Q at *
  have lb : b < P := by have := row_lt h; omega
  rw [hz]
  clear hz
  have cP0_0 : u.cell? ⟨P, 0, none⟩ = some (xp b) := by rw [cell_of_row _ P 0 _ _ _ rP]; rfl
  have HT := Lib.hid (hT.below B0 (by have := hT.heap; omega))
  have hg := hT.heap
  refine (H1.out u rs).mono ?_
  clear cP0_0
  rintro e1 w1 ⟨rfl, rs1, g1⟩
  have rP_1 := g1.row (show P ≠ b by omega) rP
  have rR_1 := g1.row (show R ≠ b by omega) rR
  have rQ_1 := g1.row (show Q ≠ b by omega) rQ
  have hb1 := hb.trans g1
  have HT1 := Lib.hid (HT.out.mv g1 (ne_scan HT.out rs))
  have cP0_1 : w1.cell? ⟨P, 0, none⟩ = some (xp b) := by rw [cell_of_row _ P 0 _ _ _ rP_1]; rfl
  go_wp2_with fail
  refine (H2.out w1 rs1).mono ?_
  clear cP0_1
  rintro e2 w2 ⟨rfl, rs2, g2⟩
  have rP_2 := g2.row (show P ≠ b by omega) rP_1
  have rR_2 := g2.row (show R ≠ b by omega) rR_1
  have rQ_2 := g2.row (show Q ≠ b by omega) rQ_1
  have hb2 := hb1.trans g2
  have HT2 := Lib.hid (HT1.out.mv g2 (ne_scan HT1.out rs1))
  have cQ0_2 : w2.cell? ⟨Q, 0, none⟩ = some (.string ⟨#[]⟩) := by rw [cell_of_row _ Q 0 _ _ _ rQ_2]; rfl
  have fQ0_2 : w2.frozen? ⟨Q, 0, none⟩ = false := frozen_of_row _ Q 0 _ _ rQ_2
  have t1 : Bt Q w2 (w2.setCell ⟨Q, 0, none⟩ (.string s)) := Bt.sets Q [(.string s)] 0 w2
  have pQ1 : (w2.setCell ⟨Q, 0, none⟩ (.string s)).heap[Q]? = some (.cells #[.string s, .int .i64 0, .int .i64 0, .int .i64 0, .int .i64 0, .int .i64 0, .int .i64 0, .int .i64 0, .int .i64 0] 41 (0, 0)) := heap_setCell_same _ Q 0 _ _ _ rQ_2
  have pP1 := t1.row (show P ≠ Q by omega) rP_2
  have pR1 := t1.row (show R ≠ Q by omega) rR_2
  have ps1 := t1.row (show b ≠ Q by omega) rs2
  have hbp1 := hb2.over t1 (show w.heap.size ≤ Q by omega)
  have HT3 := Lib.hid (HT2.out.mv t1 (by omega))
  have cP0_3 : (w2.setCell ⟨Q, 0, none⟩ (.string s)).cell? ⟨P, 0, none⟩ = some (xp b) := by rw [cell_of_row _ P 0 _ _ _ pP1]; rfl
  go_wp2_with fail
  refine (H3.out (w2.setCell ⟨Q, 0, none⟩ (.string s)) ps1).mono ?_
  clear cQ0_2 fQ0_2 cP0_3
  rintro e4 w4 ⟨rfl, rs4, g4⟩
  have rP_4 := g4.row (show P ≠ b by omega) pP1
  have rR_4 := g4.row (show R ≠ b by omega) pR1
  have rQ_4 := g4.row (show Q ≠ b by omega) pQ1
  have hb4 := hbp1.trans g4
  have HT4 := Lib.hid (HT3.out.mv g4 (ne_scan HT3.out ps1))
  have cQ1_4 : w4.cell? ⟨Q, 1, none⟩ = some (.int .i64 0) := by rw [cell_of_row _ Q 1 _ _ _ rQ_4]; rfl
  have fQ1_4 : w4.frozen? ⟨Q, 1, none⟩ = false := frozen_of_row _ Q 1 _ _ rQ_4
  have t2 : Bt Q w4 (w4.setCell ⟨Q, 1, none⟩ (.int .i64 n1)) := Bt.sets Q [(.int .i64 n1)] 1 w4
  have pQ2 : (w4.setCell ⟨Q, 1, none⟩ (.int .i64 n1)).heap[Q]? = some (.cells #[.string s, .int .i64 n1, .int .i64 0, .int .i64 0, .int .i64 0, .int .i64 0, .int .i64 0, .int .i64 0, .int .i64 0] 41 (0, 0)) := heap_setCell_same _ Q 1 _ _ _ rQ_4
  have pP2 := t2.row (show P ≠ Q by omega) rP_4
  have pR2 := t2.row (show R ≠ Q by omega) rR_4
  have ps2 := t2.row (show b ≠ Q by omega) rs4
  have hbp2 := hb4.over t2 (show w.heap.size ≤ Q by omega)
  have HT5 := Lib.hid (HT4.out.mv t2 (by omega))
  have cP0_5 : (w4.setCell ⟨Q, 1, none⟩ (.int .i64 n1)).cell? ⟨P, 0, none⟩ = some (xp b) := by rw [cell_of_row _ P 0 _ _ _ pP2]; rfl
  go_wp2_with fail
  refine (H4.out (w4.setCell ⟨Q, 1, none⟩ (.int .i64 n1)) ps2).mono ?_
  clear cQ1_4 fQ1_4 cP0_5
  rintro e6 w6 ⟨rfl, rs6, g6⟩
  have rP_6 := g6.row (show P ≠ b by omega) pP2
  have rR_6 := g6.row (show R ≠ b by omega) pR2
  have rQ_6 := g6.row (show Q ≠ b by omega) pQ2
  have hb6 := hbp2.trans g6
  have HT6 := Lib.hid (HT5.out.mv g6 (ne_scan HT5.out ps2))
  have cQ2_6 : w6.cell? ⟨Q, 2, none⟩ = some (.int .i64 0) := by rw [cell_of_row _ Q 2 _ _ _ rQ_6]; rfl
  have fQ2_6 : w6.frozen? ⟨Q, 2, none⟩ = false := frozen_of_row _ Q 2 _ _ rQ_6
  have t3 : Bt Q w6 (w6.setCell ⟨Q, 2, none⟩ (.int .i64 n2)) := Bt.sets Q [(.int .i64 n2)] 2 w6
  have pQ3 : (w6.setCell ⟨Q, 2, none⟩ (.int .i64 n2)).heap[Q]? = some (.cells #[.string s, .int .i64 n1, .int .i64 n2, .int .i64 0, .int .i64 0, .int .i64 0, .int .i64 0, .int .i64 0, .int .i64 0] 41 (0, 0)) := heap_setCell_same _ Q 2 _ _ _ rQ_6
  have pP3 := t3.row (show P ≠ Q by omega) rP_6
  have pR3 := t3.row (show R ≠ Q by omega) rR_6
  have ps3 := t3.row (show b ≠ Q by omega) rs6
  have hbp3 := hb6.over t3 (show w.heap.size ≤ Q by omega)
  have HT7 := Lib.hid (HT6.out.mv t3 (by omega))
  have cP0_7 : (w6.setCell ⟨Q, 2, none⟩ (.int .i64 n2)).cell? ⟨P, 0, none⟩ = some (xp b) := by rw [cell_of_row _ P 0 _ _ _ pP3]; rfl
  go_wp2_with fail
  refine (H5.out (w6.setCell ⟨Q, 2, none⟩ (.int .i64 n2)) ps3 HT7.out).mono ?_
  clear cQ2_6 fQ2_6 cP0_7
  rintro e8 w8 ⟨rfl, rs8, g8⟩
  have rP_8 := g8.row (show P ≠ b by omega) pP3
  have rR_8 := g8.row (show R ≠ b by omega) pR3
  have rQ_8 := g8.row (show Q ≠ b by omega) pQ3
  have hb8 := hbp3.trans g8
  have cQ3_8 : w8.cell? ⟨Q, 3, none⟩ = some (.int .i64 0) := by rw [cell_of_row _ Q 3 _ _ _ rQ_8]; rfl
  have fQ3_8 : w8.frozen? ⟨Q, 3, none⟩ = false := frozen_of_row _ Q 3 _ _ rQ_8
  have cQ4_8 : w8.cell? ⟨Q, 4, none⟩ = some (.int .i64 0) := by rw [cell_of_row _ Q 4 _ _ _ rQ_8]; rfl
  have fQ4_8 : w8.frozen? ⟨Q, 4, none⟩ = false := frozen_of_row _ Q 4 _ _ rQ_8
  have cQ5_8 : w8.cell? ⟨Q, 5, none⟩ = some (.int .i64 0) := by rw [cell_of_row _ Q 5 _ _ _ rQ_8]; rfl
  have fQ5_8 : w8.frozen? ⟨Q, 5, none⟩ = false := frozen_of_row _ Q 5 _ _ rQ_8
  have cQ6_8 : w8.cell? ⟨Q, 6, none⟩ = some (.int .i64 0) := by rw [cell_of_row _ Q 6 _ _ _ rQ_8]; rfl
  have fQ6_8 : w8.frozen? ⟨Q, 6, none⟩ = false := frozen_of_row _ Q 6 _ _ rQ_8
  have cQ7_8 : w8.cell? ⟨Q, 7, none⟩ = some (.int .i64 0) := by rw [cell_of_row _ Q 7 _ _ _ rQ_8]; rfl
  have fQ7_8 : w8.frozen? ⟨Q, 7, none⟩ = false := frozen_of_row _ Q 7 _ _ rQ_8
  have cQ8_8 : w8.cell? ⟨Q, 8, none⟩ = some (.int .i64 0) := by rw [cell_of_row _ Q 8 _ _ _ rQ_8]; rfl
  have fQ8_8 : w8.frozen? ⟨Q, 8, none⟩ = false := frozen_of_row _ Q 8 _ _ rQ_8
  have t4 : Bt Q w8 ((((((w8.setCell ⟨Q, 3, none⟩ (.int .i64 k)).setCell ⟨Q, 4, none⟩ (.int .i64 m)).setCell ⟨Q, 5, none⟩ (.int .i64 d)).setCell ⟨Q, 6, none⟩ (.int .i64 o)).setCell ⟨Q, 7, none⟩ (.int .i64 q)).setCell ⟨Q, 8, none⟩ (.int .i64 c)) := Bt.sets Q [(.int .i64 k), (.int .i64 m), (.int .i64 d), (.int .i64 o), (.int .i64 q), (.int .i64 c)] 3 w8
  have pQ4 : ((((((w8.setCell ⟨Q, 3, none⟩ (.int .i64 k)).setCell ⟨Q, 4, none⟩ (.int .i64 m)).setCell ⟨Q, 5, none⟩ (.int .i64 d)).setCell ⟨Q, 6, none⟩ (.int .i64 o)).setCell ⟨Q, 7, none⟩ (.int .i64 q)).setCell ⟨Q, 8, none⟩ (.int .i64 c)).heap[Q]? = some (.cells #[.string s, .int .i64 n1, .int .i64 n2, .int .i64 k, .int .i64 m, .int .i64 d, .int .i64 o, .int .i64 q, .int .i64 c] 41 (0, 0)) := itm_anc (.int .i64 k) (.int .i64 m) (.int .i64 d) (.int .i64 o) (.int .i64 q) (.int .i64 c) rQ_8
  have pP4 := t4.row (show P ≠ Q by omega) rP_8
  have pR4 := t4.row (show R ≠ Q by omega) rR_8
  have ps4 := t4.row (show b ≠ Q by omega) rs8
  have hbp4 := hb8.over t4 (show w.heap.size ≤ Q by omega)
  have cQ0_9 : ((((((w8.setCell ⟨Q, 3, none⟩ (.int .i64 k)).setCell ⟨Q, 4, none⟩ (.int .i64 m)).setCell ⟨Q, 5, none⟩ (.int .i64 d)).setCell ⟨Q, 6, none⟩ (.int .i64 o)).setCell ⟨Q, 7, none⟩ (.int .i64 q)).setCell ⟨Q, 8, none⟩ (.int .i64 c)).cell? ⟨Q, 0, none⟩ = some (.string s) := by rw [cell_of_row _ Q 0 _ _ _ pQ4]; rfl
  have cQ1_9 : ((((((w8.setCell ⟨Q, 3, none⟩ (.int .i64 k)).setCell ⟨Q, 4, none⟩ (.int .i64 m)).setCell ⟨Q, 5, none⟩ (.int .i64 d)).setCell ⟨Q, 6, none⟩ (.int .i64 o)).setCell ⟨Q, 7, none⟩ (.int .i64 q)).setCell ⟨Q, 8, none⟩ (.int .i64 c)).cell? ⟨Q, 1, none⟩ = some (.int .i64 n1) := by rw [cell_of_row _ Q 1 _ _ _ pQ4]; rfl
  have cQ2_9 : ((((((w8.setCell ⟨Q, 3, none⟩ (.int .i64 k)).setCell ⟨Q, 4, none⟩ (.int .i64 m)).setCell ⟨Q, 5, none⟩ (.int .i64 d)).setCell ⟨Q, 6, none⟩ (.int .i64 o)).setCell ⟨Q, 7, none⟩ (.int .i64 q)).setCell ⟨Q, 8, none⟩ (.int .i64 c)).cell? ⟨Q, 2, none⟩ = some (.int .i64 n2) := by rw [cell_of_row _ Q 2 _ _ _ pQ4]; rfl
  have cQ3_9 : ((((((w8.setCell ⟨Q, 3, none⟩ (.int .i64 k)).setCell ⟨Q, 4, none⟩ (.int .i64 m)).setCell ⟨Q, 5, none⟩ (.int .i64 d)).setCell ⟨Q, 6, none⟩ (.int .i64 o)).setCell ⟨Q, 7, none⟩ (.int .i64 q)).setCell ⟨Q, 8, none⟩ (.int .i64 c)).cell? ⟨Q, 3, none⟩ = some (.int .i64 k) := by rw [cell_of_row _ Q 3 _ _ _ pQ4]; rfl
  have cQ4_9 : ((((((w8.setCell ⟨Q, 3, none⟩ (.int .i64 k)).setCell ⟨Q, 4, none⟩ (.int .i64 m)).setCell ⟨Q, 5, none⟩ (.int .i64 d)).setCell ⟨Q, 6, none⟩ (.int .i64 o)).setCell ⟨Q, 7, none⟩ (.int .i64 q)).setCell ⟨Q, 8, none⟩ (.int .i64 c)).cell? ⟨Q, 4, none⟩ = some (.int .i64 m) := by rw [cell_of_row _ Q 4 _ _ _ pQ4]; rfl
  have cQ5_9 : ((((((w8.setCell ⟨Q, 3, none⟩ (.int .i64 k)).setCell ⟨Q, 4, none⟩ (.int .i64 m)).setCell ⟨Q, 5, none⟩ (.int .i64 d)).setCell ⟨Q, 6, none⟩ (.int .i64 o)).setCell ⟨Q, 7, none⟩ (.int .i64 q)).setCell ⟨Q, 8, none⟩ (.int .i64 c)).cell? ⟨Q, 5, none⟩ = some (.int .i64 d) := by rw [cell_of_row _ Q 5 _ _ _ pQ4]; rfl
  have cQ6_9 : ((((((w8.setCell ⟨Q, 3, none⟩ (.int .i64 k)).setCell ⟨Q, 4, none⟩ (.int .i64 m)).setCell ⟨Q, 5, none⟩ (.int .i64 d)).setCell ⟨Q, 6, none⟩ (.int .i64 o)).setCell ⟨Q, 7, none⟩ (.int .i64 q)).setCell ⟨Q, 8, none⟩ (.int .i64 c)).cell? ⟨Q, 6, none⟩ = some (.int .i64 o) := by rw [cell_of_row _ Q 6 _ _ _ pQ4]; rfl
  have cQ7_9 : ((((((w8.setCell ⟨Q, 3, none⟩ (.int .i64 k)).setCell ⟨Q, 4, none⟩ (.int .i64 m)).setCell ⟨Q, 5, none⟩ (.int .i64 d)).setCell ⟨Q, 6, none⟩ (.int .i64 o)).setCell ⟨Q, 7, none⟩ (.int .i64 q)).setCell ⟨Q, 8, none⟩ (.int .i64 c)).cell? ⟨Q, 7, none⟩ = some (.int .i64 q) := by rw [cell_of_row _ Q 7 _ _ _ pQ4]; rfl
  have cQ8_9 : ((((((w8.setCell ⟨Q, 3, none⟩ (.int .i64 k)).setCell ⟨Q, 4, none⟩ (.int .i64 m)).setCell ⟨Q, 5, none⟩ (.int .i64 d)).setCell ⟨Q, 6, none⟩ (.int .i64 o)).setCell ⟨Q, 7, none⟩ (.int .i64 q)).setCell ⟨Q, 8, none⟩ (.int .i64 c)).cell? ⟨Q, 8, none⟩ = some (.int .i64 c) := by rw [cell_of_row _ Q 8 _ _ _ pQ4]; rfl
  have cR0_9 : ((((((w8.setCell ⟨Q, 3, none⟩ (.int .i64 k)).setCell ⟨Q, 4, none⟩ (.int .i64 m)).setCell ⟨Q, 5, none⟩ (.int .i64 d)).setCell ⟨Q, 6, none⟩ (.int .i64 o)).setCell ⟨Q, 7, none⟩ (.int .i64 q)).setCell ⟨Q, 8, none⟩ (.int .i64 c)).cell? ⟨R, 0, none⟩ = some (.string ⟨#[]⟩) := by rw [cell_of_row _ R 0 _ _ _ pR4]; rfl
  have fR0_9 : ((((((w8.setCell ⟨Q, 3, none⟩ (.int .i64 k)).setCell ⟨Q, 4, none⟩ (.int .i64 m)).setCell ⟨Q, 5, none⟩ (.int .i64 d)).setCell ⟨Q, 6, none⟩ (.int .i64 o)).setCell ⟨Q, 7, none⟩ (.int .i64 q)).setCell ⟨Q, 8, none⟩ (.int .i64 c)).frozen? ⟨R, 0, none⟩ = false := frozen_of_row _ R 0 _ _ pR4
  have cR1_9 : ((((((w8.setCell ⟨Q, 3, none⟩ (.int .i64 k)).setCell ⟨Q, 4, none⟩ (.int .i64 m)).setCell ⟨Q, 5, none⟩ (.int .i64 d)).setCell ⟨Q, 6, none⟩ (.int .i64 o)).setCell ⟨Q, 7, none⟩ (.int .i64 q)).setCell ⟨Q, 8, none⟩ (.int .i64 c)).cell? ⟨R, 1, none⟩ = some (.int .i64 0) := by rw [cell_of_row _ R 1 _ _ _ pR4]; rfl
  have fR1_9 : ((((((w8.setCell ⟨Q, 3, none⟩ (.int .i64 k)).setCell ⟨Q, 4, none⟩ (.int .i64 m)).setCell ⟨Q, 5, none⟩ (.int .i64 d)).setCell ⟨Q, 6, none⟩ (.int .i64 o)).setCell ⟨Q, 7, none⟩ (.int .i64 q)).setCell ⟨Q, 8, none⟩ (.int .i64 c)).frozen? ⟨R, 1, none⟩ = false := frozen_of_row _ R 1 _ _ pR4
  have cR2_9 : ((((((w8.setCell ⟨Q, 3, none⟩ (.int .i64 k)).setCell ⟨Q, 4, none⟩ (.int .i64 m)).setCell ⟨Q, 5, none⟩ (.int .i64 d)).setCell ⟨Q, 6, none⟩ (.int .i64 o)).setCell ⟨Q, 7, none⟩ (.int .i64 q)).setCell ⟨Q, 8, none⟩ (.int .i64 c)).cell? ⟨R, 2, none⟩ = some (.int .i64 0) := by rw [cell_of_row _ R 2 _ _ _ pR4]; rfl
  have fR2_9 : ((((((w8.setCell ⟨Q, 3, none⟩ (.int .i64 k)).setCell ⟨Q, 4, none⟩ (.int .i64 m)).setCell ⟨Q, 5, none⟩ (.int .i64 d)).setCell ⟨Q, 6, none⟩ (.int .i64 o)).setCell ⟨Q, 7, none⟩ (.int .i64 q)).setCell ⟨Q, 8, none⟩ (.int .i64 c)).frozen? ⟨R, 2, none⟩ = false := frozen_of_row _ R 2 _ _ pR4
  have cR3_9 : ((((((w8.setCell ⟨Q, 3, none⟩ (.int .i64 k)).setCell ⟨Q, 4, none⟩ (.int .i64 m)).setCell ⟨Q, 5, none⟩ (.int .i64 d)).setCell ⟨Q, 6, none⟩ (.int .i64 o)).setCell ⟨Q, 7, none⟩ (.int .i64 q)).setCell ⟨Q, 8, none⟩ (.int .i64 c)).cell? ⟨R, 3, none⟩ = some (.int .i64 0) := by rw [cell_of_row _ R 3 _ _ _ pR4]; rfl
  have fR3_9 : ((((((w8.setCell ⟨Q, 3, none⟩ (.int .i64 k)).setCell ⟨Q, 4, none⟩ (.int .i64 m)).setCell ⟨Q, 5, none⟩ (.int .i64 d)).setCell ⟨Q, 6, none⟩ (.int .i64 o)).setCell ⟨Q, 7, none⟩ (.int .i64 q)).setCell ⟨Q, 8, none⟩ (.int .i64 c)).frozen? ⟨R, 3, none⟩ = false := frozen_of_row _ R 3 _ _ pR4
  have cR4_9 : ((((((w8.setCell ⟨Q, 3, none⟩ (.int .i64 k)).setCell ⟨Q, 4, none⟩ (.int .i64 m)).setCell ⟨Q, 5, none⟩ (.int .i64 d)).setCell ⟨Q, 6, none⟩ (.int .i64 o)).setCell ⟨Q, 7, none⟩ (.int .i64 q)).setCell ⟨Q, 8, none⟩ (.int .i64 c)).cell? ⟨R, 4, none⟩ = some (.int .i64 0) := by rw [cell_of_row _ R 4 _ _ _ pR4]; rfl
  have fR4_9 : ((((((w8.setCell ⟨Q, 3, none⟩ (.int .i64 k)).setCell ⟨Q, 4, none⟩ (.int .i64 m)).setCell ⟨Q, 5, none⟩ (.int .i64 d)).setCell ⟨Q, 6, none⟩ (.int .i64 o)).setCell ⟨Q, 7, none⟩ (.int .i64 q)).setCell ⟨Q, 8, none⟩ (.int .i64 c)).frozen? ⟨R, 4, none⟩ = false := frozen_of_row _ R 4 _ _ pR4
  have cR5_9 : ((((((w8.setCell ⟨Q, 3, none⟩ (.int .i64 k)).setCell ⟨Q, 4, none⟩ (.int .i64 m)).setCell ⟨Q, 5, none⟩ (.int .i64 d)).setCell ⟨Q, 6, none⟩ (.int .i64 o)).setCell ⟨Q, 7, none⟩ (.int .i64 q)).setCell ⟨Q, 8, none⟩ (.int .i64 c)).cell? ⟨R, 5, none⟩ = some (.int .i64 0) := by rw [cell_of_row _ R 5 _ _ _ pR4]; rfl
  have fR5_9 : ((((((w8.setCell ⟨Q, 3, none⟩ (.int .i64 k)).setCell ⟨Q, 4, none⟩ (.int .i64 m)).setCell ⟨Q, 5, none⟩ (.int .i64 d)).setCell ⟨Q, 6, none⟩ (.int .i64 o)).setCell ⟨Q, 7, none⟩ (.int .i64 q)).setCell ⟨Q, 8, none⟩ (.int .i64 c)).frozen? ⟨R, 5, none⟩ = false := frozen_of_row _ R 5 _ _ pR4
  have cR6_9 : ((((((w8.setCell ⟨Q, 3, none⟩ (.int .i64 k)).setCell ⟨Q, 4, none⟩ (.int .i64 m)).setCell ⟨Q, 5, none⟩ (.int .i64 d)).setCell ⟨Q, 6, none⟩ (.int .i64 o)).setCell ⟨Q, 7, none⟩ (.int .i64 q)).setCell ⟨Q, 8, none⟩ (.int .i64 c)).cell? ⟨R, 6, none⟩ = some (.int .i64 0) := by rw [cell_of_row _ R 6 _ _ _ pR4]; rfl
  have fR6_9 : ((((((w8.setCell ⟨Q, 3, none⟩ (.int .i64 k)).setCell ⟨Q, 4, none⟩ (.int .i64 m)).setCell ⟨Q, 5, none⟩ (.int .i64 d)).setCell ⟨Q, 6, none⟩ (.int .i64 o)).setCell ⟨Q, 7, none⟩ (.int .i64 q)).setCell ⟨Q, 8, none⟩ (.int .i64 c)).frozen? ⟨R, 6, none⟩ = false := frozen_of_row _ R 6 _ _ pR4
  have cR7_9 : ((((((w8.setCell ⟨Q, 3, none⟩ (.int .i64 k)).setCell ⟨Q, 4, none⟩ (.int .i64 m)).setCell ⟨Q, 5, none⟩ (.int .i64 d)).setCell ⟨Q, 6, none⟩ (.int .i64 o)).setCell ⟨Q, 7, none⟩ (.int .i64 q)).setCell ⟨Q, 8, none⟩ (.int .i64 c)).cell? ⟨R, 7, none⟩ = some (.int .i64 0) := by rw [cell_of_row _ R 7 _ _ _ pR4]; rfl
  have fR7_9 : ((((((w8.setCell ⟨Q, 3, none⟩ (.int .i64 k)).setCell ⟨Q, 4, none⟩ (.int .i64 m)).setCell ⟨Q, 5, none⟩ (.int .i64 d)).setCell ⟨Q, 6, none⟩ (.int .i64 o)).setCell ⟨Q, 7, none⟩ (.int .i64 q)).setCell ⟨Q, 8, none⟩ (.int .i64 c)).frozen? ⟨R, 7, none⟩ = false := frozen_of_row _ R 7 _ _ pR4
  have cR8_9 : ((((((w8.setCell ⟨Q, 3, none⟩ (.int .i64 k)).setCell ⟨Q, 4, none⟩ (.int .i64 m)).setCell ⟨Q, 5, none⟩ (.int .i64 d)).setCell ⟨Q, 6, none⟩ (.int .i64 o)).setCell ⟨Q, 7, none⟩ (.int .i64 q)).setCell ⟨Q, 8, none⟩ (.int .i64 c)).cell? ⟨R, 8, none⟩ = some (.int .i64 0) := by rw [cell_of_row _ R 8 _ _ _ pR4]; rfl
  have fR8_9 : ((((((w8.setCell ⟨Q, 3, none⟩ (.int .i64 k)).setCell ⟨Q, 4, none⟩ (.int .i64 m)).setCell ⟨Q, 5, none⟩ (.int .i64 d)).setCell ⟨Q, 6, none⟩ (.int .i64 o)).setCell ⟨Q, 7, none⟩ (.int .i64 q)).setCell ⟨Q, 8, none⟩ (.int .i64 c)).frozen? ⟨R, 8, none⟩ = false := frozen_of_row _ R 8 _ _ pR4
  have t5 : Bt R ((((((w8.setCell ⟨Q, 3, none⟩ (.int .i64 k)).setCell ⟨Q, 4, none⟩ (.int .i64 m)).setCell ⟨Q, 5, none⟩ (.int .i64 d)).setCell ⟨Q, 6, none⟩ (.int .i64 o)).setCell ⟨Q, 7, none⟩ (.int .i64 q)).setCell ⟨Q, 8, none⟩ (.int .i64 c)) (((((((((((((((w8.setCell ⟨Q, 3, none⟩ (.int .i64 k)).setCell ⟨Q, 4, none⟩ (.int .i64 m)).setCell ⟨Q, 5, none⟩ (.int .i64 d)).setCell ⟨Q, 6, none⟩ (.int .i64 o)).setCell ⟨Q, 7, none⟩ (.int .i64 q)).setCell ⟨Q, 8, none⟩ (.int .i64 c)).setCell ⟨R, 0, none⟩ (.string s)).setCell ⟨R, 1, none⟩ (.int .i64 n1)).setCell ⟨R, 2, none⟩ (.int .i64 n2)).setCell ⟨R, 3, none⟩ (.int .i64 k)).setCell ⟨R, 4, none⟩ (.int .i64 m)).setCell ⟨R, 5, none⟩ (.int .i64 d)).setCell ⟨R, 6, none⟩ (.int .i64 o)).setCell ⟨R, 7, none⟩ (.int .i64 q)).setCell ⟨R, 8, none⟩ (.int .i64 c)) := Bt.sets R [(.string s), (.int .i64 n1), (.int .i64 n2), (.int .i64 k), (.int .i64 m), (.int .i64 d), (.int .i64 o), (.int .i64 q), (.int .i64 c)] 0 ((((((w8.setCell ⟨Q, 3, none⟩ (.int .i64 k)).setCell ⟨Q, 4, none⟩ (.int .i64 m)).setCell ⟨Q, 5, none⟩ (.int .i64 d)).setCell ⟨Q, 6, none⟩ (.int .i64 o)).setCell ⟨Q, 7, none⟩ (.int .i64 q)).setCell ⟨Q, 8, none⟩ (.int .i64 c))
  have pR5 : (((((((((((((((w8.setCell ⟨Q, 3, none⟩ (.int .i64 k)).setCell ⟨Q, 4, none⟩ (.int .i64 m)).setCell ⟨Q, 5, none⟩ (.int .i64 d)).setCell ⟨Q, 6, none⟩ (.int .i64 o)).setCell ⟨Q, 7, none⟩ (.int .i64 q)).setCell ⟨Q, 8, none⟩ (.int .i64 c)).setCell ⟨R, 0, none⟩ (.string s)).setCell ⟨R, 1, none⟩ (.int .i64 n1)).setCell ⟨R, 2, none⟩ (.int .i64 n2)).setCell ⟨R, 3, none⟩ (.int .i64 k)).setCell ⟨R, 4, none⟩ (.int .i64 m)).setCell ⟨R, 5, none⟩ (.int .i64 d)).setCell ⟨R, 6, none⟩ (.int .i64 o)).setCell ⟨R, 7, none⟩ (.int .i64 q)).setCell ⟨R, 8, none⟩ (.int .i64 c)).heap[R]? = some (.cells #[.string s, .int .i64 n1, .int .i64 n2, .int .i64 k, .int .i64 m, .int .i64 d, .int .i64 o, .int .i64 q, .int .i64 c] 41 (0, 0)) := itm_all (.string s) (.int .i64 n1) (.int .i64 n2) (.int .i64 k) (.int .i64 m) (.int .i64 d) (.int .i64 o) (.int .i64 q) (.int .i64 c) pR4
  have pP5 := t5.row (show P ≠ R by omega) pP4
  have pQ5 := t5.row (show Q ≠ R by omega) pQ4
  have ps5 := t5.row (show b ≠ R by omega) ps4
  have hbp5 := hbp4.over t5 (show w.heap.size ≤ R by omega)
  go_wp2_with fail
  obtain ⟨u9, hu9⟩ : ∃ u9, u9 = (((((((((((((((w8.setCell ⟨Q, 3, none⟩ (.int .i64 k)).setCell ⟨Q, 4, none⟩ (.int .i64 m)).setCell ⟨Q, 5, none⟩ (.int .i64 d)).setCell ⟨Q, 6, none⟩ (.int .i64 o)).setCell ⟨Q, 7, none⟩ (.int .i64 q)).setCell ⟨Q, 8, none⟩ (.int .i64 c)).setCell ⟨R, 0, none⟩ (.string s)).setCell ⟨R, 1, none⟩ (.int .i64 n1)).setCell ⟨R, 2, none⟩ (.int .i64 n2)).setCell ⟨R, 3, none⟩ (.int .i64 k)).setCell ⟨R, 4, none⟩ (.int .i64 m)).setCell ⟨R, 5, none⟩ (.int .i64 d)).setCell ⟨R, 6, none⟩ (.int .i64 o)).setCell ⟨R, 7, none⟩ (.int .i64 q)).setCell ⟨R, 8, none⟩ (.int .i64 c)) := ⟨_, rfl⟩
  rw [← hu9] at pR5 ps5 hbp5 ⊢
  have k0 : u9.cell? ⟨R, 0, none⟩ = some (.string s) := by rw [cell_of_row _ R 0 _ _ _ pR5]; rfl
  have k1 : u9.cell? ⟨R, 1, none⟩ = some (.int .i64 n1) := by rw [cell_of_row _ R 1 _ _ _ pR5]; rfl
  have k2 : u9.cell? ⟨R, 2, none⟩ = some (.int .i64 n2) := by rw [cell_of_row _ R 2 _ _ _ pR5]; rfl
  have k3 : u9.cell? ⟨R, 3, none⟩ = some (.int .i64 k) := by rw [cell_of_row _ R 3 _ _ _ pR5]; rfl
  have k4 : u9.cell? ⟨R, 4, none⟩ = some (.int .i64 m) := by rw [cell_of_row _ R 4 _ _ _ pR5]; rfl
  have k5 : u9.cell? ⟨R, 5, none⟩ = some (.int .i64 d) := by rw [cell_of_row _ R 5 _ _ _ pR5]; rfl
  have k6 : u9.cell? ⟨R, 6, none⟩ = some (.int .i64 o) := by rw [cell_of_row _ R 6 _ _ _ pR5]; rfl
  have k7 : u9.cell? ⟨R, 7, none⟩ = some (.int .i64 q) := by rw [cell_of_row _ R 7 _ _ _ pR5]; rfl
  have k8 : u9.cell? ⟨R, 8, none⟩ = some (.int .i64 c) := by rw [cell_of_row _ R 8 _ _ _ pR5]; rfl
  exact bodyPost_ret (v := .agg #[.string s, .int .i64 n1, .int .i64 n2, .int .i64 k, .int .i64 m, .int .i64 d, .int .i64 o, .int .i64 q, .int .i64 c]) (by simp [results, Tryz.results41, go_sem, k0, k1, k2, k3, k4, k5, k6, k7, k8]) rfl ⟨rfl, ps5, hbp5⟩
set_option maxRecDepth 100000 in
set_option maxHeartbeats 1000000 in
theorem p26fea_go {S : ByteArray} {b : Nat} {x : Sc} {w : World} {s : ByteArray} {j n1 n2 k m d o q c : Int} {y1 y2 y3 y4 y5 : Sc} (h : w.heap[b]? = some (scX S x)) (hT : WTab w) (H1 : ∀ u : World, u.heap[b]? = some (scX S x) → Calls Tryz.prog 38 #[xp b, .slice (some ⟨u.heap.size, 0, none⟩) 1 1] (u.alloc (.cells #[.string ⟨#[102, 101, 97, 115, 116, 32]⟩] 9)) fun r w' => r = .returned (.int .i64 j) ∧ w'.heap[b]? = some (scX S y1) ∧ Bt b u w') (H2 : ∀ u : World, u.heap[b]? = some (scX S y1) → Calls Tryz.prog 65 #[pv b] u fun r w' => r = .returned (.string s) ∧ w'.heap[b]? = some (scX S y2) ∧ Bt b u w') (H3 : ∀ u : World, u.heap[b]? = some (scX S y2) → Calls Tryz.prog 39 #[pv b, .string wSp] u fun r w' => r = .returned (.int .i64 n1) ∧ w'.heap[b]? = some (scX S y3) ∧ Bt b u w') (HW : ∀ u : World, Calls Tryz.prog 58 #[] u fun e w' => ∃ g, e = .returned (.slice (some ⟨g, 0, none⟩) 3 3) ∧ StrsIn g 3 lPo w' ∧ u.heap.size ≤ g ∧ Below u.heap.size u w') (H4 : ∀ (u : World) (g : Nat), u.heap[b]? = some (scX S y3) → StrsIn g 3 lPo u → g ≠ b → Calls Tryz.prog 67 #[pv b, .slice (some ⟨g, 0, none⟩) 3 3] u fun r w' => r = .returned (.int .i64 n2) ∧ w'.heap[b]? = some (scX S y4) ∧ Bt b u w') (hn2 : -1 ≤ n2 ∧ n2 ≤ 2) (H5 : ∀ u : World, u.heap[b]? = some (scX S y4) → WTab u → Calls Tryz.prog 66 #[pv b] u fun r w' => r = .returned (.agg #[.int .i64 k, .int .i64 m, .int .i64 d, .int .i64 o, .int .i64 q, .int .i64 c]) ∧ w'.heap[b]? = some (scX S y5) ∧ Bt b u w') :
    Calls Tryz.prog 42 #[pv b] w fun r w' => r = .returned (.agg #[.string s, .int .i64 n1, .int .i64 (1 + n2), .int .i64 k, .int .i64 m, .int .i64 d, .int .i64 o, .int .i64 q, .int .i64 c]) ∧ w'.heap[b]? = some (scX S y5) ∧ Bt b w w' := by
  have H1 := Lib.hid H1
  have H2 := Lib.hid H2
  have H3 := Lib.hid H3
  have HW := Lib.hid HW
  have H4 := Lib.hid H4
  have H5 := Lib.hid H5
  have hw2 : IntKind.i64.wrap (1 + n2) = 1 + n2 := by rw [IntKind.wrap_i64]; omega
  clear hn2
  go_enter Tryz.func42, Tryz.ntmps42
  go_wp2_with fail
  obtain ⟨u, hu⟩ : ∃ u, u = (((w.alloc (.cells #[xp b] 47)).alloc (.cells #[.string ⟨#[]⟩, .int .i64 0, .int .i64 0, .int .i64 0, .int .i64 0, .int .i64 0, .int .i64 0, .int .i64 0, .int .i64 0] 43)).alloc (.cells #[.string ⟨#[]⟩, .int .i64 0, .int .i64 0, .int .i64 0, .int .i64 0, .int .i64 0, .int .i64 0, .int .i64 0, .int .i64 0] 43)) := ⟨_, rfl⟩
  have B0 : Below w.heap.size w u := hu ▸ al3 w _ _ _
  have rs := row_kept h B0
  have rP : u.heap[w.heap.size]? = some (.cells #[xp b] 47 (0, 0)) := hu ▸ row_on (heap_alloc_new _ _) (al2 _ _ _)
  have rR : u.heap[w.heap.size + 1]? = some (.cells #[.string ⟨#[]⟩, .int .i64 0, .int .i64 0, .int .i64 0, .int .i64 0, .int .i64 0, .int .i64 0, .int .i64 0, .int .i64 0] 43 (0, 0)) := hu ▸ row_on (row_new1 _ _ _) (al1 _ _)
  have rQ : u.heap[w.heap.size + 1 + 1]? = some (.cells #[.string ⟨#[]⟩, .int .i64 0, .int .i64 0, .int .i64 0, .int .i64 0, .int .i64 0, .int .i64 0, .int .i64 0, .int .i64 0] 43 (0, 0)) := hu ▸ row_new2 _ _ _ _
  have hz : w.heap.size + 1 + 1 + 1 = u.heap.size := by rw [hu]; simp
  rw [← hu]
  clear hu
  have hb := Bt.of_below (b := b) B0
  generalize hP : w.heap.size = P at *
  generalize hR : P + 1 = R at *
  generalize hQ : R + 1 = Q at *
  have lb : b < P := by have := row_lt h; omega
  rw [hz]
  clear hz
  have cP0_0 : u.cell? ⟨P, 0, none⟩ = some (xp b) := by rw [cell_of_row _ P 0 _ _ _ rP]; rfl
  have HT := Lib.hid (hT.below B0 (by have := hT.heap; omega))
  have hg := hT.heap
  refine (H1.out u rs).mono ?_
  clear cP0_0
  rintro e1 w1 ⟨rfl, rs1, g1⟩
  have rP_1 := g1.row (show P ≠ b by omega) rP
  have rR_1 := g1.row (show R ≠ b by omega) rR
  have rQ_1 := g1.row (show Q ≠ b by omega) rQ
  have hb1 := hb.trans g1
  have HT1 := Lib.hid (HT.out.mv g1 (ne_scan HT.out rs))
  have cP0_1 : w1.cell? ⟨P, 0, none⟩ = some (xp b) := by rw [cell_of_row _ P 0 _ _ _ rP_1]; rfl
  go_wp2_with fail
  refine (H2.out w1 rs1).mono ?_
  clear cP0_1
  rintro e2 w2 ⟨rfl, rs2, g2⟩
  have rP_2 := g2.row (show P ≠ b by omega) rP_1
  have rR_2 := g2.row (show R ≠ b by omega) rR_1
  have rQ_2 := g2.row (show Q ≠ b by omega) rQ_1
  have hb2 := hb1.trans g2
  have HT2 := Lib.hid (HT1.out.mv g2 (ne_scan HT1.out rs1))
  have cQ0_2 : w2.cell? ⟨Q, 0, none⟩ = some (.string ⟨#[]⟩) := by rw [cell_of_row _ Q 0 _ _ _ rQ_2]; rfl
  have fQ0_2 : w2.frozen? ⟨Q, 0, none⟩ = false := frozen_of_row _ Q 0 _ _ rQ_2
  have t1 : Bt Q w2 (w2.setCell ⟨Q, 0, none⟩ (.string s)) := Bt.sets Q [(.string s)] 0 w2
  have pQ1 : (w2.setCell ⟨Q, 0, none⟩ (.string s)).heap[Q]? = some (.cells #[.string s, .int .i64 0, .int .i64 0, .int .i64 0, .int .i64 0, .int .i64 0, .int .i64 0, .int .i64 0, .int .i64 0] 43 (0, 0)) := heap_setCell_same _ Q 0 _ _ _ rQ_2
  have pP1 := t1.row (show P ≠ Q by omega) rP_2
  have pR1 := t1.row (show R ≠ Q by omega) rR_2
  have ps1 := t1.row (show b ≠ Q by omega) rs2
  have hbp1 := hb2.over t1 (show w.heap.size ≤ Q by omega)
  have HT3 := Lib.hid (HT2.out.mv t1 (by omega))
  have cP0_3 : (w2.setCell ⟨Q, 0, none⟩ (.string s)).cell? ⟨P, 0, none⟩ = some (xp b) := by rw [cell_of_row _ P 0 _ _ _ pP1]; rfl
  go_wp2_with fail
  refine (H3.out (w2.setCell ⟨Q, 0, none⟩ (.string s)) ps1).mono ?_
  clear cQ0_2 fQ0_2 cP0_3
  rintro e4 w4 ⟨rfl, rs4, g4⟩
  have rP_4 := g4.row (show P ≠ b by omega) pP1
  have rR_4 := g4.row (show R ≠ b by omega) pR1
  have rQ_4 := g4.row (show Q ≠ b by omega) pQ1
  have hb4 := hbp1.trans g4
  have HT4 := Lib.hid (HT3.out.mv g4 (ne_scan HT3.out ps1))
  have cQ1_4 : w4.cell? ⟨Q, 1, none⟩ = some (.int .i64 0) := by rw [cell_of_row _ Q 1 _ _ _ rQ_4]; rfl
  have fQ1_4 : w4.frozen? ⟨Q, 1, none⟩ = false := frozen_of_row _ Q 1 _ _ rQ_4
  have t2 : Bt Q w4 (w4.setCell ⟨Q, 1, none⟩ (.int .i64 n1)) := Bt.sets Q [(.int .i64 n1)] 1 w4
  have pQ2 : (w4.setCell ⟨Q, 1, none⟩ (.int .i64 n1)).heap[Q]? = some (.cells #[.string s, .int .i64 n1, .int .i64 0, .int .i64 0, .int .i64 0, .int .i64 0, .int .i64 0, .int .i64 0, .int .i64 0] 43 (0, 0)) := heap_setCell_same _ Q 1 _ _ _ rQ_4
  have pP2 := t2.row (show P ≠ Q by omega) rP_4
  have pR2 := t2.row (show R ≠ Q by omega) rR_4
  have ps2 := t2.row (show b ≠ Q by omega) rs4
  have hbp2 := hb4.over t2 (show w.heap.size ≤ Q by omega)
  have HT5 := Lib.hid (HT4.out.mv t2 (by omega))
  have cP0_5 : (w4.setCell ⟨Q, 1, none⟩ (.int .i64 n1)).cell? ⟨P, 0, none⟩ = some (xp b) := by rw [cell_of_row _ P 0 _ _ _ pP2]; rfl
  go_wp2_with fail
  have Hs := Lib.hid (show ((w4.setCell ⟨Q, 1, none⟩ (.int .i64 n1))).drew.cell? ⟨P, 0, none⟩ = some (xp b) from by rw [cell_of_row ((w4.setCell ⟨Q, 1, none⟩ (.int .i64 n1))).drew P 0 _ _ _ pP2]; rfl)
  refine wp_region_held_drew (S := fun u => u.cell? ⟨P, 0, none⟩ = some (xp b)) (by kernel_rfl) Hs.out (fun hHeld => ?_)
  refine wpAnyH_take (i := 0) (oi := { dst := some 14, op := _, type := _, pos := _, after := _, guard := _ }) (v := ?v3_0) rfl (by kernel_rfl) (by kernel_rfl) (by kernel_rfl) (fun _ _ _ h => h) (Or.inl ⟨by rfl, ?hy3_0⟩) hHeld ?_
  case hy3_0 => (intro w hSw; (try dsimp only at hSw); go_simp; try with_reducible rfl)
  simp only [Act.put, List.setIfInBounds_toArray, List.set_cons_zero, List.set_cons_succ]
  refine wpAnyH_ready (rs := [1]) (by kernel_rfl) (by simp) ?_
  refine AllReadyH.cons (o := { dst := some 15, op := _, type := _, pos := _, after := _, guard := _ }) rfl (fun K hK => ?_) AllReadyH.nil
  go_simp
  go_at_call 58
  refine (HW.out _).mono ?_
  rintro ee1 v1 ⟨g1, rfl, hI1, hg1, q1⟩
  refine hK.out _ _ (cell_below Hs.out q1) (fun hHeld => ?_)
  clear hK K
  have vP1 := row_kept (show ((w4.setCell ⟨Q, 1, none⟩ (.int .i64 n1))).drew.heap[P]? = _ from pP2) q1
  have vR1 := row_kept (show ((w4.setCell ⟨Q, 1, none⟩ (.int .i64 n1))).drew.heap[R]? = _ from pR2) q1
  have vQ1 := row_kept (show ((w4.setCell ⟨Q, 1, none⟩ (.int .i64 n1))).drew.heap[Q]? = _ from pQ2) q1
  have vs1 := row_kept (show ((w4.setCell ⟨Q, 1, none⟩ (.int .i64 n1))).drew.heap[b]? = _ from ps2) q1
  have vb1 := hbp2.drew.trans (Bt.of_below q1)
  have HTv := Lib.hid ((HT5.out.on (below_dn (Below.refl _ _) 1)).on q1)
  refine wpAnyH_ready (rs := [2]) (by kernel_rfl) (by simp) ?_
  refine AllReadyH.cons (o := { dst := some 16, op := _, type := _, pos := _, after := _, guard := _ }) rfl (fun K hK => ?_) AllReadyH.nil
  go_simp
  go_at_call 67
  refine (H4.out v1 g1 vs1 hI1 (by have h1 := row_lt ps2; have h2 : ((w4.setCell ⟨Q, 1, none⟩ (.int .i64 n1))).heap.size ≤ g1 := hg1; omega)).mono ?_
  rintro ee2 v2 ⟨rfl, vs2, q2⟩
  refine hK.out _ _ (q2.cell (show P ≠ b by omega) (cell_below Hs.out q1)) (fun hHeld => ?_)
  clear hK K
  have vP2 := q2.row (show P ≠ b by omega) vP1
  have vR2 := q2.row (show R ≠ b by omega) vR1
  have vQ2 := q2.row (show Q ≠ b by omega) vQ1
  have vb2 := vb1.trans q2
  have HTw := Lib.hid (HTv.out.mv q2 (ne_scan HTv.out vs1))
  refine wpAnyH_take (i := 3) (oi := { dst := some 17, op := _, type := _, pos := _, after := _, guard := _ }) (v := ?v3_3) rfl (by kernel_rfl) (by kernel_rfl) (by kernel_rfl) (fun _ _ _ h => h) (Or.inl ⟨by rfl, ?hy3_3⟩) hHeld ?_
  case hy3_3 => (intro w hSw; (try dsimp only at hSw); go_simp; try with_reducible rfl)
  simp only [Act.put, List.setIfInBounds_toArray, List.set_cons_zero, List.set_cons_succ]
  refine wpAnyH_take (i := 4) (oi := { dst := some 18, op := _, type := _, pos := _, after := _, guard := _ }) (v := ?v3_4) rfl (by kernel_rfl) (by kernel_rfl) (by kernel_rfl) (fun _ _ _ h => h) (Or.inl ⟨by rfl, ?hy3_4⟩) hHeld ?_
  case hy3_4 => (intro w hSw; (try dsimp only at hSw); go_simp; try with_reducible rfl)
  simp only [Act.put, List.setIfInBounds_toArray, List.set_cons_zero, List.set_cons_succ]
  have cQ2_15 : v2.cell? ⟨Q, 2, none⟩ = some (.int .i64 0) := by rw [cell_of_row _ Q 2 _ _ _ vQ2]; rfl
  have fQ2_15 : v2.frozen? ⟨Q, 2, none⟩ = false := frozen_of_row _ Q 2 _ _ vQ2
  have t3 : Bt Q v2 (v2.setCell ⟨Q, 2, none⟩ (.int .i64 (1 + n2))) := Bt.sets Q [(.int .i64 (1 + n2))] 2 v2
  have HTx := Lib.hid (HTw.out.mv t3 (by omega))
  have pQ3 : (v2.setCell ⟨Q, 2, none⟩ (.int .i64 (1 + n2))).heap[Q]? = some (.cells #[.string s, .int .i64 n1, .int .i64 (1 + n2), .int .i64 0, .int .i64 0, .int .i64 0, .int .i64 0, .int .i64 0, .int .i64 0] 43 (0, 0)) := heap_setCell_same _ Q 2 _ _ _ vQ2
  have pP3 := t3.row (show P ≠ Q by omega) vP2
  have pR3 := t3.row (show R ≠ Q by omega) vR2
  have ps3 := t3.row (show b ≠ Q by omega) vs2
  have hbp3 := vb2.over t3 (show w.heap.size ≤ Q by omega)
  have cP0_16 : (v2.setCell ⟨Q, 2, none⟩ (.int .i64 (1 + n2))).cell? ⟨P, 0, none⟩ = some (xp b) := by rw [cell_of_row _ P 0 _ _ _ pP3]; rfl
  refine wpAnyH_ready (rs := [5]) (by kernel_rfl) (by simp) ?_
  refine AllReadyH.cons (o := { dst := none, op := _, type := _, pos := _, after := _, guard := _ }) rfl (fun K hK => ?_) AllReadyH.nil
  go_simp
  refine hK.out _ _ (by rw [cell_of_row _ P 0 _ _ _ pP3]; rfl) (fun hHeld => ?_)
  clear hK K
  refine wpAnyH_done (by kernel_rfl) ?_ _
  go_wp2_with fail
  refine (H5.out (v2.setCell ⟨Q, 2, none⟩ (.int .i64 (1 + n2))) ps3 HTx.out).mono ?_
  clear cQ1_4 fQ1_4 cP0_5 cQ2_15 fQ2_15 cP0_16
  rintro e17 w17 ⟨rfl, rs17, g17⟩
  have rP_17 := g17.row (show P ≠ b by omega) pP3
  have rR_17 := g17.row (show R ≠ b by omega) pR3
  have rQ_17 := g17.row (show Q ≠ b by omega) pQ3
  have hb17 := hbp3.trans g17
  have cQ3_17 : w17.cell? ⟨Q, 3, none⟩ = some (.int .i64 0) := by rw [cell_of_row _ Q 3 _ _ _ rQ_17]; rfl
  have fQ3_17 : w17.frozen? ⟨Q, 3, none⟩ = false := frozen_of_row _ Q 3 _ _ rQ_17
  have cQ4_17 : w17.cell? ⟨Q, 4, none⟩ = some (.int .i64 0) := by rw [cell_of_row _ Q 4 _ _ _ rQ_17]; rfl
  have fQ4_17 : w17.frozen? ⟨Q, 4, none⟩ = false := frozen_of_row _ Q 4 _ _ rQ_17
  have cQ5_17 : w17.cell? ⟨Q, 5, none⟩ = some (.int .i64 0) := by rw [cell_of_row _ Q 5 _ _ _ rQ_17]; rfl
  have fQ5_17 : w17.frozen? ⟨Q, 5, none⟩ = false := frozen_of_row _ Q 5 _ _ rQ_17
  have cQ6_17 : w17.cell? ⟨Q, 6, none⟩ = some (.int .i64 0) := by rw [cell_of_row _ Q 6 _ _ _ rQ_17]; rfl
  have fQ6_17 : w17.frozen? ⟨Q, 6, none⟩ = false := frozen_of_row _ Q 6 _ _ rQ_17
  have cQ7_17 : w17.cell? ⟨Q, 7, none⟩ = some (.int .i64 0) := by rw [cell_of_row _ Q 7 _ _ _ rQ_17]; rfl
  have fQ7_17 : w17.frozen? ⟨Q, 7, none⟩ = false := frozen_of_row _ Q 7 _ _ rQ_17
  have cQ8_17 : w17.cell? ⟨Q, 8, none⟩ = some (.int .i64 0) := by rw [cell_of_row _ Q 8 _ _ _ rQ_17]; rfl
  have fQ8_17 : w17.frozen? ⟨Q, 8, none⟩ = false := frozen_of_row _ Q 8 _ _ rQ_17
  have t4 : Bt Q w17 ((((((w17.setCell ⟨Q, 3, none⟩ (.int .i64 k)).setCell ⟨Q, 4, none⟩ (.int .i64 m)).setCell ⟨Q, 5, none⟩ (.int .i64 d)).setCell ⟨Q, 6, none⟩ (.int .i64 o)).setCell ⟨Q, 7, none⟩ (.int .i64 q)).setCell ⟨Q, 8, none⟩ (.int .i64 c)) := Bt.sets Q [(.int .i64 k), (.int .i64 m), (.int .i64 d), (.int .i64 o), (.int .i64 q), (.int .i64 c)] 3 w17
  have pQ4 : ((((((w17.setCell ⟨Q, 3, none⟩ (.int .i64 k)).setCell ⟨Q, 4, none⟩ (.int .i64 m)).setCell ⟨Q, 5, none⟩ (.int .i64 d)).setCell ⟨Q, 6, none⟩ (.int .i64 o)).setCell ⟨Q, 7, none⟩ (.int .i64 q)).setCell ⟨Q, 8, none⟩ (.int .i64 c)).heap[Q]? = some (.cells #[.string s, .int .i64 n1, .int .i64 (1 + n2), .int .i64 k, .int .i64 m, .int .i64 d, .int .i64 o, .int .i64 q, .int .i64 c] 43 (0, 0)) := itm_anc (.int .i64 k) (.int .i64 m) (.int .i64 d) (.int .i64 o) (.int .i64 q) (.int .i64 c) rQ_17
  have pP4 := t4.row (show P ≠ Q by omega) rP_17
  have pR4 := t4.row (show R ≠ Q by omega) rR_17
  have ps4 := t4.row (show b ≠ Q by omega) rs17
  have hbp4 := hb17.over t4 (show w.heap.size ≤ Q by omega)
  have cQ0_18 : ((((((w17.setCell ⟨Q, 3, none⟩ (.int .i64 k)).setCell ⟨Q, 4, none⟩ (.int .i64 m)).setCell ⟨Q, 5, none⟩ (.int .i64 d)).setCell ⟨Q, 6, none⟩ (.int .i64 o)).setCell ⟨Q, 7, none⟩ (.int .i64 q)).setCell ⟨Q, 8, none⟩ (.int .i64 c)).cell? ⟨Q, 0, none⟩ = some (.string s) := by rw [cell_of_row _ Q 0 _ _ _ pQ4]; rfl
  have cQ1_18 : ((((((w17.setCell ⟨Q, 3, none⟩ (.int .i64 k)).setCell ⟨Q, 4, none⟩ (.int .i64 m)).setCell ⟨Q, 5, none⟩ (.int .i64 d)).setCell ⟨Q, 6, none⟩ (.int .i64 o)).setCell ⟨Q, 7, none⟩ (.int .i64 q)).setCell ⟨Q, 8, none⟩ (.int .i64 c)).cell? ⟨Q, 1, none⟩ = some (.int .i64 n1) := by rw [cell_of_row _ Q 1 _ _ _ pQ4]; rfl
  have cQ2_18 : ((((((w17.setCell ⟨Q, 3, none⟩ (.int .i64 k)).setCell ⟨Q, 4, none⟩ (.int .i64 m)).setCell ⟨Q, 5, none⟩ (.int .i64 d)).setCell ⟨Q, 6, none⟩ (.int .i64 o)).setCell ⟨Q, 7, none⟩ (.int .i64 q)).setCell ⟨Q, 8, none⟩ (.int .i64 c)).cell? ⟨Q, 2, none⟩ = some (.int .i64 (1 + n2)) := by rw [cell_of_row _ Q 2 _ _ _ pQ4]; rfl
  have cQ3_18 : ((((((w17.setCell ⟨Q, 3, none⟩ (.int .i64 k)).setCell ⟨Q, 4, none⟩ (.int .i64 m)).setCell ⟨Q, 5, none⟩ (.int .i64 d)).setCell ⟨Q, 6, none⟩ (.int .i64 o)).setCell ⟨Q, 7, none⟩ (.int .i64 q)).setCell ⟨Q, 8, none⟩ (.int .i64 c)).cell? ⟨Q, 3, none⟩ = some (.int .i64 k) := by rw [cell_of_row _ Q 3 _ _ _ pQ4]; rfl
  have cQ4_18 : ((((((w17.setCell ⟨Q, 3, none⟩ (.int .i64 k)).setCell ⟨Q, 4, none⟩ (.int .i64 m)).setCell ⟨Q, 5, none⟩ (.int .i64 d)).setCell ⟨Q, 6, none⟩ (.int .i64 o)).setCell ⟨Q, 7, none⟩ (.int .i64 q)).setCell ⟨Q, 8, none⟩ (.int .i64 c)).cell? ⟨Q, 4, none⟩ = some (.int .i64 m) := by rw [cell_of_row _ Q 4 _ _ _ pQ4]; rfl
  have cQ5_18 : ((((((w17.setCell ⟨Q, 3, none⟩ (.int .i64 k)).setCell ⟨Q, 4, none⟩ (.int .i64 m)).setCell ⟨Q, 5, none⟩ (.int .i64 d)).setCell ⟨Q, 6, none⟩ (.int .i64 o)).setCell ⟨Q, 7, none⟩ (.int .i64 q)).setCell ⟨Q, 8, none⟩ (.int .i64 c)).cell? ⟨Q, 5, none⟩ = some (.int .i64 d) := by rw [cell_of_row _ Q 5 _ _ _ pQ4]; rfl
  have cQ6_18 : ((((((w17.setCell ⟨Q, 3, none⟩ (.int .i64 k)).setCell ⟨Q, 4, none⟩ (.int .i64 m)).setCell ⟨Q, 5, none⟩ (.int .i64 d)).setCell ⟨Q, 6, none⟩ (.int .i64 o)).setCell ⟨Q, 7, none⟩ (.int .i64 q)).setCell ⟨Q, 8, none⟩ (.int .i64 c)).cell? ⟨Q, 6, none⟩ = some (.int .i64 o) := by rw [cell_of_row _ Q 6 _ _ _ pQ4]; rfl
  have cQ7_18 : ((((((w17.setCell ⟨Q, 3, none⟩ (.int .i64 k)).setCell ⟨Q, 4, none⟩ (.int .i64 m)).setCell ⟨Q, 5, none⟩ (.int .i64 d)).setCell ⟨Q, 6, none⟩ (.int .i64 o)).setCell ⟨Q, 7, none⟩ (.int .i64 q)).setCell ⟨Q, 8, none⟩ (.int .i64 c)).cell? ⟨Q, 7, none⟩ = some (.int .i64 q) := by rw [cell_of_row _ Q 7 _ _ _ pQ4]; rfl
  have cQ8_18 : ((((((w17.setCell ⟨Q, 3, none⟩ (.int .i64 k)).setCell ⟨Q, 4, none⟩ (.int .i64 m)).setCell ⟨Q, 5, none⟩ (.int .i64 d)).setCell ⟨Q, 6, none⟩ (.int .i64 o)).setCell ⟨Q, 7, none⟩ (.int .i64 q)).setCell ⟨Q, 8, none⟩ (.int .i64 c)).cell? ⟨Q, 8, none⟩ = some (.int .i64 c) := by rw [cell_of_row _ Q 8 _ _ _ pQ4]; rfl
  have cR0_18 : ((((((w17.setCell ⟨Q, 3, none⟩ (.int .i64 k)).setCell ⟨Q, 4, none⟩ (.int .i64 m)).setCell ⟨Q, 5, none⟩ (.int .i64 d)).setCell ⟨Q, 6, none⟩ (.int .i64 o)).setCell ⟨Q, 7, none⟩ (.int .i64 q)).setCell ⟨Q, 8, none⟩ (.int .i64 c)).cell? ⟨R, 0, none⟩ = some (.string ⟨#[]⟩) := by rw [cell_of_row _ R 0 _ _ _ pR4]; rfl
  have fR0_18 : ((((((w17.setCell ⟨Q, 3, none⟩ (.int .i64 k)).setCell ⟨Q, 4, none⟩ (.int .i64 m)).setCell ⟨Q, 5, none⟩ (.int .i64 d)).setCell ⟨Q, 6, none⟩ (.int .i64 o)).setCell ⟨Q, 7, none⟩ (.int .i64 q)).setCell ⟨Q, 8, none⟩ (.int .i64 c)).frozen? ⟨R, 0, none⟩ = false := frozen_of_row _ R 0 _ _ pR4
  have cR1_18 : ((((((w17.setCell ⟨Q, 3, none⟩ (.int .i64 k)).setCell ⟨Q, 4, none⟩ (.int .i64 m)).setCell ⟨Q, 5, none⟩ (.int .i64 d)).setCell ⟨Q, 6, none⟩ (.int .i64 o)).setCell ⟨Q, 7, none⟩ (.int .i64 q)).setCell ⟨Q, 8, none⟩ (.int .i64 c)).cell? ⟨R, 1, none⟩ = some (.int .i64 0) := by rw [cell_of_row _ R 1 _ _ _ pR4]; rfl
  have fR1_18 : ((((((w17.setCell ⟨Q, 3, none⟩ (.int .i64 k)).setCell ⟨Q, 4, none⟩ (.int .i64 m)).setCell ⟨Q, 5, none⟩ (.int .i64 d)).setCell ⟨Q, 6, none⟩ (.int .i64 o)).setCell ⟨Q, 7, none⟩ (.int .i64 q)).setCell ⟨Q, 8, none⟩ (.int .i64 c)).frozen? ⟨R, 1, none⟩ = false := frozen_of_row _ R 1 _ _ pR4
  have cR2_18 : ((((((w17.setCell ⟨Q, 3, none⟩ (.int .i64 k)).setCell ⟨Q, 4, none⟩ (.int .i64 m)).setCell ⟨Q, 5, none⟩ (.int .i64 d)).setCell ⟨Q, 6, none⟩ (.int .i64 o)).setCell ⟨Q, 7, none⟩ (.int .i64 q)).setCell ⟨Q, 8, none⟩ (.int .i64 c)).cell? ⟨R, 2, none⟩ = some (.int .i64 0) := by rw [cell_of_row _ R 2 _ _ _ pR4]; rfl
  have fR2_18 : ((((((w17.setCell ⟨Q, 3, none⟩ (.int .i64 k)).setCell ⟨Q, 4, none⟩ (.int .i64 m)).setCell ⟨Q, 5, none⟩ (.int .i64 d)).setCell ⟨Q, 6, none⟩ (.int .i64 o)).setCell ⟨Q, 7, none⟩ (.int .i64 q)).setCell ⟨Q, 8, none⟩ (.int .i64 c)).frozen? ⟨R, 2, none⟩ = false := frozen_of_row _ R 2 _ _ pR4
  have cR3_18 : ((((((w17.setCell ⟨Q, 3, none⟩ (.int .i64 k)).setCell ⟨Q, 4, none⟩ (.int .i64 m)).setCell ⟨Q, 5, none⟩ (.int .i64 d)).setCell ⟨Q, 6, none⟩ (.int .i64 o)).setCell ⟨Q, 7, none⟩ (.int .i64 q)).setCell ⟨Q, 8, none⟩ (.int .i64 c)).cell? ⟨R, 3, none⟩ = some (.int .i64 0) := by rw [cell_of_row _ R 3 _ _ _ pR4]; rfl
  have fR3_18 : ((((((w17.setCell ⟨Q, 3, none⟩ (.int .i64 k)).setCell ⟨Q, 4, none⟩ (.int .i64 m)).setCell ⟨Q, 5, none⟩ (.int .i64 d)).setCell ⟨Q, 6, none⟩ (.int .i64 o)).setCell ⟨Q, 7, none⟩ (.int .i64 q)).setCell ⟨Q, 8, none⟩ (.int .i64 c)).frozen? ⟨R, 3, none⟩ = false := frozen_of_row _ R 3 _ _ pR4
  have cR4_18 : ((((((w17.setCell ⟨Q, 3, none⟩ (.int .i64 k)).setCell ⟨Q, 4, none⟩ (.int .i64 m)).setCell ⟨Q, 5, none⟩ (.int .i64 d)).setCell ⟨Q, 6, none⟩ (.int .i64 o)).setCell ⟨Q, 7, none⟩ (.int .i64 q)).setCell ⟨Q, 8, none⟩ (.int .i64 c)).cell? ⟨R, 4, none⟩ = some (.int .i64 0) := by rw [cell_of_row _ R 4 _ _ _ pR4]; rfl
  have fR4_18 : ((((((w17.setCell ⟨Q, 3, none⟩ (.int .i64 k)).setCell ⟨Q, 4, none⟩ (.int .i64 m)).setCell ⟨Q, 5, none⟩ (.int .i64 d)).setCell ⟨Q, 6, none⟩ (.int .i64 o)).setCell ⟨Q, 7, none⟩ (.int .i64 q)).setCell ⟨Q, 8, none⟩ (.int .i64 c)).frozen? ⟨R, 4, none⟩ = false := frozen_of_row _ R 4 _ _ pR4
  have cR5_18 : ((((((w17.setCell ⟨Q, 3, none⟩ (.int .i64 k)).setCell ⟨Q, 4, none⟩ (.int .i64 m)).setCell ⟨Q, 5, none⟩ (.int .i64 d)).setCell ⟨Q, 6, none⟩ (.int .i64 o)).setCell ⟨Q, 7, none⟩ (.int .i64 q)).setCell ⟨Q, 8, none⟩ (.int .i64 c)).cell? ⟨R, 5, none⟩ = some (.int .i64 0) := by rw [cell_of_row _ R 5 _ _ _ pR4]; rfl
  have fR5_18 : ((((((w17.setCell ⟨Q, 3, none⟩ (.int .i64 k)).setCell ⟨Q, 4, none⟩ (.int .i64 m)).setCell ⟨Q, 5, none⟩ (.int .i64 d)).setCell ⟨Q, 6, none⟩ (.int .i64 o)).setCell ⟨Q, 7, none⟩ (.int .i64 q)).setCell ⟨Q, 8, none⟩ (.int .i64 c)).frozen? ⟨R, 5, none⟩ = false := frozen_of_row _ R 5 _ _ pR4
  have cR6_18 : ((((((w17.setCell ⟨Q, 3, none⟩ (.int .i64 k)).setCell ⟨Q, 4, none⟩ (.int .i64 m)).setCell ⟨Q, 5, none⟩ (.int .i64 d)).setCell ⟨Q, 6, none⟩ (.int .i64 o)).setCell ⟨Q, 7, none⟩ (.int .i64 q)).setCell ⟨Q, 8, none⟩ (.int .i64 c)).cell? ⟨R, 6, none⟩ = some (.int .i64 0) := by rw [cell_of_row _ R 6 _ _ _ pR4]; rfl
  have fR6_18 : ((((((w17.setCell ⟨Q, 3, none⟩ (.int .i64 k)).setCell ⟨Q, 4, none⟩ (.int .i64 m)).setCell ⟨Q, 5, none⟩ (.int .i64 d)).setCell ⟨Q, 6, none⟩ (.int .i64 o)).setCell ⟨Q, 7, none⟩ (.int .i64 q)).setCell ⟨Q, 8, none⟩ (.int .i64 c)).frozen? ⟨R, 6, none⟩ = false := frozen_of_row _ R 6 _ _ pR4
  have cR7_18 : ((((((w17.setCell ⟨Q, 3, none⟩ (.int .i64 k)).setCell ⟨Q, 4, none⟩ (.int .i64 m)).setCell ⟨Q, 5, none⟩ (.int .i64 d)).setCell ⟨Q, 6, none⟩ (.int .i64 o)).setCell ⟨Q, 7, none⟩ (.int .i64 q)).setCell ⟨Q, 8, none⟩ (.int .i64 c)).cell? ⟨R, 7, none⟩ = some (.int .i64 0) := by rw [cell_of_row _ R 7 _ _ _ pR4]; rfl
  have fR7_18 : ((((((w17.setCell ⟨Q, 3, none⟩ (.int .i64 k)).setCell ⟨Q, 4, none⟩ (.int .i64 m)).setCell ⟨Q, 5, none⟩ (.int .i64 d)).setCell ⟨Q, 6, none⟩ (.int .i64 o)).setCell ⟨Q, 7, none⟩ (.int .i64 q)).setCell ⟨Q, 8, none⟩ (.int .i64 c)).frozen? ⟨R, 7, none⟩ = false := frozen_of_row _ R 7 _ _ pR4
  have cR8_18 : ((((((w17.setCell ⟨Q, 3, none⟩ (.int .i64 k)).setCell ⟨Q, 4, none⟩ (.int .i64 m)).setCell ⟨Q, 5, none⟩ (.int .i64 d)).setCell ⟨Q, 6, none⟩ (.int .i64 o)).setCell ⟨Q, 7, none⟩ (.int .i64 q)).setCell ⟨Q, 8, none⟩ (.int .i64 c)).cell? ⟨R, 8, none⟩ = some (.int .i64 0) := by rw [cell_of_row _ R 8 _ _ _ pR4]; rfl
  have fR8_18 : ((((((w17.setCell ⟨Q, 3, none⟩ (.int .i64 k)).setCell ⟨Q, 4, none⟩ (.int .i64 m)).setCell ⟨Q, 5, none⟩ (.int .i64 d)).setCell ⟨Q, 6, none⟩ (.int .i64 o)).setCell ⟨Q, 7, none⟩ (.int .i64 q)).setCell ⟨Q, 8, none⟩ (.int .i64 c)).frozen? ⟨R, 8, none⟩ = false := frozen_of_row _ R 8 _ _ pR4
  have t5 : Bt R ((((((w17.setCell ⟨Q, 3, none⟩ (.int .i64 k)).setCell ⟨Q, 4, none⟩ (.int .i64 m)).setCell ⟨Q, 5, none⟩ (.int .i64 d)).setCell ⟨Q, 6, none⟩ (.int .i64 o)).setCell ⟨Q, 7, none⟩ (.int .i64 q)).setCell ⟨Q, 8, none⟩ (.int .i64 c)) (((((((((((((((w17.setCell ⟨Q, 3, none⟩ (.int .i64 k)).setCell ⟨Q, 4, none⟩ (.int .i64 m)).setCell ⟨Q, 5, none⟩ (.int .i64 d)).setCell ⟨Q, 6, none⟩ (.int .i64 o)).setCell ⟨Q, 7, none⟩ (.int .i64 q)).setCell ⟨Q, 8, none⟩ (.int .i64 c)).setCell ⟨R, 0, none⟩ (.string s)).setCell ⟨R, 1, none⟩ (.int .i64 n1)).setCell ⟨R, 2, none⟩ (.int .i64 (1 + n2))).setCell ⟨R, 3, none⟩ (.int .i64 k)).setCell ⟨R, 4, none⟩ (.int .i64 m)).setCell ⟨R, 5, none⟩ (.int .i64 d)).setCell ⟨R, 6, none⟩ (.int .i64 o)).setCell ⟨R, 7, none⟩ (.int .i64 q)).setCell ⟨R, 8, none⟩ (.int .i64 c)) := Bt.sets R [(.string s), (.int .i64 n1), (.int .i64 (1 + n2)), (.int .i64 k), (.int .i64 m), (.int .i64 d), (.int .i64 o), (.int .i64 q), (.int .i64 c)] 0 ((((((w17.setCell ⟨Q, 3, none⟩ (.int .i64 k)).setCell ⟨Q, 4, none⟩ (.int .i64 m)).setCell ⟨Q, 5, none⟩ (.int .i64 d)).setCell ⟨Q, 6, none⟩ (.int .i64 o)).setCell ⟨Q, 7, none⟩ (.int .i64 q)).setCell ⟨Q, 8, none⟩ (.int .i64 c))
  have pR5 : (((((((((((((((w17.setCell ⟨Q, 3, none⟩ (.int .i64 k)).setCell ⟨Q, 4, none⟩ (.int .i64 m)).setCell ⟨Q, 5, none⟩ (.int .i64 d)).setCell ⟨Q, 6, none⟩ (.int .i64 o)).setCell ⟨Q, 7, none⟩ (.int .i64 q)).setCell ⟨Q, 8, none⟩ (.int .i64 c)).setCell ⟨R, 0, none⟩ (.string s)).setCell ⟨R, 1, none⟩ (.int .i64 n1)).setCell ⟨R, 2, none⟩ (.int .i64 (1 + n2))).setCell ⟨R, 3, none⟩ (.int .i64 k)).setCell ⟨R, 4, none⟩ (.int .i64 m)).setCell ⟨R, 5, none⟩ (.int .i64 d)).setCell ⟨R, 6, none⟩ (.int .i64 o)).setCell ⟨R, 7, none⟩ (.int .i64 q)).setCell ⟨R, 8, none⟩ (.int .i64 c)).heap[R]? = some (.cells #[.string s, .int .i64 n1, .int .i64 (1 + n2), .int .i64 k, .int .i64 m, .int .i64 d, .int .i64 o, .int .i64 q, .int .i64 c] 43 (0, 0)) := itm_all (.string s) (.int .i64 n1) (.int .i64 (1 + n2)) (.int .i64 k) (.int .i64 m) (.int .i64 d) (.int .i64 o) (.int .i64 q) (.int .i64 c) pR4
  have pP5 := t5.row (show P ≠ R by omega) pP4
  have pQ5 := t5.row (show Q ≠ R by omega) pQ4
  have ps5 := t5.row (show b ≠ R by omega) ps4
  have hbp5 := hbp4.over t5 (show w.heap.size ≤ R by omega)
  go_wp2_with fail
  obtain ⟨u9, hu9⟩ : ∃ u9, u9 = (((((((((((((((w17.setCell ⟨Q, 3, none⟩ (.int .i64 k)).setCell ⟨Q, 4, none⟩ (.int .i64 m)).setCell ⟨Q, 5, none⟩ (.int .i64 d)).setCell ⟨Q, 6, none⟩ (.int .i64 o)).setCell ⟨Q, 7, none⟩ (.int .i64 q)).setCell ⟨Q, 8, none⟩ (.int .i64 c)).setCell ⟨R, 0, none⟩ (.string s)).setCell ⟨R, 1, none⟩ (.int .i64 n1)).setCell ⟨R, 2, none⟩ (.int .i64 (1 + n2))).setCell ⟨R, 3, none⟩ (.int .i64 k)).setCell ⟨R, 4, none⟩ (.int .i64 m)).setCell ⟨R, 5, none⟩ (.int .i64 d)).setCell ⟨R, 6, none⟩ (.int .i64 o)).setCell ⟨R, 7, none⟩ (.int .i64 q)).setCell ⟨R, 8, none⟩ (.int .i64 c)) := ⟨_, rfl⟩
  rw [← hu9] at pR5 ps5 hbp5 ⊢
  have k0 : u9.cell? ⟨R, 0, none⟩ = some (.string s) := by rw [cell_of_row _ R 0 _ _ _ pR5]; rfl
  have k1 : u9.cell? ⟨R, 1, none⟩ = some (.int .i64 n1) := by rw [cell_of_row _ R 1 _ _ _ pR5]; rfl
  have k2 : u9.cell? ⟨R, 2, none⟩ = some (.int .i64 (1 + n2)) := by rw [cell_of_row _ R 2 _ _ _ pR5]; rfl
  have k3 : u9.cell? ⟨R, 3, none⟩ = some (.int .i64 k) := by rw [cell_of_row _ R 3 _ _ _ pR5]; rfl
  have k4 : u9.cell? ⟨R, 4, none⟩ = some (.int .i64 m) := by rw [cell_of_row _ R 4 _ _ _ pR5]; rfl
  have k5 : u9.cell? ⟨R, 5, none⟩ = some (.int .i64 d) := by rw [cell_of_row _ R 5 _ _ _ pR5]; rfl
  have k6 : u9.cell? ⟨R, 6, none⟩ = some (.int .i64 o) := by rw [cell_of_row _ R 6 _ _ _ pR5]; rfl
  have k7 : u9.cell? ⟨R, 7, none⟩ = some (.int .i64 q) := by rw [cell_of_row _ R 7 _ _ _ pR5]; rfl
  have k8 : u9.cell? ⟨R, 8, none⟩ = some (.int .i64 c) := by rw [cell_of_row _ R 8 _ _ _ pR5]; rfl
  exact bodyPost_ret (v := .agg #[.string s, .int .i64 n1, .int .i64 (1 + n2), .int .i64 k, .int .i64 m, .int .i64 d, .int .i64 o, .int .i64 q, .int .i64 c]) (by simp [results, Tryz.results42, go_sem, k0, k1, k2, k3, k4, k5, k6, k7, k8]) rfl ⟨rfl, ps5, hbp5⟩
end Go.Proofs.YthmfhgehahpgbaaGreatDoor
