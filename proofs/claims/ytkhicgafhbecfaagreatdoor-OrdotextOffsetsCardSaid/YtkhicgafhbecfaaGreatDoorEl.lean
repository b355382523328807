/- Package ordotext: parts, origin, others. -/
import Derived.Test.YtkhicgafhbecfaaGreatDoorEk
import Derived.Deep.AppendLies
import Derived.Test.YtkhicgafhbecfaaGreatDoorL1
namespace Go.Proofs.YtkhicgafhbecfaaGreatDoor
open Go.RowKit

theorem p27prt (b E : Nat) (w : World) : Calls Tryz.prog 72 #[pv b, .pointer (some ⟨E, 0, none⟩)] w fun r w' => r = .returned (.slice (some ⟨w.heap.size + 1 + 1, 0, none⟩) 8 8) ∧ w'.heap[w.heap.size]? = some (bxQ b) ∧ w'.heap[w.heap.size + 1]? = some (.cells #[.pointer (some ⟨E, 0, none⟩)] 99 (0, 0)) ∧
    w'.heap[w.heap.size + 1 + 1]? = some (.cells #[.func (.func 89) #[] #[.pointer (some ⟨w.heap.size, 0, none⟩), .pointer (some ⟨w.heap.size + 1, 0, none⟩)], .func (.func 90) #[] #[.pointer (some ⟨w.heap.size, 0, none⟩), .pointer (some ⟨w.heap.size + 1, 0, none⟩)], .func (.func 91) #[] #[.pointer (some ⟨w.heap.size, 0, none⟩), .pointer (some ⟨w.heap.size + 1, 0, none⟩)], .func (.func 93) #[] #[.pointer (some ⟨w.heap.size, 0, none⟩), .pointer (some ⟨w.heap.size + 1, 0, none⟩)], .func (.func 95) #[] #[.pointer (some ⟨w.heap.size, 0, none⟩), .pointer (some ⟨w.heap.size + 1, 0, none⟩)], .func (.func 96) #[] #[.pointer (some ⟨w.heap.size, 0, none⟩), .pointer (some ⟨w.heap.size + 1, 0, none⟩)], .func (.func 97) #[] #[.pointer (some ⟨w.heap.size, 0, none⟩), .pointer (some ⟨w.heap.size + 1, 0, none⟩)], .func (.func 98) #[] #[.pointer (some ⟨w.heap.size, 0, none⟩), .pointer (some ⟨w.heap.size + 1, 0, none⟩)]] 1 (0, 0)) ∧ Below w.heap.size w w' := by
  go_enter Tryz.func72, Tryz.ntmps72
  go_wp2_with fail
  go_ret
  exact ⟨rfl, row_on (heap_alloc_new _ _) (al2 _ _ _), row_on (row_new1 _ _ _) (al1 _ _), row_new2 _ _ _ _, al3 w _ _ _⟩
/-! origin -/
set_option maxRecDepth 100000 in
set_option maxHeartbeats 1000000 in
theorem p27org_go {S : ByteArray} {b : Nat} {x x1 x2 x3 x4 : Sc} {w : World} {y m d i j : Int} (h : w.heap[b]? = some (scX S x))
    (H1 : ∀ (u : World) (g : Nat), g = u.heap.size → u.heap[b]? = some (scX S x) → Calls Tryz.prog 43 #[xp b, .slice (some ⟨g, 0, none⟩) 1 1] (u.alloc (.cells #[.string wFm] 9)) fun r w' => r = .returned (.int .i64 i) ∧ w'.heap[b]? = some (scX S x1) ∧ Bt b u w')
    (H2 : ∀ u : World, u.heap[b]? = some (scX S x1) → Calls Tryz.prog 44 #[xp b] u fun r w' => r = .returned (.int .i64 m) ∧ w'.heap[b]? = some (scX S x2) ∧ Bt b u w')
    (H3 : ∀ (u : World) (g : Nat), g = u.heap.size → u.heap[b]? = some (scX S x2) → Calls Tryz.prog 43 #[xp b, .slice (some ⟨g, 0, none⟩) 1 1] (u.alloc (.cells #[.string wSp] 9)) fun r w' => r = .returned (.int .i64 j) ∧ w'.heap[b]? = some (scX S x3) ∧ Bt b u w')
    (H4 : ∀ u : World, u.heap[b]? = some (scX S x3) → Calls Tryz.prog 44 #[xp b] u fun r w' => r = .returned (.int .i64 d) ∧ w'.heap[b]? = some (scX S x4) ∧ Bt b u w') :
    Calls Tryz.prog 73 #[pv b, .int .i64 y] w fun r w' => r = .returned (.agg #[.int .i64 y, .int .i64 m, .int .i64 d]) ∧ w'.heap[b]? = some (scX S x4) ∧ Bt b w w' := by
  have H1 := Lib.hid H1
  have H2 := Lib.hid H2
  have H3 := Lib.hid H3
  have H4 := Lib.hid H4
  go_enter Tryz.func73, Tryz.ntmps73
  go_wp2_with fail
  obtain ⟨u, hu⟩ : ∃ u, u = (((w.alloc (bxQ b)).alloc (.cells #[.int .i64 0, .int .i64 0, .int .i64 0] 37)).alloc (.cells #[.int .i64 y, .int .i64 0, .int .i64 0] 37)) := ⟨_, rfl⟩
  have B0 : Below w.heap.size w u := hu ▸ al3 w _ _ _
  have rs := row_kept h B0
  have rP : u.heap[w.heap.size]? = some (bxQ b) := hu ▸ row_on (heap_alloc_new _ _) (al2 _ _ _)
  have rR : u.heap[w.heap.size + 1]? = some (.cells #[.int .i64 0, .int .i64 0, .int .i64 0] 37 (0, 0)) := hu ▸ row_on (row_new1 _ _ _) (al1 _ _)
  have rQ : u.heap[w.heap.size + 1 + 1]? = some (.cells #[.int .i64 y, .int .i64 0, .int .i64 0] 37 (0, 0)) := hu ▸ row_new2 _ _ _ _
  have hz : w.heap.size + 1 + 1 + 1 = u.heap.size := by rw [hu]; simp
  rw [← hu]
  clear hu
  have hb := Bt.of_below (b := b) B0
  have lb : b < w.heap.size := row_lt h
  generalize hP : w.heap.size = P at *
  generalize hR : P + 1 = R at *
  generalize hQ : R + 1 = Q at *
  refine (H1.out u _ hz rs).mono ?_
  rintro e w1 ⟨rfl, rs1, g1⟩
  replace rs := rs1
  replace rP := g1.row (show P ≠ b by omega) rP
  replace rR := g1.row (show R ≠ b by omega) rR
  replace rQ := g1.row (show Q ≠ b by omega) rQ
  replace hb := hb.trans g1
  clear rs1 g1
  have cP0 : w1.cell? ⟨P, 0, none⟩ = some (xp b) := by rw [cell_of_row _ _ _ _ _ _ rP]; rfl
  go_wp2_with fail
  clear cP0
  refine (H2.out w1 rs).mono ?_
  rintro e w2 ⟨rfl, rs2, g2⟩
  replace rs := rs2
  replace rP := g2.row (show P ≠ b by omega) rP
  replace rR := g2.row (show R ≠ b by omega) rR
  replace rQ := g2.row (show Q ≠ b by omega) rQ
  replace hb := hb.trans g2
  clear rs2 g2
  have q1 : w2.cell? ⟨Q, 1, none⟩ = some (.int .i64 0) := by rw [cell_of_row _ _ _ _ _ _ rQ]; rfl
  have f1 : w2.frozen? ⟨Q, 1, none⟩ = false := frozen_of_row _ _ _ _ _ rQ
  have g := Bt.set Q w2 1 (.int .i64 m)
  replace rs := g.row (show b ≠ Q by omega) rs
  replace rP := g.row (show P ≠ Q by omega) rP
  replace rR := g.row (show R ≠ Q by omega) rR
  replace rQ : (w2.setCell ⟨Q, 1, none⟩ (.int .i64 m)).heap[Q]? = some (.cells #[.int .i64 y, .int .i64 m, .int .i64 0] 37 (0, 0)) := heap_setCell_same _ Q 1 _ _ _ rQ
  replace hb := hb.over g (show w.heap.size ≤ Q by omega)
  have cP0 : (w2.setCell ⟨Q, 1, none⟩ (.int .i64 m)).cell? ⟨P, 0, none⟩ = some (xp b) := by rw [cell_of_row _ _ _ _ _ _ rP]; rfl
  clear hz
  go_wp2_with fail
  clear cP0 q1 f1 g
  have hz : w2.heap.size = (w2.setCell ⟨Q, 1, none⟩ (.int .i64 m)).heap.size := by simp
  generalize w2.setCell ⟨Q, 1, none⟩ (.int .i64 m) = v2 at *
  refine (H3.out v2 _ hz rs).mono ?_
  rintro e w3 ⟨rfl, rs3, g3⟩
  replace rs := rs3
  replace rP := g3.row (show P ≠ b by omega) rP
  replace rR := g3.row (show R ≠ b by omega) rR
  replace rQ := g3.row (show Q ≠ b by omega) rQ
  replace hb := hb.trans g3
  clear rs3 g3
  have cP0 : w3.cell? ⟨P, 0, none⟩ = some (xp b) := by rw [cell_of_row _ _ _ _ _ _ rP]; rfl
  go_wp2_with fail
  clear cP0
  refine (H4.out w3 rs).mono ?_
  rintro e w4 ⟨rfl, rs4, g4⟩
  replace rs := rs4
  replace rP := g4.row (show P ≠ b by omega) rP
  replace rR := g4.row (show R ≠ b by omega) rR
  replace rQ := g4.row (show Q ≠ b by omega) rQ
  replace hb := hb.trans g4
  clear rs4 g4
  have q2 : w4.cell? ⟨Q, 2, none⟩ = some (.int .i64 0) := by rw [cell_of_row _ _ _ _ _ _ rQ]; rfl
  have f2 : w4.frozen? ⟨Q, 2, none⟩ = false := frozen_of_row _ _ _ _ _ rQ
  have g := Bt.set Q w4 2 (.int .i64 d)
  replace rs := g.row (show b ≠ Q by omega) rs
  replace rR := g.row (show R ≠ Q by omega) rR
  replace rQ : (w4.setCell ⟨Q, 2, none⟩ (.int .i64 d)).heap[Q]? = some (.cells #[.int .i64 y, .int .i64 m, .int .i64 d] 37 (0, 0)) := heap_setCell_same _ Q 2 _ _ _ rQ
  replace hb := hb.over g (show w.heap.size ≤ Q by omega)
  obtain ⟨k0, k1, k2, l0, l1, l2, -⟩ := row3 rQ
  obtain ⟨m0, m1, m2, n0, n1, n2, -⟩ := row3 rR
  go_wp2_with fail
  clear q2 f2 g k0 k1 k2 l0 l1 l2 m0 m1 m2 n0 n1 n2
  generalize w4.setCell ⟨Q, 2, none⟩ (.int .i64 d) = v4 at *
  generalize hX : ((v4.setCell ⟨R, 0, none⟩ (.int .i64 y)).setCell ⟨R, 1, none⟩ (.int .i64 m)).setCell ⟨R, 2, none⟩ (.int .i64 d) = X
  obtain ⟨m0, m1, m2⟩ := three_set _ _ _ rR hX
  have BX : Bt b w X := by
    rw [← hX]; exact ((hb.over (Bt.set R v4 0 _) (by omega)).over (Bt.set R _ 1 _) (by omega)).over (Bt.set R _ 2 _) (by omega)
  have sX : X.heap[b]? = some (scX S x4) := by
    rw [← hX]; exact (Bt.set R _ 2 _).row (by omega) ((Bt.set R _ 1 _).row (by omega) ((Bt.set R v4 0 _).row (by omega) rs))
  exact bodyPost_ret (v := .agg #[.int .i64 y, .int .i64 m, .int .i64 d]) (by simp [results, Tryz.results73, go_sem, m0, m1, m2]) rfl ⟨rfl, sX, BX⟩
theorem p27org {S : ByteArray} {b : Nat} {x : Sc} {w : World} {y : Int} (h : w.heap[b]? = some (scX S x)) (hk : x.k ≤ S.size) (hs : S.size ≤ 100000) :
    Calls Tryz.prog 73 #[pv b, .int .i64 y] w fun r w' => r = .returned (.agg #[.int .i64 (kFrm 3 y S x).1.1, .int .i64 (kFrm 3 y S x).1.2.1, .int .i64 (kFrm 3 y S x).1.2.2]) ∧ w'.heap[b]? = some (scX S (kFrm 3 y S x).2) ∧ Bt b w w' := by
  have k1 := ((gd_W [wFm]).le S x hk).2
  have k2 := (gd_N.le S _ k1).2
  have k3 := ((gd_W [wSp]).le S _ k2).2
  exact p27org_go h (fun _ _ e hu => e ▸ xw_one hu hk (lt_big hs) wds_wFm) (fun _ hu => xn_sc hu k1 (lt_big hs)) (fun _ _ e hu => e ▸ xw_one hu k2 (lt_big hs) wds_wSp) (fun _ hu => xn_sc hu k3 (lt_big hs))
end Go.Proofs.YtkhicgafhbecfaaGreatDoor
