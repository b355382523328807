/- The region 'z, b := ref.Word(y, words(k))' of the law MatchesReference of package linescan. -/
import Derived.Test.YtlodijncaojifaaDoorOd
import Derived.OrdersHeld
import Derived.Deep.RegionHeld3
namespace Go.Proofs.YtlodijncaojifaaDoor
open Go.RowKit

noncomputable def wmO (f : Func) : Array Oper := match f.body with | some (.seq _ (.seq _ (.seq _ (.seq _ (.seq _ (.seq (.seq _ (.block _ (.loop (.seq _ (.seq (.block _ (.seq _ (.seq _ (.seq (.seq _ (.block _ (.seq _ (.cond _ (.seq _ (.seq (.region _ ops _) _)) _)))) _)))) _))))) _)))))) => ops | _ => #[]
section
variable (Q : Exit → Act → World → Prop) (S : ByteArray) (k : Nat) (bad : Bool) (K : Nat) (B : Bool) (I kk : Int) (yb : Nat) (ws : List ByteArray) (y0 y1 y2 y3 y4 y5 y7 y9 y10 y11 y12 y13 y14 y15 y16 y17 y18 y19 y20 y21 y22 y23 y24 y25 y26 y27 y28 y29 y30 y31 y32 y33 y34 y35 y36 y37 y38 y39 y40 y41 y42 y43 y44 y45 y46 y47 y48 y49 y50 y51 y52 y53 y54 y55 y56 y57 y58 y59 y60 y61 y62 y63 y64 y65 y66 y67 y68 y69 y70 y71 y72 y73 y74 y75 y76 y77 y78 y79 y80 y81 y82 y83 y84 y85 y86 y87 y88 y89 y90 y91 y92 y93 y94 y95 y96 y97 y98 y99 y100 y101 y102 y103 y104 y105 y106 y107 y108 y109 y110 y111 y112 y113 y114 y115 y116 y117 y118 y119 y120 y121 y122 y123 y124 y125 y126 y127 y128 y129 y130 y131 y132 y133 y134 y135 y136 y137 y138 y139 y140 y141 : Value) (w0 : World)
  (HW : ∀ u : World, Calls Tryd.prog 10 #[.int .i64 kk] u fun e w' => e = .returned (.slice (some ⟨u.heap.size, 0, none⟩) ws.length ws.length) ∧ StrsIn u.heap.size ws.length ws w' ∧ Below u.heap.size u w')
  (HR : ∀ (u : World) (g : Nat), StrsIn g ws.length ws u → Calls Tryd.prog 11 #[sv S k bad, .slice (some ⟨g, 0, none⟩) ws.length ws.length] u fun e w' => e = .returned (.tuple #[sv S K B, .int .i64 I]) ∧ Below u.heap.size u w')
  (hq : ∀ e (a : Act) d v w, Q (.panic e) (a.put d v) w → Q (.panic e) a w)
  (hyb : yb < w0.heap.size) (k0 : w0.cell? ⟨yb, 0, none⟩ = some (.string S)) (k1 : w0.cell? ⟨yb, 1, none⟩ = some (.int .i64 k)) (k2 : w0.cell? ⟨yb, 2, none⟩ = some (.bool bad))
  (hend : ∀ (zb : Nat) (x69 : Value) (w' : World), Below w0.heap.size w0 w' → w0.heap.size ≤ zb → w'.heap[zb]? = some (stO S K B) → Q .normal { tmps := #[y0, y1, y2, y3, y4, y5, (.pointer (some ⟨yb, 0, none⟩)), y7, (.int .i64 kk), y9, (.pointer (some ⟨zb, 0, none⟩)), (.int .i64 I), y12, y13, y14, y15, y16, y17, y18, y19, y20, y21, y22, y23, y24, y25, y26, y27, y28, y29, y30, y31, y32, y33, y34, y35, y36, y37, y38, y39, y40, y41, y42, y43, y44, y45, y46, y47, y48, y49, y50, y51, y52, y53, y54, y55, y56, y57, y58, y59, y60, y61, y62, y63, y64, y65, (.tuple #[sv S K B, .int .i64 I]), (sv S k bad), (.int .i64 kk), x69, (.tuple #[sv S K B, .int .i64 I]), (sv S K B), (.int .i64 I), y73, y74, y75, y76, y77, y78, y79, y80, y81, y82, y83, y84, y85, y86, y87, y88, y89, y90, y91, y92, y93, y94, y95, y96, y97, y98, y99, y100, y101, y102, y103, y104, y105, y106, y107, y108, y109, y110, y111, y112, y113, y114, y115, y116, y117, y118, y119, y120, y121, y122, y123, y124, y125, y126, y127, y128, y129, y130, y131, y132, y133, y134, y135, y136, y137, y138, y139, y140, y141], defers := [] } w')
include HW HR hq hyb k0 k1 k2 hend
set_option maxHeartbeats 4000000 in
set_option maxRecDepth 100000 in
theorem wm_region (id : Nat) : (Code.region id (wmO Tryd.f3) true).wp Tryd.prog Q { tmps := #[y0, y1, y2, y3, y4, y5, (.pointer (some ⟨yb, 0, none⟩)), y7, (.int .i64 kk), y9, y10, y11, y12, y13, y14, y15, y16, y17, y18, y19, y20, y21, y22, y23, y24, y25, y26, y27, y28, y29, y30, y31, y32, y33, y34, y35, y36, y37, y38, y39, y40, y41, y42, y43, y44, y45, y46, y47, y48, y49, y50, y51, y52, y53, y54, y55, y56, y57, y58, y59, y60, y61, y62, y63, y64, y65, y66, y67, y68, y69, y70, y71, y72, y73, y74, y75, y76, y77, y78, y79, y80, y81, y82, y83, y84, y85, y86, y87, y88, y89, y90, y91, y92, y93, y94, y95, y96, y97, y98, y99, y100, y101, y102, y103, y104, y105, y106, y107, y108, y109, y110, y111, y112, y113, y114, y115, y116, y117, y118, y119, y120, y121, y122, y123, y124, y125, y126, y127, y128, y129, y130, y131, y132, y133, y134, y135, y136, y137, y138, y139, y140, y141], defers := [] } w0 := by
  refine wp_region_held_drew (S := fun u => Below w0.heap.size w0 u) (by kernel_rfl) ((Below.refl _ _).drew) (fun hHeld => ?_)
  refine wpAnyH_take (i := 0) (oi := { dst := some 67, op := _, type := _, pos := _, after := _, guard := _ }) (v := ?v_1) rfl (by kernel_rfl) (by kernel_rfl) (by kernel_rfl) (fun c a w h => hq c a _ _ w h) (Or.inl ⟨by rfl, ?hy_1⟩) hHeld ?_
  case hy_1 => (intro w' hSw; (try dsimp only at hSw); have q0 := (hSw.cell (p := ⟨yb, 0, none⟩) hyb).trans k0; have q1 := (hSw.cell (p := ⟨yb, 1, none⟩) hyb).trans k1; have q2 := (hSw.cell (p := ⟨yb, 2, none⟩) hyb).trans k2; go_simp; try with_reducible rfl)
  simp only [Act.put, List.setIfInBounds_toArray, List.set_cons_zero, List.set_cons_succ]
  refine wpAnyH_take (i := 1) (oi := { dst := some 68, op := _, type := _, pos := _, after := _, guard := _ }) (v := ?v_2) rfl (by kernel_rfl) (by kernel_rfl) (by kernel_rfl) (fun c a w h => hq c a _ _ w h) (Or.inl ⟨by rfl, ?hy_2⟩) hHeld ?_
  case hy_2 => (intro w' hSw; (try dsimp only at hSw); go_simp; try with_reducible rfl)
  simp only [Act.put, List.setIfInBounds_toArray, List.set_cons_zero, List.set_cons_succ]
  obtain ⟨wd, hwd⟩ : ∃ wd, wd = w0.drew := ⟨_, rfl⟩
  rw [← hwd] at hHeld ⊢
  clear hwd
  refine wpAnyH_ready (rs := [2, 7]) (by kernel_rfl) (by simp) ?_
  refine AllReadyH.cons (o := { dst := some 69, op := _, type := _, pos := _, after := _, guard := _ }) rfl (fun K' hK => ?_) (AllReadyH.cons (o := { dst := some 10, op := _, type := _, pos := _, after := _, guard := _ }) rfl (fun K' hK => ?_) AllReadyH.nil)
  · go_simp
    go_at_call 10
    refine (HW _).mono ?_
    rintro e u1 ⟨rfl, g1, b1⟩
    have H1 := below_on hHeld b1
    refine hK.out _ _ H1 (fun hHeld => ?_)
    clear hK K'
    refine wpAnyH_ready (rs := [3, 7]) (by kernel_rfl) (by simp) ?_
    refine AllReadyH.cons (o := { dst := some 70, op := _, type := _, pos := _, after := _, guard := _ }) rfl (fun K' hK => ?_) (AllReadyH.cons (o := { dst := some 10, op := _, type := _, pos := _, after := _, guard := _ }) rfl (fun K' hK => ?_) AllReadyH.nil)
    · go_simp
      go_at_call 11
      refine (HR _ _ g1).mono ?_
      rintro e u2 ⟨rfl, b2⟩
      have H2 := below_on hHeld b2
      refine hK.out _ _ H2 (fun hHeld => ?_)
      clear hK K'
      refine wpAnyH_take (i := 4) (oi := { dst := some 66, op := _, type := _, pos := _, after := _, guard := _ }) (v := ?v_3) rfl (by kernel_rfl) (by kernel_rfl) (by kernel_rfl) (fun c a w h => hq c a _ _ w h) (Or.inl ⟨by rfl, ?hy_3⟩) hHeld ?_
      case hy_3 => (intro w' hSw; (try dsimp only at hSw); go_simp; try with_reducible rfl)
      simp only [Act.put, List.setIfInBounds_toArray, List.set_cons_zero, List.set_cons_succ]
      refine wpAnyH_take (i := 5) (oi := { dst := some 71, op := _, type := _, pos := _, after := _, guard := _ }) (v := ?v_4) rfl (by kernel_rfl) (by kernel_rfl) (by kernel_rfl) (fun c a w h => hq c a _ _ w h) (Or.inl ⟨by rfl, ?hy_4⟩) hHeld ?_
      case hy_4 => (intro w' hSw; (try dsimp only at hSw); go_simp; try with_reducible rfl)
      simp only [Act.put, List.setIfInBounds_toArray, List.set_cons_zero, List.set_cons_succ]
      refine wpAnyH_take (i := 6) (oi := { dst := some 72, op := _, type := _, pos := _, after := _, guard := _ }) (v := ?v_5) rfl (by kernel_rfl) (by kernel_rfl) (by kernel_rfl) (fun c a w h => hq c a _ _ w h) (Or.inl ⟨by rfl, ?hy_5⟩) hHeld ?_
      case hy_5 => (intro w' hSw; (try dsimp only at hSw); go_simp; try with_reducible rfl)
      simp only [Act.put, List.setIfInBounds_toArray, List.set_cons_zero, List.set_cons_succ]
      refine wpAnyH_ready (rs := [7]) (by kernel_rfl) (by simp) ?_
      refine AllReadyH.cons (o := { dst := some 10, op := _, type := _, pos := _, after := _, guard := _ }) rfl (fun K' hK => ?_) AllReadyH.nil
      go_simp
      have hz : w0.heap.size ≤ u2.heap.size := hHeld.size
      have rz := heap_alloc_new u2 stZ
      have H3 := below_on hHeld (al1 u2 stZ)
      refine hK.out _ _ H3 (fun hHeld => ?_)
      clear hK K'
      generalize u2.heap.size = zb at *
      generalize u2.alloc stZ = u3 at *
      refine wpAnyH_ready (rs := [8]) (by kernel_rfl) (by simp) ?_
      refine AllReadyH.cons (o := { dst := none, op := _, type := _, pos := _, after := _, guard := _ }) rfl (fun K' hK => ?_) AllReadyH.nil
      go_simp
      obtain ⟨s0, s1, s2, f0, f1, f2, -⟩ := st_facts rz
      go_simp
      obtain ⟨u9, hu9⟩ : ∃ u9, u9 = ((u3.setCell ⟨zb, 0, none⟩ (.string S)).setCell ⟨zb, 1, none⟩ (.int .i64 (K : Nat))).setCell ⟨zb, 2, none⟩ (.bool B) := ⟨_, rfl⟩
      have r9 : u9.heap[zb]? = some (stO S K B) := hu9 ▸ heap_setCell_same _ zb 2 _ _ _ (heap_setCell_same _ zb 1 _ _ _ (heap_setCell_same u3 zb 0 _ _ _ rz))
      have H9 : Below w0.heap.size w0 u9 := below_set3 hHeld hz _ _ _ hu9.symm
      rw [← hu9]
      refine hK.out _ _ H9 (fun hHeld => ?_)
      clear hK K'
      refine wpAnyH_take (i := 9) (oi := { dst := some 11, op := _, type := _, pos := _, after := _, guard := _ }) (v := ?v_6) rfl (by kernel_rfl) (by kernel_rfl) (by kernel_rfl) (fun c a w h => hq c a _ _ w h) (Or.inl ⟨by rfl, ?hy_6⟩) hHeld ?_
      case hy_6 => (intro w' hSw; (try dsimp only at hSw); go_simp; try with_reducible rfl)
      simp only [Act.put, List.setIfInBounds_toArray, List.set_cons_zero, List.set_cons_succ]
      exact wpAnyH_done (by kernel_rfl) (hend _ _ _ H9 hz r9) _
    · go_simp
      have hz : w0.heap.size ≤ u1.heap.size := hHeld.size
      have rz := heap_alloc_new u1 stZ
      have H3 := below_on hHeld (al1 u1 stZ)
      have g3 := g1.on (al1 u1 stZ)
      refine hK.out _ _ H3 (fun hHeld => ?_)
      clear hK K'
      generalize u1.heap.size = zb at *
      generalize u1.alloc stZ = u3 at *
      refine wpAnyH_ready (rs := [3]) (by kernel_rfl) (by simp) ?_
      refine AllReadyH.cons (o := { dst := some 70, op := _, type := _, pos := _, after := _, guard := _ }) rfl (fun K' hK => ?_) AllReadyH.nil
      go_simp
      go_at_call 11
      refine (HR _ _ g3).mono ?_
      rintro e u2 ⟨rfl, b2⟩
      have H2 := below_on hHeld b2
      refine hK.out _ _ H2 (fun hHeld => ?_)
      clear hK K'
      replace rz := row_kept rz b2
      refine wpAnyH_take (i := 4) (oi := { dst := some 66, op := _, type := _, pos := _, after := _, guard := _ }) (v := ?v_7) rfl (by kernel_rfl) (by kernel_rfl) (by kernel_rfl) (fun c a w h => hq c a _ _ w h) (Or.inl ⟨by rfl, ?hy_7⟩) hHeld ?_
      case hy_7 => (intro w' hSw; (try dsimp only at hSw); go_simp; try with_reducible rfl)
      simp only [Act.put, List.setIfInBounds_toArray, List.set_cons_zero, List.set_cons_succ]
      refine wpAnyH_take (i := 5) (oi := { dst := some 71, op := _, type := _, pos := _, after := _, guard := _ }) (v := ?v_8) rfl (by kernel_rfl) (by kernel_rfl) (by kernel_rfl) (fun c a w h => hq c a _ _ w h) (Or.inl ⟨by rfl, ?hy_8⟩) hHeld ?_
      case hy_8 => (intro w' hSw; (try dsimp only at hSw); go_simp; try with_reducible rfl)
      simp only [Act.put, List.setIfInBounds_toArray, List.set_cons_zero, List.set_cons_succ]
      refine wpAnyH_take (i := 6) (oi := { dst := some 72, op := _, type := _, pos := _, after := _, guard := _ }) (v := ?v_9) rfl (by kernel_rfl) (by kernel_rfl) (by kernel_rfl) (fun c a w h => hq c a _ _ w h) (Or.inl ⟨by rfl, ?hy_9⟩) hHeld ?_
      case hy_9 => (intro w' hSw; (try dsimp only at hSw); go_simp; try with_reducible rfl)
      simp only [Act.put, List.setIfInBounds_toArray, List.set_cons_zero, List.set_cons_succ]
      refine wpAnyH_ready (rs := [8]) (by kernel_rfl) (by simp) ?_
      refine AllReadyH.cons (o := { dst := none, op := _, type := _, pos := _, after := _, guard := _ }) rfl (fun K' hK => ?_) AllReadyH.nil
      go_simp
      obtain ⟨s0, s1, s2, f0, f1, f2, -⟩ := st_facts rz
      go_simp
      obtain ⟨u9, hu9⟩ : ∃ u9, u9 = ((u2.setCell ⟨zb, 0, none⟩ (.string S)).setCell ⟨zb, 1, none⟩ (.int .i64 (K : Nat))).setCell ⟨zb, 2, none⟩ (.bool B) := ⟨_, rfl⟩
      have r9 : u9.heap[zb]? = some (stO S K B) := hu9 ▸ heap_setCell_same _ zb 2 _ _ _ (heap_setCell_same _ zb 1 _ _ _ (heap_setCell_same u2 zb 0 _ _ _ rz))
      have H9 : Below w0.heap.size w0 u9 := below_set3 hHeld hz _ _ _ hu9.symm
      rw [← hu9]
      refine hK.out _ _ H9 (fun hHeld => ?_)
      clear hK K'
      refine wpAnyH_take (i := 9) (oi := { dst := some 11, op := _, type := _, pos := _, after := _, guard := _ }) (v := ?v_10) rfl (by kernel_rfl) (by kernel_rfl) (by kernel_rfl) (fun c a w h => hq c a _ _ w h) (Or.inl ⟨by rfl, ?hy_10⟩) hHeld ?_
      case hy_10 => (intro w' hSw; (try dsimp only at hSw); go_simp; try with_reducible rfl)
      simp only [Act.put, List.setIfInBounds_toArray, List.set_cons_zero, List.set_cons_succ]
      exact wpAnyH_done (by kernel_rfl) (hend _ _ _ H9 hz r9) _
  · go_simp
    have hz : w0.heap.size ≤ wd.heap.size := hHeld.size
    have rz := heap_alloc_new wd stZ
    have H3 := below_on hHeld (al1 wd stZ)
    refine hK.out _ _ H3 (fun hHeld => ?_)
    clear hK K'
    generalize wd.heap.size = zb at *
    generalize wd.alloc stZ = u0 at *
    refine wpAnyH_ready (rs := [2]) (by kernel_rfl) (by simp) ?_
    refine AllReadyH.cons (o := { dst := some 69, op := _, type := _, pos := _, after := _, guard := _ }) rfl (fun K' hK => ?_) AllReadyH.nil
    go_simp
    go_at_call 10
    refine (HW _).mono ?_
    rintro e u1 ⟨rfl, g1, b1⟩
    have H1 := below_on hHeld b1
    refine hK.out _ _ H1 (fun hHeld => ?_)
    clear hK K'
    replace rz := row_kept rz b1
    refine wpAnyH_ready (rs := [3]) (by kernel_rfl) (by simp) ?_
    refine AllReadyH.cons (o := { dst := some 70, op := _, type := _, pos := _, after := _, guard := _ }) rfl (fun K' hK => ?_) AllReadyH.nil
    go_simp
    go_at_call 11
    refine (HR _ _ g1).mono ?_
    rintro e u2 ⟨rfl, b2⟩
    have H2 := below_on hHeld b2
    refine hK.out _ _ H2 (fun hHeld => ?_)
    clear hK K'
    replace rz := row_kept rz b2
    refine wpAnyH_take (i := 4) (oi := { dst := some 66, op := _, type := _, pos := _, after := _, guard := _ }) (v := ?v_11) rfl (by kernel_rfl) (by kernel_rfl) (by kernel_rfl) (fun c a w h => hq c a _ _ w h) (Or.inl ⟨by rfl, ?hy_11⟩) hHeld ?_
    case hy_11 => (intro w' hSw; (try dsimp only at hSw); go_simp; try with_reducible rfl)
    simp only [Act.put, List.setIfInBounds_toArray, List.set_cons_zero, List.set_cons_succ]
    refine wpAnyH_take (i := 5) (oi := { dst := some 71, op := _, type := _, pos := _, after := _, guard := _ }) (v := ?v_12) rfl (by kernel_rfl) (by kernel_rfl) (by kernel_rfl) (fun c a w h => hq c a _ _ w h) (Or.inl ⟨by rfl, ?hy_12⟩) hHeld ?_
    case hy_12 => (intro w' hSw; (try dsimp only at hSw); go_simp; try with_reducible rfl)
    simp only [Act.put, List.setIfInBounds_toArray, List.set_cons_zero, List.set_cons_succ]
    refine wpAnyH_take (i := 6) (oi := { dst := some 72, op := _, type := _, pos := _, after := _, guard := _ }) (v := ?v_13) rfl (by kernel_rfl) (by kernel_rfl) (by kernel_rfl) (fun c a w h => hq c a _ _ w h) (Or.inl ⟨by rfl, ?hy_13⟩) hHeld ?_
    case hy_13 => (intro w' hSw; (try dsimp only at hSw); go_simp; try with_reducible rfl)
    simp only [Act.put, List.setIfInBounds_toArray, List.set_cons_zero, List.set_cons_succ]
    refine wpAnyH_ready (rs := [8]) (by kernel_rfl) (by simp) ?_
    refine AllReadyH.cons (o := { dst := none, op := _, type := _, pos := _, after := _, guard := _ }) rfl (fun K' hK => ?_) AllReadyH.nil
    go_simp
    obtain ⟨s0, s1, s2, f0, f1, f2, -⟩ := st_facts rz
    go_simp
    obtain ⟨u9, hu9⟩ : ∃ u9, u9 = ((u2.setCell ⟨zb, 0, none⟩ (.string S)).setCell ⟨zb, 1, none⟩ (.int .i64 (K : Nat))).setCell ⟨zb, 2, none⟩ (.bool B) := ⟨_, rfl⟩
    have r9 : u9.heap[zb]? = some (stO S K B) := hu9 ▸ heap_setCell_same _ zb 2 _ _ _ (heap_setCell_same _ zb 1 _ _ _ (heap_setCell_same u2 zb 0 _ _ _ rz))
    have H9 : Below w0.heap.size w0 u9 := below_set3 hHeld hz _ _ _ hu9.symm
    rw [← hu9]
    refine hK.out _ _ H9 (fun hHeld => ?_)
    clear hK K'
    refine wpAnyH_take (i := 9) (oi := { dst := some 11, op := _, type := _, pos := _, after := _, guard := _ }) (v := ?v_14) rfl (by kernel_rfl) (by kernel_rfl) (by kernel_rfl) (fun c a w h => hq c a _ _ w h) (Or.inl ⟨by rfl, ?hy_14⟩) hHeld ?_
    case hy_14 => (intro w' hSw; (try dsimp only at hSw); go_simp; try with_reducible rfl)
    simp only [Act.put, List.setIfInBounds_toArray, List.set_cons_zero, List.set_cons_succ]
    exact wpAnyH_done (by kernel_rfl) (hend _ _ _ H9 hz r9) _
end
end Go.Proofs.YtlodijncaojifaaDoor
