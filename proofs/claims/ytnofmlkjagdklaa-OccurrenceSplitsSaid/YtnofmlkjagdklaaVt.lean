/- Package occurrence: Displace; what the package must answer (OP). -/
import Derived.Test.YtnofmlkjagdklaaVs
import Derived.Test.YtnofmlkjagdklaaVl
namespace Go.Proofs.Ytnofmlkjagdklaa
open Go.RowKit Go.Maps

theorem app_sf (ty : TypeId) (B : Nat) (v xv : Value) (X L : List Int) (w : World) (hv : IntsAt B v X w) (hx : SlF xv L w) (hB : B ≤ w.heap.size) (hX : X.length ≤ 1000) (hl : L.length ≤ 1000) :
    ∃ v' w', (Builtin.append_ #[33, 33] ty #[v, xv]).run Try.prog w = .ok v' w' ∧ IntsAt B v' (X ++ L) w' ∧ w.grownBy w' v.ownBlock ∧ (v'.ownBlock = v.ownBlock ∨ v'.ownBlock = some w.heap.size) := by
  obtain ⟨i0, hi0, hz0, hz1, hz2⟩ := info_parts infoInt
  obtain ⟨A, cap, rfl, h1, h2, h3⟩ := hx
  cases A with
  | none =>
    have hL : L = [] := by
      cases L with
      | nil => rfl
      | cons y ys => obtain ⟨g, e, _⟩ := h3 0 (by simp); cases e
    subst hL
    refine ⟨v, w, ?_, by rw [List.append_nil]; exact hv, grown_of_below (Below.refl _ _) _, .inl rfl⟩
    rcases hv.2 with ⟨rfl, hn⟩ | ⟨g, cap, cur, rfl, _, _, hnc, _⟩
    · obtain rfl := List.eq_nil_of_length_eq_zero hn
      simp [Builtin.append_, run_underlying Try.underlying33, sizeOf, typeInfo, hi0, Builtin.lenOf, Builtin.firstCells]
    · simp [Builtin.append_, run_underlying Try.underlying33, sizeOf, typeInfo, hi0, Builtin.lenOf, Builtin.firstCells, hnc, storeCells]
  | some ad =>
    obtain ⟨v', w', hr, h2', h3', _, h5⟩ := run_append_own_at (P := Try.prog) w B 33 ty 3 i0 (.int .i64 0) 1 8 Try.underlying33 hi0 hz0 hz1 hz2 rfl (by decide) v X.length _ hv ad L.length cap (L.map (Value.int .i64)) (by rw [List.length_map, Nat.mul_one]) (fun j u hj => by
      have hjl : j < L.length := by have := (List.getElem?_eq_some_iff.1 hj).1; rwa [List.length_map] at this
      obtain ⟨g, e, hc⟩ := h3 j hjl
      obtain rfl : ad = ⟨g, 0, none⟩ := by simpa using e
      rw [show (⟨g, 0, none⟩ : Addr).add j = ⟨g, j, none⟩ by unfold Addr.add; split <;> simp_all]
      rw [List.getElem?_map, List.getElem?_eq_getElem hjl] at hj
      rw [hc, List.getD_eq_getElem?_getD, List.getElem?_eq_getElem hjl]
      exact hj) (fun u hu => by obtain ⟨n, _, rfl⟩ := List.mem_map.1 hu; rfl) (by unfold maxLen; omega) (by omega) hB
    refine ⟨v', w', hr, ?_, h3', h5⟩
    unfold IntsAt
    rw [List.length_append, List.map_append]
    exact h2'
section
variable {T rb t : Nat} {p0 p1 p2 p3 a b c : Value} {X Y Z : List Int} {w : World} (hT : T ≤ w.heap.size) (hrT : rb < T) (HR : w.heap[rb]? = some (.cells #[p0, p1, p2, p3, a, b, c] t (0, 0))) (h : R3 T a b c X Y Z w)
include hT hrT HR h
theorem app_a (ty : TypeId) (xv : Value) (L : List Int) (hx : SlF xv L w) (hX : X.length ≤ 1000) (hl : L.length ≤ 1000) :
    ∃ v' w', (Builtin.append_ #[33, 33] ty #[a, xv]).run Try.prog w = .ok v' w' ∧ w'.heap[rb]? = some (.cells #[p0, p1, p2, p3, a, b, c] t (0, 0)) ∧ (w'.setCell ⟨rb, 4, none⟩ v').heap[rb]? = some (.cells #[p0, p1, p2, p3, v', b, c] t (0, 0)) ∧ R3 T v' b c (X ++ L) Y Z (w'.setCell ⟨rb, 4, none⟩ v') ∧ Kp T rb w (w'.setCell ⟨rb, 4, none⟩ v') ∧ Kp T rb w w' := by
  obtain ⟨v', w', hr, h1, h2, h3⟩ := app_sf ty T a xv X L w h.fa hx hT hX hl
  have hne : some rb ≠ a.ownBlock := fun e => absurd (World.ownsRow.lt h.fa rb e.symm).1 (by omega)
  have hrow : w'.heap[rb]? = some (.cells #[p0, p1, p2, p3, a, b, c] t (0, 0)) := (h2.block rb (by omega) hne).trans HR
  have h4 := (h.app h1 h2 h3)
  have h5 := h4
  have hk : Kp T rb w w' := (Kp.refl T rb w).grown h2 hT (fun k e => (World.ownsRow.lt h.fa k e).1)
  have far : ∀ {u : Value} {us : List Int}, IntsAt T u us w' → u.ownBlock ≠ some rb := fun {u us} hu e => absurd (World.ownsRow.lt hu rb e).1 (by omega)
  exact ⟨v', w', hr, hrow, heap_setCell_same _ rb 4 _ _ _ hrow, ⟨setc_ints h5.fa (far h5.fa) _, setc_ints h5.fb (far h5.fb) _, setc_ints h5.fc (far h5.fc) _, h5.ab, h5.ac, h5.bc⟩, hk.set _ _, hk⟩
theorem app_b (ty : TypeId) (xv : Value) (L : List Int) (hx : SlF xv L w) (hX : Y.length ≤ 1000) (hl : L.length ≤ 1000) :
    ∃ v' w', (Builtin.append_ #[33, 33] ty #[b, xv]).run Try.prog w = .ok v' w' ∧ w'.heap[rb]? = some (.cells #[p0, p1, p2, p3, a, b, c] t (0, 0)) ∧ (w'.setCell ⟨rb, 5, none⟩ v').heap[rb]? = some (.cells #[p0, p1, p2, p3, a, v', c] t (0, 0)) ∧ R3 T a v' c X (Y ++ L) Z (w'.setCell ⟨rb, 5, none⟩ v') ∧ Kp T rb w (w'.setCell ⟨rb, 5, none⟩ v') ∧ Kp T rb w w' := by
  obtain ⟨v', w', hr, h1, h2, h3⟩ := app_sf ty T b xv Y L w h.fb hx hT hX hl
  have hne : some rb ≠ b.ownBlock := fun e => absurd (World.ownsRow.lt h.fb rb e.symm).1 (by omega)
  have hrow : w'.heap[rb]? = some (.cells #[p0, p1, p2, p3, a, b, c] t (0, 0)) := (h2.block rb (by omega) hne).trans HR
  have h4 := (h.rot.app h1 h2 h3)
  have h5 := h4.rot.rot
  have hk : Kp T rb w w' := (Kp.refl T rb w).grown h2 hT (fun k e => (World.ownsRow.lt h.fb k e).1)
  have far : ∀ {u : Value} {us : List Int}, IntsAt T u us w' → u.ownBlock ≠ some rb := fun {u us} hu e => absurd (World.ownsRow.lt hu rb e).1 (by omega)
  exact ⟨v', w', hr, hrow, heap_setCell_same _ rb 5 _ _ _ hrow, ⟨setc_ints h5.fa (far h5.fa) _, setc_ints h5.fb (far h5.fb) _, setc_ints h5.fc (far h5.fc) _, h5.ab, h5.ac, h5.bc⟩, hk.set _ _, hk⟩
theorem app_c (ty : TypeId) (xv : Value) (L : List Int) (hx : SlF xv L w) (hX : Z.length ≤ 1000) (hl : L.length ≤ 1000) :
    ∃ v' w', (Builtin.append_ #[33, 33] ty #[c, xv]).run Try.prog w = .ok v' w' ∧ w'.heap[rb]? = some (.cells #[p0, p1, p2, p3, a, b, c] t (0, 0)) ∧ (w'.setCell ⟨rb, 6, none⟩ v').heap[rb]? = some (.cells #[p0, p1, p2, p3, a, b, v'] t (0, 0)) ∧ R3 T a b v' X Y (Z ++ L) (w'.setCell ⟨rb, 6, none⟩ v') ∧ Kp T rb w (w'.setCell ⟨rb, 6, none⟩ v') ∧ Kp T rb w w' := by
  obtain ⟨v', w', hr, h1, h2, h3⟩ := app_sf ty T c xv Z L w h.fc hx hT hX hl
  have hne : some rb ≠ c.ownBlock := fun e => absurd (World.ownsRow.lt h.fc rb e.symm).1 (by omega)
  have hrow : w'.heap[rb]? = some (.cells #[p0, p1, p2, p3, a, b, c] t (0, 0)) := (h2.block rb (by omega) hne).trans HR
  have h4 := (h.rot.rot.app h1 h2 h3)
  have h5 := h4.rot
  have hk : Kp T rb w w' := (Kp.refl T rb w).grown h2 hT (fun k e => (World.ownsRow.lt h.fc k e).1)
  have far : ∀ {u : Value} {us : List Int}, IntsAt T u us w' → u.ownBlock ≠ some rb := fun {u us} hu e => absurd (World.ownsRow.lt hu rb e).1 (by omega)
  exact ⟨v', w', hr, hrow, heap_setCell_same _ rb 6 _ _ _ hrow, ⟨setc_ints h5.fa (far h5.fa) _, setc_ints h5.fb (far h5.fb) _, setc_ints h5.fc (far h5.fc) _, h5.ab, h5.ac, h5.bc⟩, hk.set _ _, hk⟩
end
set_option maxHeartbeats 4000000 in
set_option maxRecDepth 100000 in
theorem p21di_1 (v0 v1 : Value) (A4 : Option Addr) (c : Cat) (c2 : Nat) (p1 p2 p3 : Int) (p4 : ByteArray) (Ax Ay Az : Option Addr) (nx ny nz cx cy cz : Nat) (xs ys zs : List Int) (W : World) (h1 : xs.length ≤ 40) (h2 : ys.length ≤ 40) (h3 : zs.length ≤ 40)
    (hx : SlF (.slice Ax nx cx) xs W) (hy : SlF (.slice Ay ny cy) ys W) (hz : SlF (.slice Az nz cz) zs W) (hk : p1 ≠ 2) :
    Calls Try.prog 16 #[.agg #[v0, v1, .slice A4 c.fs.length c2], .agg #[.int .i64 p1, .int .i64 p2, .int .i64 p3, .string p4, .slice Ax nx cx, .slice Ay ny cy, .slice Az nz cz]] W (RetRes W zcd xs ys zs) := by
  have e2 : (p1 == 2) = false := beq_eq_false_iff_ne.2 hk
  go_enter Try.func16, Try.ntmps16
  go_wp2_with (first
    | (at_builtin; refine wpList_app rfl _ _ rfl rfl rfl E2.out ?_; clear E2)
    | (at_builtin; refine wpList_app rfl _ _ rfl rfl rfl E3.out ?_; clear E3)
    | (at_builtin; generalize hU : ((((W.alloc (.cells #[v0, v1, .slice A4 c.fs.length c2] 25)).alloc (.cells #[.int .i64 p1, .int .i64 p2, .int .i64 p3, .string p4, .slice Ax nx cx, .slice Ay ny cy, .slice Az nz cz] 35)).alloc (.cells ocZ 35)).alloc (.cells ocZ 35)).alloc (.cells #[.int .i64 p1, .int .i64 p2, .int .i64 p3, .string p4] 32) = w at *; obtain ⟨r0, r1, r2, r3, r4, hB⟩ := five W (.cells #[v0, v1, .slice A4 c.fs.length c2] 25) (.cells #[.int .i64 p1, .int .i64 p2, .int .i64 p3, .string p4, .slice Ax nx cx, .slice Ay ny cy, .slice Az nz cz] 35) (.cells ocZ 35) (.cells ocZ 35) (.cells #[.int .i64 p1, .int .i64 p2, .int .i64 p3, .string p4] 32) w hU; have hsz : w.heap.size = W.heap.size + 5 := (by rw [← hU]; simp); clear hU; generalize hrb : W.heap.size + 1 + 1 + 1 = rb at *; have HR := Lib.hid r3; have HP := Lib.hid r1; have H4 := Lib.hid r2; have HB := Lib.hid hB; obtain ⟨T, hT⟩ : ∃ T, T = w.heap.size := ⟨_, rfl⟩; have hzT : T ≤ w.heap.size := (by omega); have hrT : rb < T := (by omega); have hPT : W.heap.size + 1 < T := (by omega); have hPr : W.heap.size + 1 ≠ rb := (by omega); have h4T : W.heap.size + 1 + 1 < T := (by omega); have h4r : W.heap.size + 1 + 1 ≠ rb := (by omega); have HL := Lib.hid (R3.emp T w); clear r0 r1 r2 r3 r4 hB; obtain ⟨v1, w1, hr1, hrow1, hnew1, hl1, hk1, hm1⟩ := app_a hzT hrT HR.out HL.out 33 _ xs (hx.on HB.out) (by simp) (by omega); obtain ⟨A1, c1, rfl⟩ := ints_form hl1.fa; have hrow1h := Lib.hid hrow1; have hz1 := hk1.size; obtain ⟨v2, w2, hr2, hrow2, hnew2, hl2, hk2, hm2⟩ := app_b (by omega) hrT hnew1 hl1 33 _ ys (hy.on (HB.out.trans ((hk1.below hrT).mono (by omega)))) (by simp) (by omega); obtain ⟨A2, c2', rfl⟩ := ints_form hl2.fb; have hz2 := hk2.size; have hk12 := hk1.trans hk2; obtain ⟨v3, w3, hr3, hrow3, hnew3, hl3, hk3, hm3⟩ := app_c (by omega) hrT hnew2 hl2 33 _ zs (hz.on (HB.out.trans ((hk12.below hrT).mono (by omega)))) (by simp) (by omega); obtain ⟨A3, c3, rfl⟩ := ints_form hl3.fc; have hk123 := hk12.trans hk3; have hm13 := hk1.trans hm2; have hm33 := hk12.trans hm3; have HP0 := Lib.hid HP.out; obtain ⟨-, -, -, -, P4, P5, P6, -⟩ := row7 HP.out; obtain ⟨-, -, -, -, P4', P5', P6', -⟩ := row7 (hm1.row hPT hPr HP.out); obtain ⟨-, -, -, -, P4'', P5'', P6'', -⟩ := row7 (hm13.row hPT hPr HP.out); obtain ⟨m0, m1, m2, m3, m4, m5, m6, n0, n1, n2, n3, n4, n5, n6, -⟩ := row7 HR.out; obtain ⟨o0, o1, o2, o3, o4, o5, o6, u0, u1, u2, u3, u4, u5, u6, -⟩ := row7 hrow1; obtain ⟨d0, d1, d2, d3, d4, d5, d6, f0, f1, f2, f3, f4, f5, f6, -⟩ := row7 hrow2; obtain ⟨g0, g1, g2, g3, g4, g5, g6, k0, k1, k2, k3, k4, k5, k6, -⟩ := row7 hrow3; obtain ⟨-, -, -, -, -, -, -, y0, y1, y2, y3, y4, y5, y6, -⟩ := row7 (hm33.row h4T h4r H4.out); obtain ⟨t0, t1, t2, t3, t4, t5, t6, -⟩ := row7 (hm33.row h4T h4r H4.out); have HU0 := Lib.hid (HB.out.trans ((hk123.below hrT).mono (by omega) : Below W.heap.size w _)); have HR4 := Lib.hid (hk123.row h4T h4r H4.out); have HL3 := Lib.hid hl3; have E1 := Lib.hid hr1; have E2 := Lib.hid hr2; have E3 := Lib.hid hr3; clear hr1 hr2 hr3 hrow1 hrow2 hrow3 hnew1 hnew2 hnew3 hl1 hl2 hl3 hk1 hk2 hk3 hm1 hm2 hm3 hk12 hk123 hm13 hm33 hrow1h; refine wpList_app rfl _ _ rfl rfl rfl E1.out ?_; clear E1))
  have HL4 := HL3.out
  rw [List.nil_append, List.nil_append, List.nil_append] at HL4
  rw [List.nil_append] at HR4 HU0
  generalize hU : (((((((w3.setCell ⟨rb, 6, none⟩ (.slice A3 zs.length c3)).setCell ⟨W.heap.size + 1 + 1, 0, none⟩ (.int .i64 0)).setCell ⟨W.heap.size + 1 + 1, 1, none⟩ (.int .i64 0)).setCell ⟨W.heap.size + 1 + 1, 2, none⟩ (.int .i64 0)).setCell ⟨W.heap.size + 1 + 1, 3, none⟩ (.string ⟨#[]⟩)).setCell ⟨W.heap.size + 1 + 1, 4, none⟩ (.slice A1 xs.length c1)).setCell ⟨W.heap.size + 1 + 1, 5, none⟩ (.slice A2 ys.length c2')).setCell ⟨W.heap.size + 1 + 1, 6, none⟩ (.slice A3 zs.length c3) = U at *
  obtain ⟨b0, b1, b2, b3, b4, b5, b6, HU⟩ := seven_set _ _ _ _ _ _ _ HR4.out HU0.out (by omega) hU
  refine bodyPost_ret (v := .agg #[.int .i64 0, .int .i64 0, .int .i64 0, .string ⟨#[]⟩, .slice A1 xs.length c1, .slice A2 ys.length c2', .slice A3 zs.length c3]) (by simp [results, Try.results16, go_sem, b0, b1, b2, b3, b4, b5, b6]) rfl ?_
  exact ⟨_, _, _, rfl, by rw [← hU]; exact r3_sets HL4 (by omega) _ _ _ _ _ _ _, HU⟩
set_option maxHeartbeats 4000000 in
set_option maxRecDepth 100000 in
theorem p21di_2 (v0 v1 : Value) (b4 o4 n4 c2 n : Nat) (t : Itm) (p3 : Int) (p4 : ByteArray) (Ax Ay Az : Option Addr) (nx ny nz cx cy cz : Nat) (xs ys zs : List Int) (W : World) (h1 : xs.length ≤ 40) (h2 : ys.length ≤ 40) (h3 : zs.length ≤ 40)
    (hx : SlF (.slice Ax nx cx) xs W) (hy : SlF (.slice Ay ny cy) ys W) (hz : SlF (.slice Az nz cz) zs W) (hnl : n < n4) (hbl : b4 < W.heap.size) (hit : ItmAt W b4 (o4 + n * 9) t) (hpol : t.y ≠ 3) :
    Calls Try.prog 16 #[.agg #[v0, v1, .slice (some ⟨b4, o4, none⟩) n4 c2], .agg #[.int .i64 2, .int .i64 (n : Int), .int .i64 p3, .string p4, .slice Ax nx cx, .slice Ay ny cy, .slice Az nz cz]] W (RetRes W zcd ((n : Int) :: xs) ys zs) := by
  have HPO := Lib.hid (fun (u : World) (hu : Below W.heap.size W u) => p21po_in v0 v1 b4 o4 n4 c2 n t u hnl (Nat.lt_of_lt_of_le hbl hu.size) (hit.on hu hbl))
  obtain ⟨q, hq⟩ : ∃ q, q = t.y := ⟨_, rfl⟩
  rw [← hq] at HPO hpol
  have HDP := Lib.hid (fun (u : World) => show Calls Try.prog 35 #[.int .i64 q] u (fun e w' => e = .returned (.int .i64 2) ∧ u = w') by
    have := p21dp_any q u
    rwa [if_neg hpol] at this)
  clear hit hq hpol
  go_enter Try.func16, Try.ntmps16
  go_wp2_with fail
  generalize hU : (((((W.alloc (.cells #[v0, v1, .slice (some ⟨b4, o4, none⟩) n4 c2] 25)).alloc (.cells #[.int .i64 2, .int .i64 (n : Int), .int .i64 p3, .string p4, .slice Ax nx cx, .slice Ay ny cy, .slice Az nz cz] 35)).alloc (.cells ocZ 35)).alloc (.cells ocZ 35)).alloc (.cells #[.int .i64 2, .int .i64 (n : Int), .int .i64 p3, .string p4] 32)) = w0 at *
  obtain ⟨r0, r1, r2, r3, r4, hB⟩ := five W (.cells #[v0, v1, .slice (some ⟨b4, o4, none⟩) n4 c2] 25) (.cells #[.int .i64 2, .int .i64 (n : Int), .int .i64 p3, .string p4, .slice Ax nx cx, .slice Ay ny cy, .slice Az nz cz] 35) (.cells ocZ 35) (.cells ocZ 35) (.cells #[.int .i64 2, .int .i64 (n : Int), .int .i64 p3, .string p4] 32) w0 hU
  have hsz : w0.heap.size = W.heap.size + 5 := by rw [← hU]; simp
  clear hU
  generalize hrb : W.heap.size + 1 + 1 + 1 = rb at *
  have HR0 := Lib.hid r3
  have HP0 := Lib.hid r1
  have H40 := Lib.hid r2
  have HB0 := Lib.hid hB
  obtain ⟨t0, t1, t2, -, -, -, -⟩ := row3 r0
  obtain ⟨q0, q1, q2, q3, -⟩ := row4o r4
  clear r0 r1 r2 r3 r4 hB
  refine wp_region_held_drew (S := fun u => u.cell? ⟨W.heap.size, 0, none⟩ = some v0 ∧ u.cell? ⟨W.heap.size, 1, none⟩ = some v1 ∧ u.cell? ⟨W.heap.size, 2, none⟩ = some (.slice (some ⟨b4, o4, none⟩) n4 c2) ∧ u.cell? ⟨rb + 1, 1, none⟩ = some (.int .i64 (n : Int))) (by kernel_rfl) ⟨t0, t1, t2, q1⟩ (fun hHeld => ?_)
  refine wpAnyH_take (i := 1) (oi := { dst := some 13, op := _, type := _, pos := _, after := _, guard := _ }) (v := ?v_1) rfl (by kernel_rfl) (by kernel_rfl) (by kernel_rfl) (fun _ _ _ h => h) (Or.inl ⟨by rfl, ?hy_1⟩) hHeld ?_
  case hy_1 => (intro w' hSw; (try dsimp only at hSw); obtain ⟨S0, S1, S2, S3⟩ := hSw; go_simp; try with_reducible rfl)
  simp only [Act.put, List.setIfInBounds_toArray, List.set_cons_zero, List.set_cons_succ]
  refine wpAnyH_take (i := 2) (oi := { dst := some 14, op := _, type := _, pos := _, after := _, guard := _ }) (v := ?v_2) rfl (by kernel_rfl) (by kernel_rfl) (by kernel_rfl) (fun _ _ _ h => h) (Or.inl ⟨by rfl, ?hy_2⟩) hHeld ?_
  case hy_2 => (intro w' hSw; (try dsimp only at hSw); obtain ⟨S0, S1, S2, S3⟩ := hSw; go_simp; try with_reducible rfl)
  simp only [Act.put, List.setIfInBounds_toArray, List.set_cons_zero, List.set_cons_succ]
  refine wpAnyH_take (i := 3) (oi := { dst := some 15, op := _, type := _, pos := _, after := _, guard := _ }) (v := ?v_3) rfl (by kernel_rfl) (by kernel_rfl) (by kernel_rfl) (fun _ _ _ h => h) (Or.inl ⟨by rfl, ?hy_3⟩) hHeld ?_
  case hy_3 => (intro w' hSw; (try dsimp only at hSw); obtain ⟨S0, S1, S2, S3⟩ := hSw; go_simp; try with_reducible rfl)
  simp only [Act.put, List.setIfInBounds_toArray, List.set_cons_zero, List.set_cons_succ]
  refine wpAnyH_take (i := 6) (oi := { dst := some 18, op := _, type := _, pos := _, after := _, guard := _ }) (v := ?v_6) rfl (by kernel_rfl) (by kernel_rfl) (by kernel_rfl) (fun _ _ _ h => h) (Or.inl ⟨by rfl, ?hy_6⟩) hHeld ?_
  case hy_6 => (intro w' hSw; (try dsimp only at hSw); obtain ⟨S0, S1, S2, S3⟩ := hSw; go_simp; try with_reducible rfl)
  simp only [Act.put, List.setIfInBounds_toArray, List.set_cons_zero, List.set_cons_succ]
  refine wpAnyH_take (i := 7) (oi := { dst := some 19, op := _, type := _, pos := _, after := _, guard := _ }) (v := ?v_7) rfl (by kernel_rfl) (by kernel_rfl) (by kernel_rfl) (fun _ _ _ h => h) (Or.inl ⟨by rfl, ?hy_7⟩) hHeld ?_
  case hy_7 => (intro w' hSw; (try dsimp only at hSw); obtain ⟨S0, S1, S2, S3⟩ := hSw; go_simp; try with_reducible rfl)
  simp only [Act.put, List.setIfInBounds_toArray, List.set_cons_zero, List.set_cons_succ]
  refine wpAnyH_ready (rs := [0]) (by kernel_rfl) (by simp) ?_
  refine AllReadyH.cons (o := { dst := some 12, op := _, type := _, pos := _, after := _, guard := _ }) rfl (fun K hK => ?_) AllReadyH.nil
  go_simp
  go_at_call 30
  refine (adders_any rb _).mono ?_
  rintro e wa ⟨gm, rfl, hA, hbd⟩
  have hb1 : Below w0.heap.size w0 wa := ⟨hbd.os, hbd.tape, hbd.output, hbd.size, hbd.block⟩
  have HA := Lib.hid (show Adders w0.heap.size wa.heap.size rb gm wa from hA)
  have Hb1 := Lib.hid hb1
  have a0 := cell_below t0 hb1
  have a1 := cell_below t1 hb1
  have a2 := cell_below t2 hb1
  have a3 := cell_below q1 hb1
  clear hbd hb1 hA
  refine hK.out _ _ ⟨a0, a1, a2, a3⟩ (fun hHeld => ?_)
  clear hK K
  refine wpAnyH_ready (rs := [4]) (by kernel_rfl) (by simp) ?_
  refine AllReadyH.cons (o := { dst := some 16, op := _, type := _, pos := _, after := _, guard := _ }) rfl (fun K hK => ?_) AllReadyH.nil
  go_simp
  go_at_call 33
  refine (HPO.out _ (below_on HB0.out Hb1.out)).mono ?_
  rintro e wb ⟨rfl, hb2⟩
  have Hb2 := Lib.hid hb2
  have d0 := cell_below a0 hb2
  have d1 := cell_below a1 hb2
  have d2 := cell_below a2 hb2
  have d3 := cell_below a3 hb2
  clear hb2
  refine hK.out _ _ ⟨d0, d1, d2, d3⟩ (fun hHeld => ?_)
  clear hK K
  refine wpAnyH_ready (rs := [5]) (by kernel_rfl) (by simp) ?_
  refine AllReadyH.cons (o := { dst := some 17, op := _, type := _, pos := _, after := _, guard := _ }) rfl (fun K hK => ?_) AllReadyH.nil
  go_simp
  go_at_call 35
  refine (HDP.out _).mono ?_
  rintro e wb' ⟨rfl, rfl⟩
  refine hK.out _ _ ⟨d0, d1, d2, d3⟩ (fun hHeld => ?_)
  clear hK K
  refine wpAnyH_ready (rs := [8]) (by kernel_rfl) (by simp) ?_
  refine AllReadyH.cons (o := { dst := some 20, op := _, type := _, pos := _, after := _, guard := _ }) rfl (fun K hK => ?_) AllReadyH.nil
  obtain ⟨T, hT⟩ : ∃ T, T = wb.heap.size := ⟨_, rfl⟩
  have z1 := Hb1.out.size
  have z2 := Hb2.out.size
  have hrT : rb < T := by omega
  have hPT : W.heap.size + 1 < T := by omega
  have hPr : W.heap.size + 1 ≠ rb := by omega
  have h4T : W.heap.size + 1 + 1 < T := by omega
  have h4r : W.heap.size + 1 + 1 ≠ rb := by omega
  have A8 := (HA.out.keep (fun k _ hk => Hb2.out.block k hk)).up (T' := T) (by omega)
  have R8 := row_on (row_on HR0.out Hb1.out) Hb2.out
  have P8 := Lib.hid (row_on (row_on HP0.out Hb1.out) Hb2.out)
  have F8 := Lib.hid (row_on (row_on H40.out Hb1.out) Hb2.out)
  have B8 := Lib.hid (below_on (below_on HB0.out Hb1.out) Hb2.out)
  have at1 := at_2 A8 (by omega) (by omega) R8 (R3.emp T wb) ⟨by simp, by simp, by simp⟩ (n : Int)
  have hcT : W.heap.size < T ∧ W.heap.size ≠ rb ∧ rb + 1 < T ∧ rb + 1 ≠ rb := by omega
  go_simp
  go_at_call 32
  refine at1.mono ?_
  rintro e w ⟨rfl, a', b', c', q4, q5, q6⟩
  have k3 := q6.kp (R3.emp T wb) (by omega)
  refine hK.out _ _ ⟨k3.cell hcT.1 hcT.2.1 d0, k3.cell hcT.1 hcT.2.1 d1, k3.cell hcT.1 hcT.2.1 d2, k3.cell hcT.2.2.1 hcT.2.2.2 d3⟩ (fun hHeld => ?_)
  have hzT : T ≤ w.heap.size := by have := k3.size; omega
  have HR := Lib.hid q4
  have HL := Lib.hid q5
  have HP := Lib.hid (k3.row hPT hPr P8.out)
  have H4 := Lib.hid (k3.row h4T h4r F8.out)
  have HB := Lib.hid (B8.out.trans ((k3.below hrT).mono (by omega) : Below W.heap.size wb w))
  clear hK K at1 A8 R8 k3 q4 q5 q6 a0 a1 a2 a3 d0 d1 d2 d3 t0 t1 t2 q0 q1 q2 q3
  refine wpAnyH_done (by kernel_rfl) ?_ _
  rw [List.nil_append] at HL
  obtain ⟨v1', w1, hr1, hrow1, hnew1, hl1, hk1, hm1⟩ := app_a hzT hrT HR.out HL.out 33 _ xs (hx.on HB.out) (by simp) (by omega)
  obtain ⟨A1, c1, rfl⟩ := ints_form hl1.fa
  have hz1 := hk1.size
  obtain ⟨v2, w2, hr2, hrow2, hnew2, hl2, hk2, hm2⟩ := app_b (by omega) hrT hnew1 hl1 33 _ ys (hy.on (HB.out.trans ((hk1.below hrT).mono (by omega)))) (by simp) (by omega)
  obtain ⟨A2, c2', rfl⟩ := ints_form hl2.fb
  have hz2 := hk2.size
  have hk12 := hk1.trans hk2
  obtain ⟨v3, w3, hr3, hrow3, hnew3, hl3, hk3, hm3⟩ := app_c (by omega) hrT hnew2 hl2 33 _ zs (hz.on (HB.out.trans ((hk12.below hrT).mono (by omega)))) (by simp) (by omega)
  obtain ⟨A3, c3, rfl⟩ := ints_form hl3.fc
  have hk123 := hk12.trans hk3
  have hm13 := hk1.trans hm2
  have hm33 := hk12.trans hm3
  obtain ⟨-, -, -, -, P4, P5, P6, -⟩ := row7 HP.out
  obtain ⟨-, -, -, -, P4', P5', P6', -⟩ := row7 (hm1.row hPT hPr HP.out)
  obtain ⟨-, -, -, -, P4'', P5'', P6'', -⟩ := row7 (hm13.row hPT hPr HP.out)
  obtain ⟨m0, m1, m2, m3, m4, m5, m6, n0, n1, n2, n3, n4', n5, n6, -⟩ := row7 HR.out
  obtain ⟨o0, o1, o2, o3, o4', o5, o6, u0, u1, u2, u3, u4, u5, u6, -⟩ := row7 hrow1
  obtain ⟨d0, d1, d2, d3, d4, d5, d6, f0, f1, f2, f3, f4, f5, f6, -⟩ := row7 hrow2
  obtain ⟨g0, g1, g2, g3, g4, g5, g6, k0, k1, k2, k3, k4, k5, k6, -⟩ := row7 hrow3
  obtain ⟨t0, t1, t2, t3, t4, t5, t6, y0, y1, y2, y3, y4, y5, y6, -⟩ := row7 (hm33.row h4T h4r H4.out)
  have HU0 := Lib.hid (HB.out.trans ((hk123.below hrT).mono (by omega) : Below W.heap.size w _))
  have HR4 := Lib.hid (hk123.row h4T h4r H4.out)
  have HL3 := Lib.hid hl3
  have E1 := Lib.hid hr1
  have E2 := Lib.hid hr2
  have E3 := Lib.hid hr3
  clear hr1 hr2 hr3 hrow1 hrow2 hrow3 hnew1 hnew2 hnew3 hl1 hl2 hl3 hk1 hk2 hk3 hm1 hm2 hm3 hk12 hk123 hm13 hm33
  go_wp2_with (first
    | (at_builtin; refine wpList_app rfl _ _ rfl rfl rfl E1.out ?_; clear E1)
    | (at_builtin; refine wpList_app rfl _ _ rfl rfl rfl E2.out ?_; clear E2)
    | (at_builtin; refine wpList_app rfl _ _ rfl rfl rfl E3.out ?_; clear E3))
  have HL4 := HL3.out
  simp only [List.nil_append, List.singleton_append, List.length_cons] at HL4 HR4 HU0
  generalize hU : (((((((w3.setCell ⟨rb, 6, none⟩ (.slice A3 zs.length c3)).setCell ⟨W.heap.size + 1 + 1, 0, none⟩ (.int .i64 0)).setCell ⟨W.heap.size + 1 + 1, 1, none⟩ (.int .i64 0)).setCell ⟨W.heap.size + 1 + 1, 2, none⟩ (.int .i64 0)).setCell ⟨W.heap.size + 1 + 1, 3, none⟩ (.string ⟨#[]⟩)).setCell ⟨W.heap.size + 1 + 1, 4, none⟩ (.slice A1 (xs.length + 1) c1)).setCell ⟨W.heap.size + 1 + 1, 5, none⟩ (.slice A2 ys.length c2')).setCell ⟨W.heap.size + 1 + 1, 6, none⟩ (.slice A3 zs.length c3) = U at *
  obtain ⟨b0, b1, b2, b3, b4', b5, b6, HU⟩ := seven_set _ _ _ _ _ _ _ HR4.out HU0.out (by omega) hU
  refine bodyPost_ret (v := .agg #[.int .i64 0, .int .i64 0, .int .i64 0, .string ⟨#[]⟩, .slice A1 (xs.length + 1) c1, .slice A2 ys.length c2', .slice A3 zs.length c3]) (by simp [results, Try.results16, go_sem, b0, b1, b2, b3, b4', b5, b6]) rfl ?_
  exact ⟨_, _, _, rfl, by rw [← hU]; exact r3_sets HL4 (by omega) _ _ _ _ _ _ _, HU⟩
set_option maxHeartbeats 4000000 in
set_option maxRecDepth 100000 in
theorem p21di_3 (v0 v1 : Value) (b4 o4 n4 c2 n : Nat) (t : Itm) (p3 : Int) (p4 : ByteArray) (Ax Ay Az : Option Addr) (nx ny nz cx cy cz : Nat) (xs ys zs : List Int) (W : World) (h1 : xs.length ≤ 40) (h2 : ys.length ≤ 40) (h3 : zs.length ≤ 40)
    (hx : SlF (.slice Ax nx cx) xs W) (hy : SlF (.slice Ay ny cy) ys W) (hz : SlF (.slice Az nz cz) zs W) (hnl : n < n4) (hbl : b4 < W.heap.size) (hit : ItmAt W b4 (o4 + n * 9) t) (hpol : t.y = 3) :
    Calls Try.prog 16 #[.agg #[v0, v1, .slice (some ⟨b4, o4, none⟩) n4 c2], .agg #[.int .i64 2, .int .i64 (n : Int), .int .i64 p3, .string p4, .slice Ax nx cx, .slice Ay ny cy, .slice Az nz cz]] W (RetRes W zcd xs ((n : Int) :: ys) zs) := by
  have HPO := Lib.hid (fun (u : World) (hu : Below W.heap.size W u) => p21po_in v0 v1 b4 o4 n4 c2 n t u hnl (Nat.lt_of_lt_of_le hbl hu.size) (hit.on hu hbl))
  obtain ⟨q, hq⟩ : ∃ q, q = t.y := ⟨_, rfl⟩
  rw [← hq] at HPO hpol
  have HDP := Lib.hid (fun (u : World) => show Calls Try.prog 35 #[.int .i64 q] u (fun e w' => e = .returned (.int .i64 3) ∧ u = w') by
    have := p21dp_any q u
    rwa [if_pos hpol] at this)
  clear hit hq hpol
  go_enter Try.func16, Try.ntmps16
  go_wp2_with fail
  generalize hU : (((((W.alloc (.cells #[v0, v1, .slice (some ⟨b4, o4, none⟩) n4 c2] 25)).alloc (.cells #[.int .i64 2, .int .i64 (n : Int), .int .i64 p3, .string p4, .slice Ax nx cx, .slice Ay ny cy, .slice Az nz cz] 35)).alloc (.cells ocZ 35)).alloc (.cells ocZ 35)).alloc (.cells #[.int .i64 2, .int .i64 (n : Int), .int .i64 p3, .string p4] 32)) = w0 at *
  obtain ⟨r0, r1, r2, r3, r4, hB⟩ := five W (.cells #[v0, v1, .slice (some ⟨b4, o4, none⟩) n4 c2] 25) (.cells #[.int .i64 2, .int .i64 (n : Int), .int .i64 p3, .string p4, .slice Ax nx cx, .slice Ay ny cy, .slice Az nz cz] 35) (.cells ocZ 35) (.cells ocZ 35) (.cells #[.int .i64 2, .int .i64 (n : Int), .int .i64 p3, .string p4] 32) w0 hU
  have hsz : w0.heap.size = W.heap.size + 5 := by rw [← hU]; simp
  clear hU
  generalize hrb : W.heap.size + 1 + 1 + 1 = rb at *
  have HR0 := Lib.hid r3
  have HP0 := Lib.hid r1
  have H40 := Lib.hid r2
  have HB0 := Lib.hid hB
  obtain ⟨t0, t1, t2, -, -, -, -⟩ := row3 r0
  obtain ⟨q0, q1, q2, q3, -⟩ := row4o r4
  clear r0 r1 r2 r3 r4 hB
  refine wp_region_held_drew (S := fun u => u.cell? ⟨W.heap.size, 0, none⟩ = some v0 ∧ u.cell? ⟨W.heap.size, 1, none⟩ = some v1 ∧ u.cell? ⟨W.heap.size, 2, none⟩ = some (.slice (some ⟨b4, o4, none⟩) n4 c2) ∧ u.cell? ⟨rb + 1, 1, none⟩ = some (.int .i64 (n : Int))) (by kernel_rfl) ⟨t0, t1, t2, q1⟩ (fun hHeld => ?_)
  refine wpAnyH_take (i := 1) (oi := { dst := some 13, op := _, type := _, pos := _, after := _, guard := _ }) (v := ?v_1) rfl (by kernel_rfl) (by kernel_rfl) (by kernel_rfl) (fun _ _ _ h => h) (Or.inl ⟨by rfl, ?hy_1⟩) hHeld ?_
  case hy_1 => (intro w' hSw; (try dsimp only at hSw); obtain ⟨S0, S1, S2, S3⟩ := hSw; go_simp; try with_reducible rfl)
  simp only [Act.put, List.setIfInBounds_toArray, List.set_cons_zero, List.set_cons_succ]
  refine wpAnyH_take (i := 2) (oi := { dst := some 14, op := _, type := _, pos := _, after := _, guard := _ }) (v := ?v_2) rfl (by kernel_rfl) (by kernel_rfl) (by kernel_rfl) (fun _ _ _ h => h) (Or.inl ⟨by rfl, ?hy_2⟩) hHeld ?_
  case hy_2 => (intro w' hSw; (try dsimp only at hSw); obtain ⟨S0, S1, S2, S3⟩ := hSw; go_simp; try with_reducible rfl)
  simp only [Act.put, List.setIfInBounds_toArray, List.set_cons_zero, List.set_cons_succ]
  refine wpAnyH_take (i := 3) (oi := { dst := some 15, op := _, type := _, pos := _, after := _, guard := _ }) (v := ?v_3) rfl (by kernel_rfl) (by kernel_rfl) (by kernel_rfl) (fun _ _ _ h => h) (Or.inl ⟨by rfl, ?hy_3⟩) hHeld ?_
  case hy_3 => (intro w' hSw; (try dsimp only at hSw); obtain ⟨S0, S1, S2, S3⟩ := hSw; go_simp; try with_reducible rfl)
  simp only [Act.put, List.setIfInBounds_toArray, List.set_cons_zero, List.set_cons_succ]
  refine wpAnyH_take (i := 6) (oi := { dst := some 18, op := _, type := _, pos := _, after := _, guard := _ }) (v := ?v_6) rfl (by kernel_rfl) (by kernel_rfl) (by kernel_rfl) (fun _ _ _ h => h) (Or.inl ⟨by rfl, ?hy_6⟩) hHeld ?_
  case hy_6 => (intro w' hSw; (try dsimp only at hSw); obtain ⟨S0, S1, S2, S3⟩ := hSw; go_simp; try with_reducible rfl)
  simp only [Act.put, List.setIfInBounds_toArray, List.set_cons_zero, List.set_cons_succ]
  refine wpAnyH_take (i := 7) (oi := { dst := some 19, op := _, type := _, pos := _, after := _, guard := _ }) (v := ?v_7) rfl (by kernel_rfl) (by kernel_rfl) (by kernel_rfl) (fun _ _ _ h => h) (Or.inl ⟨by rfl, ?hy_7⟩) hHeld ?_
  case hy_7 => (intro w' hSw; (try dsimp only at hSw); obtain ⟨S0, S1, S2, S3⟩ := hSw; go_simp; try with_reducible rfl)
  simp only [Act.put, List.setIfInBounds_toArray, List.set_cons_zero, List.set_cons_succ]
  refine wpAnyH_ready (rs := [0]) (by kernel_rfl) (by simp) ?_
  refine AllReadyH.cons (o := { dst := some 12, op := _, type := _, pos := _, after := _, guard := _ }) rfl (fun K hK => ?_) AllReadyH.nil
  go_simp
  go_at_call 30
  refine (adders_any rb _).mono ?_
  rintro e wa ⟨gm, rfl, hA, hbd⟩
  have hb1 : Below w0.heap.size w0 wa := ⟨hbd.os, hbd.tape, hbd.output, hbd.size, hbd.block⟩
  have HA := Lib.hid (show Adders w0.heap.size wa.heap.size rb gm wa from hA)
  have Hb1 := Lib.hid hb1
  have a0 := cell_below t0 hb1
  have a1 := cell_below t1 hb1
  have a2 := cell_below t2 hb1
  have a3 := cell_below q1 hb1
  clear hbd hb1 hA
  refine hK.out _ _ ⟨a0, a1, a2, a3⟩ (fun hHeld => ?_)
  clear hK K
  refine wpAnyH_ready (rs := [4]) (by kernel_rfl) (by simp) ?_
  refine AllReadyH.cons (o := { dst := some 16, op := _, type := _, pos := _, after := _, guard := _ }) rfl (fun K hK => ?_) AllReadyH.nil
  go_simp
  go_at_call 33
  refine (HPO.out _ (below_on HB0.out Hb1.out)).mono ?_
  rintro e wb ⟨rfl, hb2⟩
  have Hb2 := Lib.hid hb2
  have d0 := cell_below a0 hb2
  have d1 := cell_below a1 hb2
  have d2 := cell_below a2 hb2
  have d3 := cell_below a3 hb2
  clear hb2
  refine hK.out _ _ ⟨d0, d1, d2, d3⟩ (fun hHeld => ?_)
  clear hK K
  refine wpAnyH_ready (rs := [5]) (by kernel_rfl) (by simp) ?_
  refine AllReadyH.cons (o := { dst := some 17, op := _, type := _, pos := _, after := _, guard := _ }) rfl (fun K hK => ?_) AllReadyH.nil
  go_simp
  go_at_call 35
  refine (HDP.out _).mono ?_
  rintro e wb' ⟨rfl, rfl⟩
  refine hK.out _ _ ⟨d0, d1, d2, d3⟩ (fun hHeld => ?_)
  clear hK K
  refine wpAnyH_ready (rs := [8]) (by kernel_rfl) (by simp) ?_
  refine AllReadyH.cons (o := { dst := some 20, op := _, type := _, pos := _, after := _, guard := _ }) rfl (fun K hK => ?_) AllReadyH.nil
  obtain ⟨T, hT⟩ : ∃ T, T = wb.heap.size := ⟨_, rfl⟩
  have z1 := Hb1.out.size
  have z2 := Hb2.out.size
  have hrT : rb < T := by omega
  have hPT : W.heap.size + 1 < T := by omega
  have hPr : W.heap.size + 1 ≠ rb := by omega
  have h4T : W.heap.size + 1 + 1 < T := by omega
  have h4r : W.heap.size + 1 + 1 ≠ rb := by omega
  have A8 := (HA.out.keep (fun k _ hk => Hb2.out.block k hk)).up (T' := T) (by omega)
  have R8 := row_on (row_on HR0.out Hb1.out) Hb2.out
  have P8 := Lib.hid (row_on (row_on HP0.out Hb1.out) Hb2.out)
  have F8 := Lib.hid (row_on (row_on H40.out Hb1.out) Hb2.out)
  have B8 := Lib.hid (below_on (below_on HB0.out Hb1.out) Hb2.out)
  have at1 := at_3 A8 (by omega) (by omega) R8 (R3.emp T wb) ⟨by simp, by simp, by simp⟩ (n : Int)
  have hcT : W.heap.size < T ∧ W.heap.size ≠ rb ∧ rb + 1 < T ∧ rb + 1 ≠ rb := by omega
  go_simp
  go_at_call 32
  refine at1.mono ?_
  rintro e w ⟨rfl, a', b', c', q4, q5, q6⟩
  have k3 := q6.kp (R3.emp T wb) (by omega)
  refine hK.out _ _ ⟨k3.cell hcT.1 hcT.2.1 d0, k3.cell hcT.1 hcT.2.1 d1, k3.cell hcT.1 hcT.2.1 d2, k3.cell hcT.2.2.1 hcT.2.2.2 d3⟩ (fun hHeld => ?_)
  have hzT : T ≤ w.heap.size := by have := k3.size; omega
  have HR := Lib.hid q4
  have HL := Lib.hid q5
  have HP := Lib.hid (k3.row hPT hPr P8.out)
  have H4 := Lib.hid (k3.row h4T h4r F8.out)
  have HB := Lib.hid (B8.out.trans ((k3.below hrT).mono (by omega) : Below W.heap.size wb w))
  clear hK K at1 A8 R8 k3 q4 q5 q6 a0 a1 a2 a3 d0 d1 d2 d3 t0 t1 t2 q0 q1 q2 q3
  refine wpAnyH_done (by kernel_rfl) ?_ _
  rw [List.nil_append] at HL
  obtain ⟨v1', w1, hr1, hrow1, hnew1, hl1, hk1, hm1⟩ := app_a hzT hrT HR.out HL.out 33 _ xs (hx.on HB.out) (by simp) (by omega)
  obtain ⟨A1, c1, rfl⟩ := ints_form hl1.fa
  have hz1 := hk1.size
  obtain ⟨v2, w2, hr2, hrow2, hnew2, hl2, hk2, hm2⟩ := app_b (by omega) hrT hnew1 hl1 33 _ ys (hy.on (HB.out.trans ((hk1.below hrT).mono (by omega)))) (by simp) (by omega)
  obtain ⟨A2, c2', rfl⟩ := ints_form hl2.fb
  have hz2 := hk2.size
  have hk12 := hk1.trans hk2
  obtain ⟨v3, w3, hr3, hrow3, hnew3, hl3, hk3, hm3⟩ := app_c (by omega) hrT hnew2 hl2 33 _ zs (hz.on (HB.out.trans ((hk12.below hrT).mono (by omega)))) (by simp) (by omega)
  obtain ⟨A3, c3, rfl⟩ := ints_form hl3.fc
  have hk123 := hk12.trans hk3
  have hm13 := hk1.trans hm2
  have hm33 := hk12.trans hm3
  obtain ⟨-, -, -, -, P4, P5, P6, -⟩ := row7 HP.out
  obtain ⟨-, -, -, -, P4', P5', P6', -⟩ := row7 (hm1.row hPT hPr HP.out)
  obtain ⟨-, -, -, -, P4'', P5'', P6'', -⟩ := row7 (hm13.row hPT hPr HP.out)
  obtain ⟨m0, m1, m2, m3, m4, m5, m6, n0, n1, n2, n3, n4', n5, n6, -⟩ := row7 HR.out
  obtain ⟨o0, o1, o2, o3, o4', o5, o6, u0, u1, u2, u3, u4, u5, u6, -⟩ := row7 hrow1
  obtain ⟨d0, d1, d2, d3, d4, d5, d6, f0, f1, f2, f3, f4, f5, f6, -⟩ := row7 hrow2
  obtain ⟨g0, g1, g2, g3, g4, g5, g6, k0, k1, k2, k3, k4, k5, k6, -⟩ := row7 hrow3
  obtain ⟨t0, t1, t2, t3, t4, t5, t6, y0, y1, y2, y3, y4, y5, y6, -⟩ := row7 (hm33.row h4T h4r H4.out)
  have HU0 := Lib.hid (HB.out.trans ((hk123.below hrT).mono (by omega) : Below W.heap.size w _))
  have HR4 := Lib.hid (hk123.row h4T h4r H4.out)
  have HL3 := Lib.hid hl3
  have E1 := Lib.hid hr1
  have E2 := Lib.hid hr2
  have E3 := Lib.hid hr3
  clear hr1 hr2 hr3 hrow1 hrow2 hrow3 hnew1 hnew2 hnew3 hl1 hl2 hl3 hk1 hk2 hk3 hm1 hm2 hm3 hk12 hk123 hm13 hm33
  go_wp2_with (first
    | (at_builtin; refine wpList_app rfl _ _ rfl rfl rfl E1.out ?_; clear E1)
    | (at_builtin; refine wpList_app rfl _ _ rfl rfl rfl E2.out ?_; clear E2)
    | (at_builtin; refine wpList_app rfl _ _ rfl rfl rfl E3.out ?_; clear E3))
  have HL4 := HL3.out
  simp only [List.nil_append, List.singleton_append, List.length_cons] at HL4 HR4 HU0
  generalize hU : (((((((w3.setCell ⟨rb, 6, none⟩ (.slice A3 zs.length c3)).setCell ⟨W.heap.size + 1 + 1, 0, none⟩ (.int .i64 0)).setCell ⟨W.heap.size + 1 + 1, 1, none⟩ (.int .i64 0)).setCell ⟨W.heap.size + 1 + 1, 2, none⟩ (.int .i64 0)).setCell ⟨W.heap.size + 1 + 1, 3, none⟩ (.string ⟨#[]⟩)).setCell ⟨W.heap.size + 1 + 1, 4, none⟩ (.slice A1 xs.length c1)).setCell ⟨W.heap.size + 1 + 1, 5, none⟩ (.slice A2 (ys.length + 1) c2')).setCell ⟨W.heap.size + 1 + 1, 6, none⟩ (.slice A3 zs.length c3) = U at *
  obtain ⟨b0, b1, b2, b3, b4', b5, b6, HU⟩ := seven_set _ _ _ _ _ _ _ HR4.out HU0.out (by omega) hU
  refine bodyPost_ret (v := .agg #[.int .i64 0, .int .i64 0, .int .i64 0, .string ⟨#[]⟩, .slice A1 xs.length c1, .slice A2 (ys.length + 1) c2', .slice A3 zs.length c3]) (by simp [results, Try.results16, go_sem, b0, b1, b2, b3, b4', b5, b6]) rfl ?_
  exact ⟨_, _, _, rfl, by rw [← hU]; exact r3_sets HL4 (by omega) _ _ _ _ _ _ _, HU⟩
/-! what the package must answer -/
theorem slf_form {v : Value} {xs : List Int} {w : World} (h : SlF v xs w) : ∃ A cap, v = .slice A xs.length cap := by
  obtain ⟨A, cap, e, _⟩ := h
  exact ⟨A, cap, e⟩
theorem p21di_any (c : Cat) (v : Value) (p : Cd) (x y z : Value) (xs ys zs : List Int) (u : World) (h : CatAt u v c) (hx : SlF x xs u) (hy : SlF y ys u) (hz : SlF z zs u) (h1 : xs.length ≤ 40) (h2 : ys.length ≤ 40) (h3 : zs.length ≤ 40) (hp : p.k = 2 → 0 ≤ p.i ∧ p.i < c.fs.length ∧ 1 ≤ polOf c p ∧ polOf c p ≤ 3) :
    Calls Try.prog 16 #[v, rsq p x y z] u (RetRes u zcd (dspC c p xs) (dspO c p ys) zs) := by
  obtain ⟨⟨vs, vf, rfl, _, hf⟩, _, _, _⟩ := h
  obtain ⟨A4, c2, rfl, _, _, hf⟩ := hf
  obtain ⟨Ax, cx, rfl⟩ := slf_form hx
  obtain ⟨Ay, cy, rfl⟩ := slf_form hy
  obtain ⟨Az, cz, rfl⟩ := slf_form hz
  obtain ⟨p1, p2, p3, p4⟩ := p
  by_cases hk : p1 = 2
  · subst hk
    obtain ⟨q0, q1, q2, q3⟩ := hp rfl
    obtain ⟨n, rfl⟩ : ∃ n : Nat, p2 = n := ⟨p2.toNat, by dsimp only at q0; omega⟩
    have hnl : n < c.fs.length := by dsimp only at q1; omega
    obtain ⟨t, htt⟩ : ∃ t, c.fs[n]? = some t := ⟨_, List.getElem?_eq_getElem hnl⟩
    obtain ⟨b4, o4, rfl, hbl, hit⟩ := hf n t htt
    have hpo : polOf c ⟨2, (n : Int), p3, p4⟩ = t.y := by
      unfold polOf
      rw [Int.toNat_natCast, List.getD_eq_getElem?_getD, htt]; rfl
    by_cases hpol : t.y = 3
    · rw [show dspC c ⟨2, (n : Int), p3, p4⟩ xs = xs from if_neg (fun e => e.2 (hpo.trans hpol)), show dspO c ⟨2, (n : Int), p3, p4⟩ ys = (n : Int) :: ys from if_pos ⟨rfl, hpo.trans hpol⟩]
      exact p21di_3 _ _ _ _ _ _ n t p3 p4 _ _ _ _ _ _ _ _ _ xs ys zs u h1 h2 h3 hx hy hz hnl hbl hit hpol
    · rw [show dspC c ⟨2, (n : Int), p3, p4⟩ xs = (n : Int) :: xs from if_pos ⟨rfl, fun e => hpol (hpo.symm.trans e)⟩, show dspO c ⟨2, (n : Int), p3, p4⟩ ys = ys from if_neg (fun e => hpol (hpo.symm.trans e.2))]
      exact p21di_2 _ _ _ _ _ _ n t p3 p4 _ _ _ _ _ _ _ _ _ xs ys zs u h1 h2 h3 hx hy hz hnl hbl hit hpol
  · rw [show dspC c ⟨p1, p2, p3, p4⟩ xs = xs from if_neg (fun e => hk e.1), show dspO c ⟨p1, p2, p3, p4⟩ ys = ys from if_neg (fun e => hk e.1)]
    exact p21di_1 _ _ _ c _ p1 p2 p3 p4 _ _ _ _ _ _ _ _ _ xs ys zs u h1 h2 h3 hx hy hz hk
theorem op21 : OP where
  rs := fun c v vl l x rest u h hl _ hok hs => p21rs_any c v vl l x rest u h hl hok hs
  fr := fun c v p A1 A2 A3 n1 n2 n3 c1 c2 c3 u h => by
    obtain ⟨⟨vs, vf, rfl, _, _⟩, _, _, _⟩ := h
    exact p21fr_any c.free vs vf p A1 A2 A3 n1 n2 n3 c1 c2 c3 u
  di := fun c v p x y z xs ys zs u h hx hy hz _ h1 h2 h3 _ hp => p21di_any c v p x y z xs ys zs u h hx hy hz h1 h2 h3 hp
end Go.Proofs.Ytnofmlkjagdklaa
