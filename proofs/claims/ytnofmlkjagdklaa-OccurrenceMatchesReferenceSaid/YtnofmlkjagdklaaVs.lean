/- Package occurrence: Resolve. -/
import Derived.Test.YtnofmlkjagdklaaVr
import Derived.Test.YtnofmlkjagdklaaVe
import Derived.Test.YtnofmlkjagdklaaK2
namespace Go.Proofs.Ytnofmlkjagdklaa
open Go.RowKit Go.Maps

abbrev ocZ : Array Value := #[.int .i64 0, .int .i64 0, .int .i64 0, .string ⟨#[]⟩, .slice none 0 0, .slice none 0 0, .slice none 0 0]
theorem row4_set {u : World} {pb t : Nat} {a0 a1 a2 a3 a4 a5 a6 : Value} (h : u.heap[pb]? = some (.cells #[a0, a1, a2, a3, a4, a5, a6] t (0, 0))) (v0 v1 v2 v3 : Value) : ((((u.setCell ⟨pb, 0, none⟩ v0).setCell ⟨pb, 1, none⟩ v1).setCell ⟨pb, 2, none⟩ v2).setCell ⟨pb, 3, none⟩ v3).heap[pb]? = some (.cells #[v0, v1, v2, v3, a4, a5, a6] t (0, 0)) := by
  have r0 : (u.setCell ⟨pb, 0, none⟩ v0).heap[pb]? = some (.cells #[v0, a1, a2, a3, a4, a5, a6] t (0, 0)) := heap_setCell_same _ pb 0 _ _ v0 h
  have r1 : ((u.setCell ⟨pb, 0, none⟩ v0).setCell ⟨pb, 1, none⟩ v1).heap[pb]? = some (.cells #[v0, v1, a2, a3, a4, a5, a6] t (0, 0)) := heap_setCell_same _ pb 1 _ _ v1 r0
  have r2 : (((u.setCell ⟨pb, 0, none⟩ v0).setCell ⟨pb, 1, none⟩ v1).setCell ⟨pb, 2, none⟩ v2).heap[pb]? = some (.cells #[v0, v1, v2, a3, a4, a5, a6] t (0, 0)) := heap_setCell_same _ pb 2 _ _ v2 r1
  exact heap_setCell_same _ pb 3 _ _ v3 r2
theorem r3_set4 {T rb : Nat} {a b c : Value} {xs ys zs : List Int} {w : World} (h : R3 T a b c xs ys zs w) (hr : rb < T) (v0 v1 v2 v3 : Value) : R3 T a b c xs ys zs ((((w.setCell ⟨rb, 0, none⟩ v0).setCell ⟨rb, 1, none⟩ v1).setCell ⟨rb, 2, none⟩ v2).setCell ⟨rb, 3, none⟩ v3) := by
  have key : ∀ {u : Value} {us : List Int}, IntsAt T u us w → IntsAt T u us ((((w.setCell ⟨rb, 0, none⟩ v0).setCell ⟨rb, 1, none⟩ v1).setCell ⟨rb, 2, none⟩ v2).setCell ⟨rb, 3, none⟩ v3) := fun {u us} hu => by
    have hn : u.ownBlock ≠ some rb := fun e => absurd (World.ownsRow.lt hu rb e).1 (by omega)
    exact setc_ints (setc_ints (setc_ints (setc_ints hu hn _) hn _) hn _) hn _
  exact ⟨key h.fa, key h.fb, key h.fc, h.ab, h.ac, h.bc⟩
theorem row4o {w : World} {b t : Nat} {a0 a1 a2 a3 : Value} (h : w.heap[b]? = some (.cells #[a0, a1, a2, a3] t (0, 0))) :
    w.cell? ⟨b, 0, none⟩ = some a0 ∧ w.cell? ⟨b, 1, none⟩ = some a1 ∧ w.cell? ⟨b, 2, none⟩ = some a2 ∧ w.cell? ⟨b, 3, none⟩ = some a3 ∧ w.frozen? ⟨b, 0, none⟩ = false ∧ w.frozen? ⟨b, 1, none⟩ = false ∧ w.frozen? ⟨b, 2, none⟩ = false ∧ w.frozen? ⟨b, 3, none⟩ = false := by
  refine ⟨?_, ?_, ?_, ?_, ?_, ?_, ?_, ?_⟩ <;> first | (rw [cell_of_row _ _ _ _ _ _ h]; rfl) | exact frozen_of_row _ _ _ _ _ h
/-- A candidate does not lie in a zero result. -/
theorem cd_far {w : World} {b rb o t : Nat} {x : Cd} (hc : CdAt w b o x) (hr : w.heap[rb]? = some (.cells ocZ t (0, 0))) (hk : x.k = 1 ∨ x.k = 2) : b ≠ rb := by
  rintro rfl
  have h := hc.c0
  rw [cell_of_row w b o _ _ _ hr] at h
  match o, h with
  | 0, h | 1, h | 2, h => have : (0 : Int) = x.k := by simpa using h
                          omega
  | 3, h | 4, h | 5, h | 6, h => simp at h
  | n + 7, h => simp at h
set_option maxHeartbeats 4000000 in
set_option maxRecDepth 100000 in
theorem p21rs_0 (v0 v1 : Value) (A2 : Option Addr) (c : Cat) (c2 : Nat) (vl : Value) (l : List Cd) (x : Cd) (rest : List Cd) (W : World) (hok : Lok c l) (hs : srtR l = x :: rest)
    (H2 : ∀ (i : Nat) (t : Itm), c.fs[i]? = some t → ∃ b o, A2 = some ⟨b, o, none⟩ ∧ b < W.heap.size ∧ ItmAt W b (o + i * 9) t)
    (HS : ∀ u, Below W.heap.size W u → Calls Try.prog 31 #[vl] u (RetC u (x :: rest))) :
    Calls Try.prog 11 #[.agg #[v0, v1, .slice A2 c.fs.length c2], vl] W (RetRes W x (polL c 2 rest) (polL c 3 rest) (polL c 1 rest)) := by
  have hfs : ∀ y ∈ rest, y.k = 2 → 0 ≤ y.i ∧ y.i < c.fs.length ∧ 1 ≤ polOf c y ∧ polOf c y ≤ 3 := fun y hy => hok.fs y ((srtR_perm l).mem_iff.1 (by rw [hs]; exact List.mem_cons_of_mem _ hy))
  have hkx : x.k = 1 ∨ x.k = 2 := hok.kd x ((srtR_perm l).mem_iff.1 (by rw [hs]; exact List.mem_cons_self ..))
  have hrl : rest.length ≤ 40 := by have := srtR_len l; rw [hs, List.length_cons] at this; have := hok.le; omega
  have Q2 := Lib.hid H2
  have QS := Lib.hid HS
  have QF := Lib.hid hfs
  have QK := Lib.hid hkx
  have B0 := Lib.hid ((((Below.refl W.heap.size W).alloc (Nat.le_refl _) (.cells #[v0, v1, .slice A2 c.fs.length c2] 25)).alloc (by simp) (.cells ocZ 35)).alloc (by simp; omega) (.cells ocZ 35))
  have Z0 : (((W.alloc (.cells #[v0, v1, .slice A2 c.fs.length c2] 25)).alloc (.cells ocZ 35)).alloc (.cells ocZ 35)).heap.size = W.heap.size + 3 := by simp
  have R0 := Lib.hid (row_al (row_al (heap_alloc_new W (.cells #[v0, v1, .slice A2 c.fs.length c2] 25)) (.cells ocZ 35)) (.cells ocZ 35))
  have R1 := Lib.hid (show (((W.alloc (.cells #[v0, v1, .slice A2 c.fs.length c2] 25)).alloc (.cells ocZ 35)).alloc (.cells ocZ 35)).heap[W.heap.size + 1]? = some (.cells ocZ 35 (0, 0)) from by
    have := heap_alloc_new (W.alloc (.cells #[v0, v1, .slice A2 c.fs.length c2] 25)) (.cells ocZ 35)
    rw [World.size_alloc] at this
    exact row_al this _)
  have RR := Lib.hid (show (((W.alloc (.cells #[v0, v1, .slice A2 c.fs.length c2] 25)).alloc (.cells ocZ 35)).alloc (.cells ocZ 35)).heap[W.heap.size + 1 + 1]? = some (.cells ocZ 35 (0, 0)) from by
    have := heap_alloc_new ((W.alloc (.cells #[v0, v1, .slice A2 c.fs.length c2] 25)).alloc (.cells ocZ 35)) (.cells ocZ 35)
    rwa [World.size_alloc, World.size_alloc] at this)
  clear H2 HS hfs hs hok hkx
  go_enter Try.func11, Try.ntmps11
  go_wp2_with fail
  generalize hW1 : ((W.alloc (.cells #[v0, v1, .slice A2 c.fs.length c2] 25)).alloc (.cells ocZ 35)).alloc (.cells ocZ 35) = W1 at *
  generalize hrb : W.heap.size + 1 + 1 = rb at *
  refine (adders_any (rb) W1).mono ?_
  rintro e wa ⟨gm, rfl, hA, hba⟩
  have BA := Lib.hid (below_on B0.out hba)
  have HA := Lib.hid hA
  have R0a := Lib.hid (row_on R0.out hba)
  have R1a := Lib.hid (row_on R1.out hba)
  have RRa := Lib.hid (row_on RR.out hba)
  have za := hba.size
  clear hA hba
  go_wp2_with fail
  refine (QS.out _ BA.out).mono ?_
  rintro e w1 ⟨vs, rfl, hvs, hb1⟩
  obtain ⟨As, cs, hAs, ls1, ls2, hcd⟩ := hvs
  subst hAs
  obtain ⟨bs, os, rfl, hx0⟩ := hcd 0 x rfl
  have QC := Lib.hid hcd
  have HBs := Lib.hid (below_on BA.out hb1)
  have R0b := Lib.hid (row_on R0a.out hb1)
  have R1b := Lib.hid (row_on R1a.out hb1)
  have RRb := Lib.hid (row_on RRa.out hb1)
  have HAb := Lib.hid ((HA.out.keep (fun k _ hk => hb1.block k hk)).up hb1.size)
  have zb := hb1.size
  rw [List.length_cons] at ls1
  unfold maxLen at ls2
  have hfar : bs ≠ rb := cd_far hx0 RRb.out QK.out
  have hbs := hx0.lt
  have HFAR := Lib.hid hfar
  clear hcd hb1 hx0 HA R0a R1a RRa hfar
  generalize hH : W1.heap.size = H at *
  rw [List.length_cons]
  go_wp2_with fail
  generalize hT : w1.heap.size = T at *
  have TT := Lib.hid hT
  clear hT
  go_loopw [13] (fun jv wr => ∃ (m : Nat) (va vb vc : Value), m ≤ rest.length + 1 ∧ jv = .int .i64 (m : Int) ∧ Kp T (rb) w1 wr ∧ wr.heap[rb]? = some (.cells #[.int .i64 (if m = 0 then zcd else x).k, .int .i64 (if m = 0 then zcd else x).i, .int .i64 (if m = 0 then zcd else x).r, .string (if m = 0 then zcd else x).id, va, vb, vc] 35 (0, 0)) ∧ R3 T va vb vc (polL c 2 (rest.take (m - 1))) (polL c 3 (rest.take (m - 1))) (polL c 1 (rest.take (m - 1))) wr) (fun jv _ => rest.length + 1 - (intOf jv).toNat)
  case atStart => exact ⟨0, _, _, _, Nat.zero_le _, rfl, Kp.refl _ _ _, RRb.out, R3.emp _ _⟩
  case round =>
    obtain ⟨m, va, vb, vc, hm, rfl, hk, hr6, hl⟩ := hrel
    have hz6 : T ≤ wr.heap.size := by have := hk.size; have := TT.out; omega
    have HK := Lib.hid hk
    have HL := Lib.hid hl
    have HB := Lib.hid (HBs.out.trans (((hk.below (by omega)).mono (by omega) : Below W.heap.size w1 wr)))
    have HR0 := Lib.hid (hk.row (by omega) (by omega) R0b.out)
    have HA6 := Lib.hid (HAb.out.kp hk (by omega))
    have HR6 := Lib.hid hr6
    clear hk hl hr6
    have lx := polL_len (c := c) (p := 2) (s := rest.take (m - 1))
    have ly := polL_len (c := c) (p := 3) (s := rest.take (m - 1))
    have lz := polL_len (c := c) (p := 1) (s := rest.take (m - 1))
    rw [List.length_take] at lx ly lz
    by_cases hlt : m < rest.length + 1
    · obtain ⟨y, hy⟩ : ∃ y, (x :: rest)[m]? = some y := ⟨_, List.getElem?_eq_getElem (by rw [List.length_cons]; exact hlt)⟩
      obtain ⟨bs', os', e, hit⟩ := QC.out m y hy
      obtain ⟨rfl, rfl⟩ : bs = bs' ∧ os = os' := by simpa using e
      have c0 := HK.out.cell (by have := TT.out; omega) HFAR.out hit.c0
      have c1 := HK.out.cell (by have := TT.out; omega) HFAR.out hit.c1
      have c2' := HK.out.cell (by have := TT.out; omega) HFAR.out hit.c2
      have c3 := HK.out.cell (by have := TT.out; omega) HFAR.out hit.c3
      clear hit e
      rcases m with _ | k
      · obtain rfl : x = y := by simpa using hy
        clear hy
        rw [Nat.zero_mul, Nat.add_zero] at c0 c1 c2' c3
        have hal := (Below.refl wr.heap.size wr).alloc (Nat.le_refl _) (.cells #[.int .i64 x.k, .int .i64 x.i, .int .i64 x.r, .string x.id] 32)
        have R7 := row_on HR6.out hal
        rw [if_pos rfl] at R7
        have K7 := Lib.hid (HK.out.trans (Kp.of_below (hal.mono hz6)))
        have L7 := Lib.hid (HL.out.on hal)
        obtain ⟨s0, s1, s2, s3, s4, s5, s6, u0, u1, u2, u3, u4, u5, u6, sz⟩ := row7 R7
        have R7h := Lib.hid R7
        clear R7 hal
        obtain ⟨x1, x2, x3, x4⟩ := x
        go_wp2_with fail
        go_roundw
        case rel => exact ⟨1, va, vb, vc, by omega, by go_num, (((K7.out.set _ _).set _ _).set _ _).set _ _, row4_set R7h.out _ _ _ _, r3_set4 L7.out (by omega) _ _ _ _⟩
        case measure => simp [intOf]
      · rw [List.getElem?_cons_succ] at hy
        have ht1 := take_succ_cd hy
        have hfy := QF.out y (List.mem_of_getElem? hy)
        obtain ⟨y1, y2, y3, y4⟩ := y
        dsimp only at c0 c1 c2' c3
        rw [if_neg (Nat.succ_ne_zero k)] at HR6
        rw [Nat.add_sub_cancel] at HL lx ly lz
        have hm0 : ((((k + 1 : Nat) : Int)) == 0) = false := beq_eq_false_iff_ne.2 (by omega)
        have hal := (Below.refl wr.heap.size wr).alloc (Nat.le_refl _) (.cells #[.int .i64 y1, .int .i64 y2, .int .i64 y3, .string y4] 32)
        have R7 := Lib.hid (row_on HR6.out hal)
        have K7 := Lib.hid (HK.out.trans (Kp.of_below (hal.mono hz6)))
        have L7 := Lib.hid (HL.out.on hal)
        have A7 := Lib.hid (HA6.out.kp (Kp.of_below (hal.mono hz6)) (by omega))
        have B7 := Lib.hid (below_on HB.out hal)
        have C7 := Lib.hid (row_on HR0.out hal)
        have X7 := Lib.hid (heap_alloc_new wr (.cells #[.int .i64 y1, .int .i64 y2, .int .i64 y3, .string y4] 32))
        have S7 : (wr.alloc (.cells #[.int .i64 y1, .int .i64 y2, .int .i64 y3, .string y4] 32)).heap.size = wr.heap.size + 1 := by simp
        clear hal hy
        generalize hxd : polL c 2 (rest.take k) = xs at *
        generalize hyd : polL c 3 (rest.take k) = ys at *
        generalize hzd : polL c 1 (rest.take k) = zs at *
        obtain ⟨r0, r1, r2, -, -, -, rz⟩ := row3 C7.out
        obtain ⟨q0, q1, q2, q3, -⟩ := row4o X7.out
        by_cases hk2 : y1 = 2
        · subst hk2
          obtain ⟨f0, f1, f2, f3⟩ := hfy rfl
          obtain ⟨n, rfl⟩ : ∃ n : Nat, y2 = n := ⟨y2.toNat, by dsimp only at f0; omega⟩
          have hnl : n < c.fs.length := by dsimp only at f1; omega
          obtain ⟨t, htt⟩ : ∃ t, c.fs[n]? = some t := ⟨_, List.getElem?_eq_getElem hnl⟩
          obtain ⟨b2, o2, hA, hbl2, hit2⟩ := Q2.out n t htt
          subst hA
          have hpo : polOf c ⟨2, (n : Int), y3, y4⟩ = t.y := by
            unfold polOf
            rw [Int.toNat_natCast, List.getD_eq_getElem?_getD, htt]; rfl
          rw [hpo] at f2 f3
          have hpl : ∀ p : Int, isP c p ⟨2, (n : Int), y3, y4⟩ = decide (t.y = p) := fun p => by unfold isP; rw [hpo]; rfl
          have HP := Lib.hid (fun (u : World) (hu : Below W.heap.size W u) => p21po_in v0 v1 b2 o2 c.fs.length c2 n t u hnl (Nat.lt_of_lt_of_le hbl2 hu.size) (hit2.on hu hbl2))
          clear hit2 htt f0 f1 hfy hpo
          obtain ⟨d1, d2, dy, e0, e1, e2, e3, e4, e5⟩ := t
          dsimp only at f2 f3 HP hpl
          have hdy : dy = 1 ∨ dy = 2 ∨ dy = 3 := by omega
          have HX := Lib.hid hxd
          have HY := Lib.hid hyd
          have HZ := Lib.hid hzd
          clear hxd hyd hzd
          go_wp2_with fail
          generalize hX : wr.alloc (.cells #[.int .i64 2, .int .i64 (n : Int), .int .i64 y3, .string y4] 32) = X at *
          refine wp_region_held_drew (S := fun u => u.cell? ⟨W.heap.size, 0, none⟩ = some v0 ∧ u.cell? ⟨W.heap.size, 1, none⟩ = some v1 ∧ u.cell? ⟨W.heap.size, 2, none⟩ = some (.slice (some ⟨b2, o2, none⟩) c.fs.length c2) ∧ u.cell? ⟨wr.heap.size, 1, none⟩ = some (.int .i64 (n : Int))) (by kernel_rfl) ⟨r0, r1, r2, q1⟩ (fun hHeld => ?_)
          refine wpAnyH_take (i := 0) (oi := { dst := some 25, op := _, type := _, pos := _, after := _, guard := _ }) (v := ?v_0) rfl (by kernel_rfl) (by kernel_rfl) (by kernel_rfl) (fun _ _ _ h => h) (Or.inl ⟨by rfl, ?hy_0⟩) hHeld ?_
          case hy_0 => (intro w' hSw; (try dsimp only at hSw); obtain ⟨S0, S1, S2, S3⟩ := hSw; go_simp; try with_reducible rfl)
          simp only [Act.put, List.setIfInBounds_toArray, List.set_cons_zero, List.set_cons_succ]
          refine wpAnyH_take (i := 1) (oi := { dst := some 26, op := _, type := _, pos := _, after := _, guard := _ }) (v := ?v_1) rfl (by kernel_rfl) (by kernel_rfl) (by kernel_rfl) (fun _ _ _ h => h) (Or.inl ⟨by rfl, ?hy_1⟩) hHeld ?_
          case hy_1 => (intro w' hSw; (try dsimp only at hSw); obtain ⟨S0, S1, S2, S3⟩ := hSw; go_simp; try with_reducible rfl)
          simp only [Act.put, List.setIfInBounds_toArray, List.set_cons_zero, List.set_cons_succ]
          refine wpAnyH_take (i := 2) (oi := { dst := some 27, op := _, type := _, pos := _, after := _, guard := _ }) (v := ?v_2) rfl (by kernel_rfl) (by kernel_rfl) (by kernel_rfl) (fun _ _ _ h => h) (Or.inl ⟨by rfl, ?hy_2⟩) hHeld ?_
          case hy_2 => (intro w' hSw; (try dsimp only at hSw); obtain ⟨S0, S1, S2, S3⟩ := hSw; go_simp; try with_reducible rfl)
          simp only [Act.put, List.setIfInBounds_toArray, List.set_cons_zero, List.set_cons_succ]
          refine wpAnyH_take (i := 3) (oi := { dst := some 28, op := _, type := _, pos := _, after := _, guard := _ }) (v := ?v_3) rfl (by kernel_rfl) (by kernel_rfl) (by kernel_rfl) (fun _ _ _ h => h) (Or.inl ⟨by rfl, ?hy_3⟩) hHeld ?_
          case hy_3 => (intro w' hSw; (try dsimp only at hSw); obtain ⟨S0, S1, S2, S3⟩ := hSw; go_simp; try with_reducible rfl)
          simp only [Act.put, List.setIfInBounds_toArray, List.set_cons_zero, List.set_cons_succ]
          refine wpAnyH_take (i := 5) (oi := { dst := some 30, op := _, type := _, pos := _, after := _, guard := _ }) (v := ?v_5) rfl (by kernel_rfl) (by kernel_rfl) (by kernel_rfl) (fun _ _ _ h => h) (Or.inl ⟨by rfl, ?hy_5⟩) hHeld ?_
          case hy_5 => (intro w' hSw; (try dsimp only at hSw); obtain ⟨S0, S1, S2, S3⟩ := hSw; go_simp; try with_reducible rfl)
          simp only [Act.put, List.setIfInBounds_toArray, List.set_cons_zero, List.set_cons_succ]
          refine wpAnyH_take (i := 6) (oi := { dst := some 31, op := _, type := _, pos := _, after := _, guard := _ }) (v := ?v_6) rfl (by kernel_rfl) (by kernel_rfl) (by kernel_rfl) (fun _ _ _ h => h) (Or.inl ⟨by rfl, ?hy_6⟩) hHeld ?_
          case hy_6 => (intro w' hSw; (try dsimp only at hSw); obtain ⟨S0, S1, S2, S3⟩ := hSw; go_simp; try with_reducible rfl)
          simp only [Act.put, List.setIfInBounds_toArray, List.set_cons_zero, List.set_cons_succ]
          refine wpAnyH_ready (rs := [4]) (by kernel_rfl) (by simp) ?_
          refine AllReadyH.cons (o := { dst := some 29, op := _, type := _, pos := _, after := _, guard := _ }) rfl (fun K hK => ?_) AllReadyH.nil
          go_simp
          go_at_call 33
          refine (HP.out _ B7.out.drew).mono ?_
          rintro e w2 ⟨rfl, hb2d⟩
          have hb2 : Below X.heap.size X w2 := ⟨hb2d.os, hb2d.tape, hb2d.output, hb2d.size, hb2d.block⟩
          have Hb2 := Lib.hid hb2
          have t0 := cell_below r0 hb2
          have t1 := cell_below r1 hb2
          have t2 := cell_below r2 hb2
          have t3 := cell_below q1 hb2
          clear hb2d hb2
          refine hK.out _ _ ⟨t0, t1, t2, t3⟩ (fun hHeld => ?_)
          clear hK K
          refine wpAnyH_ready (rs := [7]) (by kernel_rfl) (by simp) ?_
          refine AllReadyH.cons (o := { dst := some 32, op := _, type := _, pos := _, after := _, guard := _ }) rfl (fun K hK => ?_) AllReadyH.nil
          have zX : T ≤ X.heap.size := by rw [S7]; omega
          have k2 : Kp T rb X w2 := Kp.of_below (Hb2.out.mono zX)
          have A8 := A7.out.kp k2 (by omega)
          have R8 := row_on R7.out Hb2.out
          have L8 := L7.out.on Hb2.out
          have z2 := Hb2.out.size
          have K8 := Lib.hid (K7.out.trans k2)
          have hrT : rb < T := by omega
          have hrH : rb < H := by omega
          have hcT : W.heap.size < T ∧ W.heap.size ≠ rb := by omega
          have hxf : ∀ {u : Value} {us : List Int}, IntsAt T u us wr → u.ownBlock ≠ some wr.heap.size := fun {u us} hu e => by have := (World.ownsRow.lt hu _ e).2; omega
          have hx0 : wr.heap.size < w2.heap.size ∧ wr.heap.size ≠ rb := by omega
          have hxs := Lib.hid (And.intro (hxf HL.out.fa) (And.intro (hxf HL.out.fb) (hxf HL.out.fc)))
          clear hxf
          rcases hdy with rfl | rfl | rfl
          · have at1 := at_1 A8 hrH (by omega) R8 L8 ⟨by omega, by omega, by omega⟩ (n : Int)
            go_simp
            go_at_call 32
            refine at1.mono ?_
            rintro e w3 ⟨rfl, a', b', c', q4, q5, q6⟩
            have k3 := q6.kp L8 (by omega)
            refine hK.out _ _ ⟨k3.cell hcT.1 hcT.2 t0, k3.cell hcT.1 hcT.2 t1, k3.cell hcT.1 hcT.2 t2, (World.cell?_of_block (a := ⟨wr.heap.size, 1, none⟩) (q6.block _ hx0.1 hx0.2 hxs.out.1 hxs.out.2.1 hxs.out.2.2)).trans t3⟩ (fun hHeld => ?_)
            have K9 := Lib.hid (K8.out.trans k3)
            have R9 := Lib.hid q4
            have L9 := Lib.hid q5
            have EX := Lib.hid (show polL c 2 (rest.take (k + 1)) = xs by rw [ht1, polL_more, HX.out, show isP c 2 (⟨2, (n : Int), y3, y4⟩ : Cd) = false by rw [hpl 2]; rfl]; rfl)
            have EY := Lib.hid (show polL c 3 (rest.take (k + 1)) = ys by rw [ht1, polL_more, HY.out, show isP c 3 (⟨2, (n : Int), y3, y4⟩ : Cd) = false by rw [hpl 3]; rfl]; rfl)
            have EZ := Lib.hid (show polL c 1 (rest.take (k + 1)) = zs ++ [(n : Int)] by rw [ht1, polL_more, HZ.out, show isP c 1 (⟨2, (n : Int), y3, y4⟩ : Cd) = true by rw [hpl 1]; rfl]; rfl)
            clear hK K k3 q4 q5 q6 at1 A8 R8 L8 t0 t1 t2 t3 ht1 hpl
            refine wpAnyH_done (by kernel_rfl) ?_ _
            go_wp2_with fail
            go_roundw
            case rel => exact ⟨k + 2, a', b', c', by omega, by go_num, K9.out, by rw [if_neg (Nat.succ_ne_zero _)]; exact R9.out, by rw [show k + 2 - 1 = k + 1 from rfl, EX.out, EY.out, EZ.out]; exact L9.out⟩
            case measure => simp [intOf]; omega
          · have at1 := at_2 A8 hrH (by omega) R8 L8 ⟨by omega, by omega, by omega⟩ (n : Int)
            go_simp
            go_at_call 32
            refine at1.mono ?_
            rintro e w3 ⟨rfl, a', b', c', q4, q5, q6⟩
            have k3 := q6.kp L8 (by omega)
            refine hK.out _ _ ⟨k3.cell hcT.1 hcT.2 t0, k3.cell hcT.1 hcT.2 t1, k3.cell hcT.1 hcT.2 t2, (World.cell?_of_block (a := ⟨wr.heap.size, 1, none⟩) (q6.block _ hx0.1 hx0.2 hxs.out.1 hxs.out.2.1 hxs.out.2.2)).trans t3⟩ (fun hHeld => ?_)
            have K9 := Lib.hid (K8.out.trans k3)
            have R9 := Lib.hid q4
            have L9 := Lib.hid q5
            have EX := Lib.hid (show polL c 2 (rest.take (k + 1)) = xs ++ [(n : Int)] by rw [ht1, polL_more, HX.out, show isP c 2 (⟨2, (n : Int), y3, y4⟩ : Cd) = true by rw [hpl 2]; rfl]; rfl)
            have EY := Lib.hid (show polL c 3 (rest.take (k + 1)) = ys by rw [ht1, polL_more, HY.out, show isP c 3 (⟨2, (n : Int), y3, y4⟩ : Cd) = false by rw [hpl 3]; rfl]; rfl)
            have EZ := Lib.hid (show polL c 1 (rest.take (k + 1)) = zs by rw [ht1, polL_more, HZ.out, show isP c 1 (⟨2, (n : Int), y3, y4⟩ : Cd) = false by rw [hpl 1]; rfl]; rfl)
            clear hK K k3 q4 q5 q6 at1 A8 R8 L8 t0 t1 t2 t3 ht1 hpl
            refine wpAnyH_done (by kernel_rfl) ?_ _
            go_wp2_with fail
            go_roundw
            case rel => exact ⟨k + 2, a', b', c', by omega, by go_num, K9.out, by rw [if_neg (Nat.succ_ne_zero _)]; exact R9.out, by rw [show k + 2 - 1 = k + 1 from rfl, EX.out, EY.out, EZ.out]; exact L9.out⟩
            case measure => simp [intOf]; omega
          · have at1 := at_3 A8 hrH (by omega) R8 L8 ⟨by omega, by omega, by omega⟩ (n : Int)
            go_simp
            go_at_call 32
            refine at1.mono ?_
            rintro e w3 ⟨rfl, a', b', c', q4, q5, q6⟩
            have k3 := q6.kp L8 (by omega)
            refine hK.out _ _ ⟨k3.cell hcT.1 hcT.2 t0, k3.cell hcT.1 hcT.2 t1, k3.cell hcT.1 hcT.2 t2, (World.cell?_of_block (a := ⟨wr.heap.size, 1, none⟩) (q6.block _ hx0.1 hx0.2 hxs.out.1 hxs.out.2.1 hxs.out.2.2)).trans t3⟩ (fun hHeld => ?_)
            have K9 := Lib.hid (K8.out.trans k3)
            have R9 := Lib.hid q4
            have L9 := Lib.hid q5
            have EX := Lib.hid (show polL c 2 (rest.take (k + 1)) = xs by rw [ht1, polL_more, HX.out, show isP c 2 (⟨2, (n : Int), y3, y4⟩ : Cd) = false by rw [hpl 2]; rfl]; rfl)
            have EY := Lib.hid (show polL c 3 (rest.take (k + 1)) = ys ++ [(n : Int)] by rw [ht1, polL_more, HY.out, show isP c 3 (⟨2, (n : Int), y3, y4⟩ : Cd) = true by rw [hpl 3]; rfl]; rfl)
            have EZ := Lib.hid (show polL c 1 (rest.take (k + 1)) = zs by rw [ht1, polL_more, HZ.out, show isP c 1 (⟨2, (n : Int), y3, y4⟩ : Cd) = false by rw [hpl 1]; rfl]; rfl)
            clear hK K k3 q4 q5 q6 at1 A8 R8 L8 t0 t1 t2 t3 ht1 hpl
            refine wpAnyH_done (by kernel_rfl) ?_ _
            go_wp2_with fail
            go_roundw
            case rel => exact ⟨k + 2, a', b', c', by omega, by go_num, K9.out, by rw [if_neg (Nat.succ_ne_zero _)]; exact R9.out, by rw [show k + 2 - 1 = k + 1 from rfl, EX.out, EY.out, EZ.out]; exact L9.out⟩
            case measure => simp [intOf]; omega
        · have hn2 : (y1 == 2) = false := beq_eq_false_iff_ne.2 hk2
          have hnp : ∀ p : Int, isP c p ⟨y1, y2, y3, y4⟩ = false := fun p => by unfold isP; rw [decide_eq_false (show ¬ (y1 = 2) from hk2)]; rfl
          have EX := Lib.hid (fun p : Int => show polL c p (rest.take (k + 1)) = polL c p (rest.take k) by rw [ht1, polL_more, hnp p]; rfl)
          have HX := Lib.hid hxd
          have HY := Lib.hid hyd
          have HZ := Lib.hid hzd
          clear hnp ht1 hk2 hfy hxd hyd hzd
          go_wp2_with fail
          go_roundw
          case rel => exact ⟨k + 2, va, vb, vc, by omega, by go_num, K7.out, by rw [if_neg (Nat.succ_ne_zero _)]; exact R7.out, by rw [show k + 2 - 1 = k + 1 from rfl, EX.out, EX.out, EX.out, HX.out, HY.out, HZ.out]; exact L7.out⟩
          case measure => simp [intOf]; omega
    · obtain rfl : m = rest.length + 1 := by omega
      rw [if_neg (Nat.succ_ne_zero _)] at HR6
      rw [Nat.add_sub_cancel, List.take_length] at HL
      have HR1 := Lib.hid (HK.out.row (b := W.heap.size + 1) (by omega) (by omega) R1b.out)
      obtain ⟨t0, t1, t2, t3, t4, t5, t6, f0, f1, f2, f3, f4, f5, f6, tz⟩ := row7 HR1.out
      obtain ⟨Aa, ca, rfl⟩ := ints_form HL.out.fa
      obtain ⟨Ab, cb, rfl⟩ := ints_form HL.out.fb
      obtain ⟨Ac, cc, rfl⟩ := ints_form HL.out.fc
      clear lx ly lz
      generalize hxd : polL c 2 rest = xs at *
      generalize hyd : polL c 3 rest = ys at *
      generalize hzd : polL c 1 rest = zs at *
      obtain ⟨x1, x2, x3, x4⟩ := x
      obtain ⟨s0, s1, s2, s3, s4, s5, s6, u0, u1, u2, u3, u4, u5, u6, sz⟩ := row7 HR6.out
      go_wp2_with fail
      generalize hU : ((((((wr.setCell ⟨W.heap.size + 1, 0, none⟩ (.int .i64 x1)).setCell ⟨W.heap.size + 1, 1, none⟩ (.int .i64 x2)).setCell ⟨W.heap.size + 1, 2, none⟩ (.int .i64 x3)).setCell ⟨W.heap.size + 1, 3, none⟩ (.string x4)).setCell ⟨W.heap.size + 1, 4, none⟩ (.slice Aa xs.length ca)).setCell ⟨W.heap.size + 1, 5, none⟩ (.slice Ab ys.length cb)).setCell ⟨W.heap.size + 1, 6, none⟩ (.slice Ac zs.length cc) = U at *
      obtain ⟨k0, k1, k2, k3, k4, k5, k6, HU⟩ := seven_set _ _ _ _ _ _ _ HR1.out HB.out (Nat.le_succ _) hU
      refine bodyPost_ret (v := .agg #[.int .i64 x1, .int .i64 x2, .int .i64 x3, .string x4, .slice Aa xs.length ca, .slice Ab ys.length cb, .slice Ac zs.length cc]) (by simp [results, Try.results11, go_sem, k0, k1, k2, k3, k4, k5, k6]) rfl ?_
      refine ⟨_, _, _, rfl, ?_, HU⟩
      have HL2 := HL.out
      rw [← hU]
      exact r3_sets HL2 (by omega) _ _ _ _ _ _ _
theorem p21rs_any (c : Cat) (v vl : Value) (l : List Cd) (x : Cd) (rest : List Cd) (W : World) (h : CatAt W v c) (hl : CsAt W vl l) (hok : Lok c l) (hs : srtR l = x :: rest) :
    Calls Try.prog 11 #[v, vl] W (RetRes W x (polL c 2 rest) (polL c 3 rest) (polL c 1 rest)) := by
  obtain ⟨⟨vs, vf, rfl, _, h2⟩, _, _, _⟩ := h
  obtain ⟨A2, c2, rfl, _, _, h2⟩ := h2
  exact p21rs_0 _ _ A2 c c2 vl l x rest W hok hs h2 (fun u hu => by
    have := p20so_any vl l u (by have := hok.le; omega) (hl.on hu)
    rwa [hs] at this)
/-! Free -/
set_option maxRecDepth 100000 in
theorem p21fr_any (free : Int) (vs vf : Value) (p : Cd) (A1 A2 A3 : Option Addr) (n1 n2 n3 c1 c2 c3 : Nat) (W : World) : Calls Try.prog 15 #[.agg #[.int .i64 free, vs, vf], rsq p (.slice A1 n1 c1) (.slice A2 n2 c2) (.slice A3 n3 c3)] W fun e w' => e = .returned (.bool (decide (free < p.r))) ∧ Below W.heap.size W w' := by
  go_enter Try.func15, Try.ntmps15
  go_wp2
  go_ret
  exact ⟨rfl, ((Below.refl _ _).alloc (Nat.le_refl _) _).alloc (by simp) _⟩
end Go.Proofs.Ytnofmlkjagdklaa
