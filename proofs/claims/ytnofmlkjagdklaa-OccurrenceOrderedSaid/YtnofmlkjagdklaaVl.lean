/- The reference's Displace (stage 21). -/
import Derived.Test.YtnofmlkjagdklaaVe
import Derived.Test.YtnofmlkjagdklaaVh
import Derived.Test.YtnofmlkjagdklaaVf
namespace Go.Proofs.Ytnofmlkjagdklaa
open Go.RowKit

theorem flo_appX (ty : TypeId) (B : Nat) (v xv : Value) (X L : List Int) (w : World) (hv : IntsAt B v X w) (hx : SlI xv L w) (hB : B ≤ w.heap.size) (hX : X.length ≤ 1000) (hl : L.length ≤ 1000) :
    ∃ v' w', (Builtin.append_ #[33, 33] ty #[v, xv]).run Try.prog w = .ok v' w' ∧ IntsAt B v' (X ++ L) w' ∧ w.grownBy w' v.ownBlock ∧ (v'.ownBlock = v.ownBlock ∨ v'.ownBlock = some w.heap.size) := by
  obtain ⟨i0, hi0, hz0, hz1, hz2⟩ := info_parts infoInt
  rcases hx with ⟨rfl, rfl⟩ | ⟨g, cap, rfl, hI⟩
  · exact ⟨v, w, run_append_owned_none w B 33 ty 3 i0 1 Try.underlying33 hi0 v X.length _ hv, by rw [List.append_nil]; exact hv, grown_of_below (Below.refl _ _) _, .inl rfl⟩
  · obtain ⟨v', w', hr, h2, h3, _, h5⟩ := run_append_own_at (P := Try.prog) w B 33 ty 3 i0 (.int .i64 0) 1 8 Try.underlying33 hi0 hz0 hz1 hz2 rfl (by decide) v X.length _ hv ⟨g, 0, none⟩ L.length cap (L.map (Value.int .i64)) (by rw [List.length_map, Nat.mul_one]) (fun j u hj => by
      rw [show (⟨g, 0, none⟩ : Addr).add j = ⟨g, j, none⟩ by unfold Addr.add; split <;> simp_all]
      have hjl : j < L.length := by have := (List.getElem?_eq_some_iff.1 hj).1; rwa [List.length_map] at this
      rw [List.getElem?_map, List.getElem?_eq_getElem hjl] at hj
      rw [hI.cell j hjl, List.getD_eq_getElem?_getD, List.getElem?_eq_getElem hjl]
      exact hj) (fun u hu => by obtain ⟨n, _, rfl⟩ := List.mem_map.1 hu; rfl) (by unfold maxLen; omega) (by omega) hB
    refine ⟨v', w', hr, ?_, h3, h5⟩
    unfold IntsAt
    rw [List.length_append, List.map_append]
    exact h2
/-- A list with one number ahead, made anew; the others stay. -/
theorem R3.new1 {B : Nat} {a b c : Value} {xs ys zs : List Int} {w : World} (h : R3 B a b c xs ys zs w) (hB : B ≤ w.heap.size) (k : Int) : R3 B (.slice (some ⟨w.heap.size, 0, none⟩) 1 1) b c [k] ys zs (w.alloc (.cells #[.int .i64 k] 3)) :=
  ⟨(IntsAt.made1 w k).lower hB, h.fb.al _, h.fc.al _, new_apart h.fb 1 1, new_apart h.fc 1 1, h.bc⟩
theorem wpList_app {w w' : World} {ops : Array Oper} {rest : List Oper} {o : Oper} {a : Act} {Q : Exit → Act → World → Prop} {v xv v' : Value} (hgd : o.guard = none) (s x : Operand)
    (ho : o.op = .call { callee := .builtin .append, args := #[s, x], argTypes := #[33, 33] }) (hv : a.eval s = v) (hx : a.eval x = xv)
    (hrun : (Builtin.append_ #[33, 33] o.type #[v, xv]).run Try.prog w = .ok v' w') (h : wpList Try.prog ops Q rest (a.put o.dst v') w') : wpList Try.prog ops Q (o :: rest) a w := by
  refine wpList_plain hgd fun K hK => ?_
  unfold Oper.wp execOp
  simp only [ho, resolve, invoke, builtin, Sem.run_bind, Sem.run_pure, Result.andThen_ok, List.map_toArray, List.map_cons, List.map_nil, hv, hx, hrun]
  exact hK _ _ h
theorem SlI_of {B : Nat} {v : Value} {xs : List Int} {w : World} (h : IntsAt B v xs w) : SlI v xs w := h.get
set_option maxHeartbeats 2000000 in
set_option maxRecDepth 100000 in
theorem r21di_0 (v0 v1 : Value) (A4 : Option Addr) (c : Cat) (c2 : Nat) (p : Cd) (x y z : Value) (xs ys zs : List Int) (W : World) (h1 : xs.length ≤ 40) (h2 : ys.length ≤ 40) (h3 : zs.length ≤ 40)
    (H2 : ∀ (i : Nat) (t : Itm), c.fs[i]? = some t → ∃ b o, A4 = some ⟨b, o, none⟩ ∧ b < W.heap.size ∧ ItmAt W b (o + i * 9) t)
    (hx : SlI x xs W) (hy : SlI y ys W) (hz : SlI z zs W) (hk : p.k = 1 ∨ p.k = 2) (hp : p.k = 2 → 0 ≤ p.i ∧ p.i < c.fs.length ∧ 1 ≤ polOf c p ∧ polOf c p ≤ 3) :
    Calls Try.prog 17 #[.agg #[v0, v1, .slice A4 c.fs.length c2], rsq p x y z] W (RetRes W zcd (dspC c p xs) (dspO c p ys) zs) := by
  have B0 := Lib.hid ((((Below.refl W.heap.size W).alloc (Nat.le_refl _) (.cells #[v0, v1, .slice A4 c.fs.length c2] 25)).alloc (by simp) (.cells #[.int .i64 p.k, .int .i64 p.i, .int .i64 p.r, .string p.id, x, y, z] 41)).alloc (by simp; omega) (.cells floZ 41))
  have Z3 : (((W.alloc (.cells #[v0, v1, .slice A4 c.fs.length c2] 25)).alloc (.cells #[.int .i64 p.k, .int .i64 p.i, .int .i64 p.r, .string p.id, x, y, z] 41)).alloc (.cells floZ 41)).heap.size = W.heap.size + 3 := by simp
  have RC := Lib.hid (row_al (row_al (heap_alloc_new W (.cells #[v0, v1, .slice A4 c.fs.length c2] 25)) (.cells #[.int .i64 p.k, .int .i64 p.i, .int .i64 p.r, .string p.id, x, y, z] 41)) (.cells floZ 41))
  have RP := Lib.hid (show (((W.alloc (.cells #[v0, v1, .slice A4 c.fs.length c2] 25)).alloc (.cells #[.int .i64 p.k, .int .i64 p.i, .int .i64 p.r, .string p.id, x, y, z] 41)).alloc (.cells floZ 41)).heap[W.heap.size + 1]? = some (.cells #[.int .i64 p.k, .int .i64 p.i, .int .i64 p.r, .string p.id, x, y, z] 41 (0, 0)) from by
    have := heap_alloc_new (W.alloc (.cells #[v0, v1, .slice A4 c.fs.length c2] 25)) (.cells #[.int .i64 p.k, .int .i64 p.i, .int .i64 p.r, .string p.id, x, y, z] 41)
    rw [World.size_alloc] at this
    exact row_al this _)
  have RR := Lib.hid (show (((W.alloc (.cells #[v0, v1, .slice A4 c.fs.length c2] 25)).alloc (.cells #[.int .i64 p.k, .int .i64 p.i, .int .i64 p.r, .string p.id, x, y, z] 41)).alloc (.cells floZ 41)).heap[W.heap.size + 2]? = some (.cells floZ 41 (0, 0)) from by
    have := heap_alloc_new ((W.alloc (.cells #[v0, v1, .slice A4 c.fs.length c2] 25)).alloc (.cells #[.int .i64 p.k, .int .i64 p.i, .int .i64 p.r, .string p.id, x, y, z] 41)) (.cells floZ 41)
    rw [World.size_alloc, World.size_alloc] at this
    exact this)
  have ZZ := Lib.hid Z3
  have Q2 := Lib.hid H2
  have HX := Lib.hid hx
  have HY := Lib.hid hy
  have HZ := Lib.hid hz
  have HP := Lib.hid hp
  clear H2 hx hy hz hp
  go_enter Try.func17, Try.ntmps17
  go_wp2_with fail
  clear Z3
  generalize hW3 : ((W.alloc (.cells #[v0, v1, .slice A4 c.fs.length c2] 25)).alloc (.cells #[.int .i64 p.k, .int .i64 p.i, .int .i64 p.r, .string p.id, x, y, z] 41)).alloc (.cells floZ 41) = W3 at *
  obtain ⟨q0, q1, q2, q3, q4, q5, q6, -⟩ := row7 RP.out
  refine disp_region _ _ _ _ _ _ x y z W3 (W.heap.size + 1) xs ys zs (by omega) (by have := ZZ.out; omega) q4 q5 q6 (fun u hu => HX.out.on (below_on B0.out hu)) (fun u hu => HY.out.on (below_on B0.out hu)) (fun u hu => HZ.out.on (below_on B0.out hu)) (fun _ a d _ _ h => by cases d <;> exact h) (fun x5 x7 x11 x15 x19 u1 u2 u3 kb w1 hb hr e1 e2 e3 => ?_)
  subst e1
  have B1 := Lib.hid (below_on B0.out hb)
  have RP1 := Lib.hid (row_on RP.out hb)
  have RC1 := Lib.hid (row_on RC.out hb)
  have RR1 := Lib.hid (row_on RR.out hb)
  have RK := Lib.hid e3
  have HR := Lib.hid hr
  have zb := hb.size
  have hkb : W.heap.size + 3 ≤ kb := by have := ZZ.out; omega
  clear hb hr e3 q0 q1 q2 q3 q4 q5 q6
  obtain ⟨q0, q1, q2, q3, q4, q5, q6, -⟩ := row7 RP1.out
  obtain ⟨r0, r1, r2, -, -, -, rz⟩ := row3 RC1.out
  rcases hk with hk | hk
  · have ec : dspC c p xs = xs := if_neg (fun q => by omega)
    have eo : dspO c p ys = ys := if_neg (fun q => by omega)
    have dk : (p.k == 2) = false := beq_eq_false_iff_ne.2 (by omega)
    obtain ⟨t0, t1, t2, t3, t4, t5, t6, f0, f1, f2, f3, f4, f5, f6, tz⟩ := row7 RK.out
    obtain ⟨s0, s1, s2, s3, s4, s5, s6, g0, g1, g2, g3, g4, g5, g6, sz⟩ := row7 RR1.out
    obtain ⟨Aa, ca, rfl⟩ := ints_form HR.out.fa
    obtain ⟨Ab, cb, rfl⟩ := ints_form HR.out.fb
    obtain ⟨Ac, cc, rfl⟩ := ints_form HR.out.fc
    go_wp2_with fail
    generalize hU : ((((((w1.setCell ⟨W.heap.size + 2, 0, none⟩ (.int .i64 0)).setCell ⟨W.heap.size + 2, 1, none⟩ (.int .i64 0)).setCell ⟨W.heap.size + 2, 2, none⟩ (.int .i64 0)).setCell ⟨W.heap.size + 2, 3, none⟩ (.string ⟨#[]⟩)).setCell ⟨W.heap.size + 2, 4, none⟩ (.slice Aa xs.length ca)).setCell ⟨W.heap.size + 2, 5, none⟩ (.slice Ab ys.length cb)).setCell ⟨W.heap.size + 2, 6, none⟩ (.slice Ac zs.length cc) = U at *
    obtain ⟨k0, k1, k2, k3, k4, k5, k6, HU⟩ := seven_set _ _ _ _ _ _ _ RR1.out B1.out (by omega) hU
    refine bodyPost_ret (v := .agg #[.int .i64 0, .int .i64 0, .int .i64 0, .string ⟨#[]⟩, .slice Aa xs.length ca, .slice Ab ys.length cb, .slice Ac zs.length cc]) (by simp [results, Try.results17, go_sem, k0, k1, k2, k3, k4, k5, k6]) rfl ?_
    refine ⟨_, _, _, rfl, ?_, HU⟩
    have HL2 := HR.out
    rw [← hU, ec, eo]
    exact r3_sets (b := W.heap.size + 2) (B' := W.heap.size) HL2 (by have := ZZ.out; omega) _ _ _ _ _ _ _
  · obtain ⟨p0, p1, p2, p3⟩ := HP.out hk
    obtain ⟨n, hn⟩ : ∃ n : Nat, p.i = n := ⟨p.i.toNat, by omega⟩
    have hnl : n < c.fs.length := by omega
    obtain ⟨t, htt⟩ : ∃ t, c.fs[n]? = some t := ⟨_, List.getElem?_eq_getElem hnl⟩
    have hpz : polOf c p = t.y := by unfold polOf; rw [hn, Int.toNat_natCast, List.getD_eq_getElem?_getD, htt]; rfl
    obtain ⟨b, o, rfl, hbl, hit⟩ := Q2.out n t htt
    have HI := Lib.hid (hit.on B1.out hbl)
    have dk : (p.k == 2) = true := beq_iff_eq.2 hk
    rw [hn] at q1
    have EC := Lib.hid (show dspC c p xs = if t.y = 3 then xs else (n : Int) :: xs by unfold dspC; rw [hpz, hn]; by_cases e : t.y = 3 <;> simp [e, hk])
    have EO := Lib.hid (show dspO c p ys = if t.y = 3 then (n : Int) :: ys else ys by unfold dspO; rw [hpz, hn]; by_cases e : t.y = 3 <;> simp [e, hk])
    clear hit htt hpz hn p0 p1 p2 p3
    obtain ⟨id, tx, ty, a1, a2, a3, a4, a5, a6⟩ := t
    obtain ⟨i0, i1, i2, -, -, -, -, -, -⟩ := HI.out.nine
    obtain ⟨t0, t1, t2, t3, t4, t5, t6, f0, f1, f2, f3, f4, f5, f6, tz⟩ := row7 RK.out
    have zw : W.heap.size + 3 ≤ w1.heap.size := by have := ZZ.out; omega
    have hkr : kb ≠ W.heap.size + 2 := by omega
    have hrk : W.heap.size + 2 ≠ kb := by omega
    by_cases h3' : ty = 3
    · have d3 : (ty == 3) = true := beq_iff_eq.2 h3'
      have EC' := Lib.hid (EC.out.trans (if_pos h3'))
      have EO' := Lib.hid (EO.out.trans (if_pos h3'))
      clear h3' EC EO
      have N3 := Lib.hid (HR.out.rot.new1 (by omega) (n : Int))
      obtain ⟨v', w2, hrun, hi2, hg2, ho2⟩ := flo_appX 33 W3.heap.size _ u2 [(n : Int)] ys (w1.alloc (.cells #[.int .i64 (n : Int)] 3)) N3.out.fa (SlI_of ((HR.out.rot.fa).al _)) (by simp; omega) (by simp) (by omega)
      have HR2 := Lib.hid ((N3.out.app hi2 hg2 ho2).rot.rot)
      have RK2 := Lib.hid (kb_grown N3.out.fa (row_al RK.out _) hg2)
      have RR2 := Lib.hid (kb_grown N3.out.fa (row_al RR1.out _) hg2)
      have B2 := Lib.hid (bl_grown (B1.out.alloc (by omega) (.cells #[.int .i64 (n : Int)] 3)) (N3.out.fa.lower (by have := ZZ.out; omega)) (by simp; omega) hg2)
      obtain ⟨v2A, v2c, rfl⟩ := ints_form hi2
      obtain ⟨Aa, ca, rfl⟩ := ints_form HR.out.fa
      obtain ⟨Ac, cc, rfl⟩ := ints_form HR.out.fc
      obtain ⟨tt0, tt1, tt2, tt3, tt4, tt5, tt6, ff0, ff1, ff2, ff3, ff4, ff5, ff6, ttz⟩ := row7 RK2.out
      obtain ⟨s0, s1, s2, s3, s4, s5, s6, g0, g1, g2, g3, g4, g5, g6, sz⟩ := row7 RR2.out
      clear hi2 hg2 ho2 N3
      go_wp2_with (first | (at_builtin; refine wpList_app rfl _ _ rfl rfl rfl hrun ?_) | fail)
      have RR3 := Lib.hid (show (w2.setCell ⟨kb, 5, none⟩ (.slice v2A (ys.length + 1) v2c)).heap[W.heap.size + 2]? = some (.cells floZ 41 (0, 0)) from (heap_setCell_other _ _ _ _ (by simp; omega)).trans RR2.out)
      have B3 := Lib.hid (B2.out.setCell (p := ⟨kb, 5, none⟩) (by simp; omega) (.slice v2A (ys.length + 1) v2c))
      generalize hV : w2.setCell ⟨kb, 5, none⟩ (.slice v2A (ys.length + 1) v2c) = V3 at *
      generalize hU : ((((((V3.setCell ⟨W.heap.size + 2, 0, none⟩ (.int .i64 0)).setCell ⟨W.heap.size + 2, 1, none⟩ (.int .i64 0)).setCell ⟨W.heap.size + 2, 2, none⟩ (.int .i64 0)).setCell ⟨W.heap.size + 2, 3, none⟩ (.string ⟨#[]⟩)).setCell ⟨W.heap.size + 2, 4, none⟩ (.slice Aa xs.length ca)).setCell ⟨W.heap.size + 2, 5, none⟩ (.slice v2A (ys.length + 1) v2c)).setCell ⟨W.heap.size + 2, 6, none⟩ (.slice Ac zs.length cc) = U at *
      obtain ⟨k0, k1, k2, k3, k4, k5, k6, HU⟩ := seven_set _ _ _ _ _ _ _ RR3.out B3.out (by omega) hU
      refine bodyPost_ret (v := .agg #[.int .i64 0, .int .i64 0, .int .i64 0, .string ⟨#[]⟩, (.slice Aa xs.length ca), (.slice v2A (ys.length + 1) v2c), (.slice Ac zs.length cc)]) (by simp [results, Try.results17, go_sem, k0, k1, k2, k3, k4, k5, k6]) rfl ?_
      refine ⟨_, _, _, rfl, ?_, HU⟩
      have nk : ∀ {u : Value} {us : List Int}, IntsAt W3.heap.size u us w2 → u.ownBlock ≠ some kb := fun {u us} hu e => by
        rcases hu.2 with ⟨rfl, _⟩ | ⟨g, cap, cur, rfl, _, hg', _⟩
        · cases e
        · obtain rfl : g = kb := by simpa [Value.ownBlock] using e
          rw [RK2.out] at hg'
          injection hg' with hg'
          injection hg' with _ hq
          exact absurd hq (by decide)
      have HL2 : R3 W3.heap.size (.slice Aa xs.length ca) (.slice v2A (ys.length + 1) v2c) (.slice Ac zs.length cc) xs ((n : Int) :: ys) zs V3 := by
        rw [← hV]
        exact ⟨setc_ints HR2.out.fa (nk HR2.out.fa) _, setc_ints HR2.out.fb (nk HR2.out.fb) _, setc_ints HR2.out.fc (nk HR2.out.fc) _, HR2.out.ab, HR2.out.ac, HR2.out.bc⟩
      rw [← hU, EC'.out, EO'.out]
      exact r3_sets (b := W.heap.size + 2) (B' := W.heap.size) HL2 (by have := ZZ.out; omega) _ _ _ _ _ _ _
    · have d3 : (ty == 3) = false := beq_eq_false_iff_ne.2 h3'
      have EC' := Lib.hid (EC.out.trans (if_neg h3'))
      have EO' := Lib.hid (EO.out.trans (if_neg h3'))
      clear h3' EC EO
      have N3 := Lib.hid (HR.out.new1 (by omega) (n : Int))
      obtain ⟨v', w2, hrun, hi2, hg2, ho2⟩ := flo_appX 33 W3.heap.size _ u1 [(n : Int)] xs (w1.alloc (.cells #[.int .i64 (n : Int)] 3)) N3.out.fa (SlI_of ((HR.out.fa).al _)) (by simp; omega) (by simp) (by omega)
      have HR2 := Lib.hid ((N3.out.app hi2 hg2 ho2))
      have RK2 := Lib.hid (kb_grown N3.out.fa (row_al RK.out _) hg2)
      have RR2 := Lib.hid (kb_grown N3.out.fa (row_al RR1.out _) hg2)
      have B2 := Lib.hid (bl_grown (B1.out.alloc (by omega) (.cells #[.int .i64 (n : Int)] 3)) (N3.out.fa.lower (by have := ZZ.out; omega)) (by simp; omega) hg2)
      obtain ⟨v2A, v2c, rfl⟩ := ints_form hi2
      obtain ⟨Ab, cb, rfl⟩ := ints_form HR.out.fb
      obtain ⟨Ac, cc, rfl⟩ := ints_form HR.out.fc
      obtain ⟨tt0, tt1, tt2, tt3, tt4, tt5, tt6, ff0, ff1, ff2, ff3, ff4, ff5, ff6, ttz⟩ := row7 RK2.out
      obtain ⟨s0, s1, s2, s3, s4, s5, s6, g0, g1, g2, g3, g4, g5, g6, sz⟩ := row7 RR2.out
      clear hi2 hg2 ho2 N3
      go_wp2_with (first | (at_builtin; refine wpList_app rfl _ _ rfl rfl rfl hrun ?_) | fail)
      have RR3 := Lib.hid (show (w2.setCell ⟨kb, 4, none⟩ (.slice v2A (xs.length + 1) v2c)).heap[W.heap.size + 2]? = some (.cells floZ 41 (0, 0)) from (heap_setCell_other _ _ _ _ (by simp; omega)).trans RR2.out)
      have B3 := Lib.hid (B2.out.setCell (p := ⟨kb, 4, none⟩) (by simp; omega) (.slice v2A (xs.length + 1) v2c))
      generalize hV : w2.setCell ⟨kb, 4, none⟩ (.slice v2A (xs.length + 1) v2c) = V3 at *
      generalize hU : ((((((V3.setCell ⟨W.heap.size + 2, 0, none⟩ (.int .i64 0)).setCell ⟨W.heap.size + 2, 1, none⟩ (.int .i64 0)).setCell ⟨W.heap.size + 2, 2, none⟩ (.int .i64 0)).setCell ⟨W.heap.size + 2, 3, none⟩ (.string ⟨#[]⟩)).setCell ⟨W.heap.size + 2, 4, none⟩ (.slice v2A (xs.length + 1) v2c)).setCell ⟨W.heap.size + 2, 5, none⟩ (.slice Ab ys.length cb)).setCell ⟨W.heap.size + 2, 6, none⟩ (.slice Ac zs.length cc) = U at *
      obtain ⟨k0, k1, k2, k3, k4, k5, k6, HU⟩ := seven_set _ _ _ _ _ _ _ RR3.out B3.out (by omega) hU
      refine bodyPost_ret (v := .agg #[.int .i64 0, .int .i64 0, .int .i64 0, .string ⟨#[]⟩, (.slice v2A (xs.length + 1) v2c), (.slice Ab ys.length cb), (.slice Ac zs.length cc)]) (by simp [results, Try.results17, go_sem, k0, k1, k2, k3, k4, k5, k6]) rfl ?_
      refine ⟨_, _, _, rfl, ?_, HU⟩
      have nk : ∀ {u : Value} {us : List Int}, IntsAt W3.heap.size u us w2 → u.ownBlock ≠ some kb := fun {u us} hu e => by
        rcases hu.2 with ⟨rfl, _⟩ | ⟨g, cap, cur, rfl, _, hg', _⟩
        · cases e
        · obtain rfl : g = kb := by simpa [Value.ownBlock] using e
          rw [RK2.out] at hg'
          injection hg' with hg'
          injection hg' with _ hq
          exact absurd hq (by decide)
      have HL2 : R3 W3.heap.size (.slice v2A (xs.length + 1) v2c) (.slice Ab ys.length cb) (.slice Ac zs.length cc) ((n : Int) :: xs) ys zs V3 := by
        rw [← hV]
        exact ⟨setc_ints HR2.out.fa (nk HR2.out.fa) _, setc_ints HR2.out.fb (nk HR2.out.fb) _, setc_ints HR2.out.fc (nk HR2.out.fc) _, HR2.out.ab, HR2.out.ac, HR2.out.bc⟩
      rw [← hU, EC'.out, EO'.out]
      exact r3_sets (b := W.heap.size + 2) (B' := W.heap.size) HL2 (by have := ZZ.out; omega) _ _ _ _ _ _ _
theorem r21di_any (c : Cat) (v : Value) (p : Cd) (x y z : Value) (xs ys zs : List Int) (u : World) (h : CatAt u v c) (hx : SlI x xs u) (hy : SlI y ys u) (hz : SlI z zs u) (h1 : xs.length ≤ 40) (h2 : ys.length ≤ 40) (h3 : zs.length ≤ 40) (hk : p.k = 1 ∨ p.k = 2)
    (hp : p.k = 2 → 0 ≤ p.i ∧ p.i < c.fs.length ∧ 1 ≤ polOf c p ∧ polOf c p ≤ 3) : Calls Try.prog 17 #[v, rsq p x y z] u (RetRes u zcd (dspC c p xs) (dspO c p ys) zs) := by
  obtain ⟨⟨vs, vf, rfl, _, g2⟩, _, _, _⟩ := h
  obtain ⟨A4, c2, rfl, _, _, g2⟩ := g2
  exact r21di_0 _ _ A4 c c2 p x y z xs ys zs u h1 h2 h3 g2 hx hy hz hk hp
end Go.Proofs.Ytnofmlkjagdklaa
