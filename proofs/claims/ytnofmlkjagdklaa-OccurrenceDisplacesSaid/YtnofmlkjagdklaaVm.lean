/- The law OccurrenceMatchesReference of stage 21, given OP: same; a list turned; the law. -/
import Derived.Test.YtnofmlkjagdklaaVl
import Derived.Test.YtnofmlkjagdklaaVi
import Derived.Test.YtnofmlkjagdklaaVj
import Derived.Deep.RegionHeld3
namespace Go.Proofs.Ytnofmlkjagdklaa
open Go.RowKit

theorem eq_cr (c : Cd) (u : World) : (binOp .eql 39 (.agg #[.int .i64 c.k, .int .i64 c.i, .int .i64 c.r, .string c.id]) (.agg #[.int .i64 c.k, .int .i64 c.i, .int .i64 c.r, .string c.id])).run Try.prog u = .ok (.bool true) u := by simp [go_sem]
set_option maxRecDepth 100000 in
theorem sam21_any {A B : Nat} (p : Cd) (a b d a' b' d' : Value) (xs ys zs : List Int) (W : World) (ha : IntsAt A a xs W) (hb : IntsAt A b ys W) (hd : IntsAt A d zs W) (ha' : IntsAt B a' xs W) (hb' : IntsAt B b' ys W) (hd' : IntsAt B d' zs W) :
    Calls Try.prog 14 #[rsq p a b d, rsq p a' b' d'] W fun e w' => e = .returned (.bool true) ∧ Below W.heap.size W w' := by
  obtain ⟨p0, p1, p2, p3⟩ := p
  have HE := eq_cr ⟨p0, p1, p2, p3⟩
  dsimp only at HE
  have B0 := Lib.hid ((((Below.refl W.heap.size W).alloc (Nat.le_refl _) (.cells #[.int .i64 p0, .int .i64 p1, .int .i64 p2, .string p3, a, b, d] 35)).alloc (by simp) (.cells #[.int .i64 p0, .int .i64 p1, .int .i64 p2, .string p3, a', b', d'] 41)).alloc (by simp; omega) (.cells #[.int .i64 p0, .int .i64 p1, .int .i64 p2, .string p3] 39))
  have R1 := Lib.hid (row_al (row_al (heap_alloc_new W (.cells #[.int .i64 p0, .int .i64 p1, .int .i64 p2, .string p3, a, b, d] 35)) (.cells #[.int .i64 p0, .int .i64 p1, .int .i64 p2, .string p3, a', b', d'] 41)) (.cells #[.int .i64 p0, .int .i64 p1, .int .i64 p2, .string p3] 39))
  have R2 := Lib.hid (show (((W.alloc (.cells #[.int .i64 p0, .int .i64 p1, .int .i64 p2, .string p3, a, b, d] 35)).alloc (.cells #[.int .i64 p0, .int .i64 p1, .int .i64 p2, .string p3, a', b', d'] 41)).alloc (.cells #[.int .i64 p0, .int .i64 p1, .int .i64 p2, .string p3] 39)).heap[W.heap.size + 1]? = some (.cells #[.int .i64 p0, .int .i64 p1, .int .i64 p2, .string p3, a', b', d'] 41 (0, 0)) from by
    have := heap_alloc_new (W.alloc (.cells #[.int .i64 p0, .int .i64 p1, .int .i64 p2, .string p3, a, b, d] 35)) (.cells #[.int .i64 p0, .int .i64 p1, .int .i64 p2, .string p3, a', b', d'] 41)
    rw [World.size_alloc] at this
    exact row_al this _)
  have HA := Lib.hid ha
  have HB := Lib.hid hb
  have HD := Lib.hid hd
  have HA' := Lib.hid ha'
  have HB' := Lib.hid hb'
  have HD' := Lib.hid hd'
  clear ha hb hd ha' hb' hd'
  obtain ⟨t0, t1, t2, t3, t4, t5, t6, -⟩ := row7 (heap_alloc_new W (.cells #[.int .i64 p0, .int .i64 p1, .int .i64 p2, .string p3, a, b, d] 35))
  go_enter Try.func14, Try.ntmps14
  go_wp2_with fail
  generalize hX : ((W.alloc (.cells #[.int .i64 p0, .int .i64 p1, .int .i64 p2, .string p3, a, b, d] 35)).alloc (.cells #[.int .i64 p0, .int .i64 p1, .int .i64 p2, .string p3, a', b', d'] 41)).alloc (.cells #[.int .i64 p0, .int .i64 p1, .int .i64 p2, .string p3] 39) = X at *
  clear t0 t1 t2 t3 t4 t5 t6
  refine (nums_yes a a' xs X (HA.out.on B0.out) (HA'.out.on B0.out)).mono ?_
  rintro e w1 ⟨rfl, hb1⟩
  have B1 := Lib.hid (below_on B0.out hb1)
  obtain ⟨t0, t1, t2, t3, t4, t5, t6, -⟩ := row7 (row_on R1.out hb1)
  obtain ⟨s0, s1, s2, s3, s4, s5, s6, -⟩ := row7 (row_on R2.out hb1)
  have Q1 := Lib.hid (row_on R1.out hb1)
  have Q2 := Lib.hid (row_on R2.out hb1)
  clear hb1
  go_wp2_with fail
  refine (nums_yes b b' ys w1 (HB.out.on B1.out) (HB'.out.on B1.out)).mono ?_
  rintro e w2 ⟨rfl, hb2⟩
  have B2 := Lib.hid (below_on B1.out hb2)
  clear t0 t1 t2 t3 t4 t5 t6 s0 s1 s2 s3 s4 s5 s6
  obtain ⟨t0, t1, t2, t3, t4, t5, t6, -⟩ := row7 (row_on Q1.out hb2)
  obtain ⟨s0, s1, s2, s3, s4, s5, s6, -⟩ := row7 (row_on Q2.out hb2)
  clear hb2
  go_wp2_with fail
  refine (nums_yes d d' zs w2 (HD.out.on B2.out) (HD'.out.on B2.out)).mono ?_
  rintro e w3 ⟨rfl, hb3⟩
  have B3 := Lib.hid (below_on B2.out hb3)
  clear hb3
  go_wp2_with fail
  go_ret
  exact ⟨rfl, B3.out⟩
/-! a list turned -/
theorem wp_app {P : Program} {o : Oper} {a : Act} {K : Act → World → Prop} {Q : Exit → Act → World → Prop} {w w' : World} {v xv v' : Value} {t : TypeId} (s x : Operand) (ho : o.op = .call { callee := .builtin .append, args := #[s, x], argTypes := #[t, t] }) (hv : a.eval s = v) (hx : a.eval x = xv)
    (hrun : (Builtin.append_ #[t, t] o.type #[v, xv]).run P w = .ok v' w') (h : K (a.put o.dst v') w') : o.wp P a w K Q := by
  unfold Oper.wp execOp
  simp only [ho, resolve, invoke, builtin, Sem.run_bind, Sem.run_pure, Result.andThen_ok, List.map_toArray, List.map_cons, List.map_nil, hv, hx, hrun]
  exact h
theorem cdsr_app (ty : TypeId) (B : Nat) (v : Value) (X L : List Cd) (b p c : Nat) (w : World) (hv : CdsAt 39 B v X w) (hc : ∀ j u, (flat4 L)[j]? = some u → w.cell? ((⟨b, p, none⟩ : Addr).add j) = some u) (hB : B ≤ w.heap.size) (hX : X.length ≤ 1000) (hL : L.length ≤ 1000) :
    ∃ v' w', (Builtin.append_ #[29, 29] ty #[v, .slice (some ⟨b, p, none⟩) L.length c]).run Try.prog w = .ok v' w' ∧ CdsAt 39 B v' (X ++ L) w' ∧ w.grownBy w' v.ownBlock := by
  obtain ⟨i0, hi0, hz0, hz1, hz2⟩ := info_parts infoCr
  obtain ⟨v', w', hr, h2, h3, _, _⟩ := run_append_own_at (P := Try.prog) w B 29 ty 39 i0 _ 4 40 Try.underlying29 hi0 hz0 hz1 hz2 rfl (by decide) v X.length _ hv ⟨b, p, none⟩ L.length c (flat4 L) (flat4_len L) hc (fun u hu => flat4_one L u hu) (by unfold maxLen; omega) (by omega) hB
  refine ⟨v', w', hr, ?_, h3⟩
  rw [CdsAt, List.length_append, flat4_app]
  exact h2
theorem flat4_drop (l : List Cd) (k j : Nat) (u : Value) (hk : k ≤ l.length) (h : (flat4 (l.drop k))[j]? = some u) : (flat4 l)[k * 4 + j]? = some u := by
  have e : flat4 l = flat4 (l.take k) ++ flat4 (l.drop k) := by rw [← flat4_app, List.take_append_drop]
  have e2 : (flat4 (l.take k)).length = k * 4 := by rw [flat4_len, List.length_take]; omega
  rw [e, List.getElem?_append_right (by omega), e2, show k * 4 + j - k * 4 = j by omega]
  exact h
theorem flat4_take (l : List Cd) (k j : Nat) (u : Value) (h : (flat4 (l.take k))[j]? = some u) : (flat4 l)[j]? = some u := by
  have e : flat4 l = flat4 (l.take k) ++ flat4 (l.drop k) := by rw [← flat4_app, List.take_append_drop]
  rw [e, List.getElem?_append_left (List.getElem?_eq_some_iff.1 h).1]
  exact h
theorem CdsAt.made0 (w : World) (t B : Nat) (hB : B ≤ w.heap.size) : CdsAt t B (.slice (some ⟨w.heap.size, 0, none⟩) 0 0) [] (w.alloc (.cells #[] t)) :=
  ⟨by simp [flat4], .inr ⟨w.heap.size, 0, #[], rfl, hB, heap_alloc_new w _, Nat.le_refl _, Nat.zero_le _, rfl, rfl⟩⟩
theorem cds_form {t B : Nat} {v : Value} {l : List Cd} {w : World} (h : CdsAt t B v l w) (hl : 0 < l.length) : ∃ g cap, v = .slice (some ⟨g, 0, none⟩) l.length cap ∧ l.length ≤ cap ∧ cap ≤ maxLen := by
  rcases h.2 with ⟨_, hn⟩ | ⟨g, cap, cur, e, _, _, hc, hm, _⟩
  · omega
  · exact ⟨g, cap, e, hc, hm⟩
set_option maxHeartbeats 4000000 in
set_option maxRecDepth 100000 in
theorem l21m_main (c : Cat) (vs vf : Value) (y day : Int) (W : World) (l : List Cd) (x : Cd) (xs ys zs : List Int) (a kk : Nat) (hl0 : 0 < l.length) (hll : l.length ≤ 1000) (ha : a ≤ 255) (hkj : kk < l.length) (hmod : (a : Int).tmod (l.length : Int) = (kk : Int))
    (QW : Hid (∀ u, Calls Try.prog 7 #[] u fun e w' => e = .returned (.bool true) ∧ Below u.heap.size u w'))
    (QR17 : Hid (∀ u, Below W.heap.size W u → Calls Try.prog 8 #[(.agg #[.int .i64 c.free, vs, vf])] u fun e w' => e = .returned (.bool true) ∧ Below u.heap.size u w'))
    (QF : Hid (∀ u, Below W.heap.size W u → Calls Try.prog 9 #[(.agg #[.int .i64 c.free, vs, vf]), .int .i64 y, .int .i64 day] u fun e w' => e = .returned (.int .i64 0) ∧ Below u.heap.size u w'))
    (QO' : Hid (∀ u, Below W.heap.size W u → Calls Try.prog 10 #[(.agg #[.int .i64 c.free, vs, vf]), .int .i64 y, .int .i64 day] u (RetCs 39 u l)))
    (QR' : Hid (∀ u v, Below W.heap.size W u → CsAt u v (l.drop kk ++ l.take kk) → Calls Try.prog 11 #[(.agg #[.int .i64 c.free, vs, vf]), v] u fun e w' => ∃ a1 a2 a3, e = .returned (.agg (occRow x a1 a2 a3)) ∧ R3 u.heap.size a1 a2 a3 xs ys zs w' ∧ Below u.heap.size u w'))
    (QS' : Hid (∀ u v, Below W.heap.size W u → CsAt u v l → Calls Try.prog 13 #[(.agg #[.int .i64 c.free, vs, vf]), v] u (RetRes u x xs ys zs)))
    (QE' : Hid (∀ u (B1 B2 B3 : Option Addr) (n1 n2 n3 e1 e2 e3 : Nat), Below W.heap.size W u → Calls Try.prog 15 #[(.agg #[.int .i64 c.free, vs, vf]), rsq x (.slice B1 n1 e1) (.slice B2 n2 e2) (.slice B3 n3 e3)] u fun e w' => e = .returned (.bool (decide (c.free < x.r))) ∧ Below u.heap.size u w'))
    (QD' : Hid (∀ u a1 a2 a3, Below W.heap.size W u → SlI a1 xs u → SlI a2 ys u → SlI a3 zs u → Calls Try.prog 16 #[(.agg #[.int .i64 c.free, vs, vf]), rsq x a1 a2 a3] u (RetRes u zcd (dspC c x xs) (dspO c x ys) zs)))
    (QG' : Hid (∀ u a1 a2 a3, Below W.heap.size W u → SlI a1 xs u → SlI a2 ys u → SlI a3 zs u → Calls Try.prog 17 #[(.agg #[.int .i64 c.free, vs, vf]), rsq x a1 a2 a3] u (RetRes u zcd (dspC c x xs) (dspO c x ys) zs))) :
    Calls Try.prog 3 #[(.agg #[.int .i64 c.free, vs, vf]), .int .i64 y, .int .i64 day, .int .u8 (a : Int)] W fun e w' => e = .returned (.bool true) ∧ Below W.heap.size W w' := by
  have B0 := Lib.hid ((Below.refl W.heap.size W).alloc (Nat.le_refl _) (.cells #[.int .i64 c.free, vs, vf] 25))
  have R0 := Lib.hid (heap_alloc_new W (.cells #[.int .i64 c.free, vs, vf] 25))
  have ZW : (W.alloc (.cells #[.int .i64 c.free, vs, vf] 25)).heap.size = W.heap.size + 1 := by simp
  go_enter Try.func3, Try.ntmps3
  go_wp2_with fail
  generalize hW1 : W.alloc (.cells #[.int .i64 c.free, vs, vf] 25) = W1 at *
  refine (QW.out _).mono ?_
  rintro e w1 ⟨rfl, hb1⟩
  have B1 := Lib.hid hb1
  clear hb1
  obtain ⟨y0, y1, y2, -, -, -, yz⟩ := row3 (row_on R0.out B1.out)
  go_wp2_with fail
  refine (QR17.out _ (below_on B0.out B1.out)).mono ?_
  rintro e w2 ⟨rfl, hb2⟩
  have B2 := Lib.hid (below_on B1.out hb2)
  clear hb2 y0 y1 y2 yz
  obtain ⟨y0, y1, y2, -, -, -, yz⟩ := row3 (row_on R0.out B2.out)
  go_wp2_with fail
  refine (QF.out _ (below_on B0.out B2.out)).mono ?_
  rintro e w3 ⟨rfl, hb3⟩
  have B3 := Lib.hid (below_on B2.out hb3)
  clear hb3 y0 y1 y2 yz
  obtain ⟨y0, y1, y2, -, -, -, yz⟩ := row3 (row_on R0.out B3.out)
  have hWW : W.heap.size < W1.heap.size := by omega
  go_wp2_with fail
  refine (QO'.out _ (below_on B0.out B3.out)).mono ?_
  rintro e w4 ⟨vl, rfl, hv4, hb4⟩
  have B4 := Lib.hid (below_on B3.out hb4)
  obtain ⟨lb, lc, rfl, hlc, hlm⟩ := cds_form hv4 hl0
  have V4 := Lib.hid hv4
  have HC := Lib.hid (fun u (hu : Below w4.heap.size w4 u) j v (hj : (flat4 l)[j]? = some v) => World.ownsRow.cells (hv4.on hu) (g := lb) rfl j v hj)
  unfold maxLen at hlm
  clear hb4 hv4 y0 y1 y2 yz
  obtain ⟨y0, y1, y2, -, -, -, yz⟩ := row3 (row_on R0.out B4.out)
  have hk : W.heap.size < w4.heap.size := Nat.lt_of_lt_of_le hWW B4.out.size
  have hnz : ((l.length : Int) == 0) = false := beq_eq_false_iff_ne.2 (by omega)
  have hkl : kk ≤ l.length := Nat.le_of_lt hkj
  have hkc : kk ≤ lc := by omega
  have hkn : ¬ lc = kk := by omega
  go_wp2_with fail
  refine wp_region_held_drew (S := fun u => Below w4.heap.size w4 u) (by kernel_rfl) ((Below.refl _ _).drew) (fun hHeld => ?_)
  refine wpAnyH_take (i := 1) (oi := { dst := some 39, op := _, type := _, pos := _, after := _, guard := _ }) (v := ?v1_1) rfl (by kernel_rfl) (by kernel_rfl) (by kernel_rfl) (fun _ _ _ h => h) (Or.inl ⟨by rfl, ?hy1_1⟩) hHeld ?_
  case hy1_1 => (intro w hSw; (try dsimp only at hSw); go_simp; try with_reducible rfl)
  simp only [Act.put, List.setIfInBounds_toArray, List.set_cons_zero, List.set_cons_succ]
  refine wpAnyH_take (i := 2) (oi := { dst := some 40, op := _, type := _, pos := _, after := _, guard := _ }) (v := ?v1_2) rfl (by kernel_rfl) (by kernel_rfl) (by kernel_rfl) (fun _ _ _ h => h) (Or.inl ⟨by rfl, ?hy1_2⟩) hHeld ?_
  case hy1_2 => (intro w hSw; (try dsimp only at hSw); go_simp; try with_reducible rfl)
  simp only [Act.put, List.setIfInBounds_toArray, List.set_cons_zero, List.set_cons_succ]
  refine wpAnyH_take (i := 3) (oi := { dst := some 41, op := _, type := _, pos := _, after := _, guard := _ }) (v := ?v1_3) rfl (by kernel_rfl) (by kernel_rfl) (by kernel_rfl) (fun _ _ _ h => h) (Or.inl ⟨by rfl, ?hy1_3⟩) hHeld ?_
  case hy1_3 => (intro w hSw; (try dsimp only at hSw); go_simp; try with_reducible rfl)
  simp only [Act.put, List.setIfInBounds_toArray, List.set_cons_zero, List.set_cons_succ]
  refine wpAnyH_take (i := 5) (oi := { dst := some 43, op := _, type := _, pos := _, after := _, guard := _ }) (v := ?v1_5) rfl (by kernel_rfl) (by kernel_rfl) (by kernel_rfl) (fun _ _ _ h => h) (Or.inl ⟨by rfl, ?hy1_5⟩) hHeld ?_
  case hy1_5 => (intro w hSw; (try dsimp only at hSw); go_simp; try with_reducible rfl)
  simp only [Act.put, List.setIfInBounds_toArray, List.set_cons_zero, List.set_cons_succ]
  refine wpAnyH_take (i := 6) (oi := { dst := some 44, op := _, type := _, pos := _, after := _, guard := _ }) (v := ?v1_6) rfl (by kernel_rfl) (by kernel_rfl) (by kernel_rfl) (fun _ _ _ h => h) (Or.inl ⟨by rfl, ?hy1_6⟩) hHeld ?_
  case hy1_6 => (intro w hSw; (try dsimp only at hSw); go_simp; try with_reducible rfl)
  simp only [Act.put, List.setIfInBounds_toArray, List.set_cons_zero, List.set_cons_succ]
  refine wpAnyH_take (i := 7) (oi := { dst := some 45, op := _, type := _, pos := _, after := _, guard := _ }) (v := ?v1_7) rfl (by kernel_rfl) (by kernel_rfl) (by kernel_rfl) (fun _ _ _ h => h) (Or.inl ⟨by rfl, ?hy1_7⟩) hHeld ?_
  case hy1_7 => (intro w hSw; (try dsimp only at hSw); go_simp; try with_reducible rfl)
  simp only [Act.put, List.setIfInBounds_toArray, List.set_cons_zero, List.set_cons_succ]
  refine wpAnyH_ready (rs := [0]) (by kernel_rfl) (by simp) ?_
  refine AllReadyH.cons (o := { dst := some 38, op := _, type := _, pos := _, after := _, guard := _ }) rfl (fun K hK => ?_) AllReadyH.nil
  go_simp
  have hs5 : Below w4.heap.size w4 (w4.drew.alloc (.cells #[] 39)) := hHeld.alloc (Nat.le_refl _) _
  refine hK.out _ _ hs5 (fun hHeld => ?_)
  clear hK K
  refine wpAnyH_ready (rs := [4]) (by kernel_rfl) (by simp) ?_
  refine AllReadyH.cons (o := { dst := some 42, op := _, type := _, pos := _, after := _, guard := _ }) rfl (fun K hK => ?_) AllReadyH.nil
  skip
  obtain ⟨v5, w5, hrun5, hc5, hg5⟩ := cdsr_app 29 w4.heap.size _ [] (l.drop kk) lb (kk * 4) (lc - kk) (w4.drew.alloc (.cells #[] 39)) (CdsAt.made0 w4.drew _ _ (Nat.le_refl _)) (fun j u hj => by have := (HC.out _ hs5 _ _ (flat4_drop l kk j u hkl hj)); rw [add_none] at this ⊢; rwa [Nat.zero_add] at this) (by simp) (by simp) (by rw [List.length_drop]; omega)
  rw [List.nil_append] at hc5
  rw [List.length_drop] at hrun5
  have hs6 : Below w4.heap.size w4 w5 := hs5.grown hg5 (by simp) (fun j e => by simp [Value.ownBlock] at e; omega)
  refine wp_app _ _ (by rfl) (by rfl) (by rfl) hrun5 ?_
  refine hK.out _ _ hs6 (fun hHeld => ?_)
  clear hK K
  refine wpAnyH_ready (rs := [8]) (by kernel_rfl) (by simp) ?_
  refine AllReadyH.cons (o := { dst := some 46, op := _, type := _, pos := _, after := _, guard := _ }) rfl (fun K hK => ?_) AllReadyH.nil
  skip
  obtain ⟨v6, w6, hrun6, hc6, hg6⟩ := cdsr_app 29 w4.heap.size v5 (l.drop kk) (l.take kk) lb 0 lc w5 hc5 (fun j u hj => HC.out _ hs6 _ _ (flat4_take l kk j u hj)) hs6.size (by rw [List.length_drop]; omega) (by rw [List.length_take]; omega)
  rw [List.length_take, Nat.min_eq_left hkl] at hrun6
  have hs7 : Below w4.heap.size w4 w6 := hs6.grown hg6 hs6.size (fun j e => (World.ownsRow.lt hc5 j e).1)
  refine wp_app _ _ (by rfl) (by rfl) (by rfl) hrun6 ?_
  refine hK.out _ _ hs7 (fun hHeld => ?_)
  clear hK K
  refine wpAnyH_take (i := 9) (oi := { dst := some 11, op := _, type := _, pos := _, after := _, guard := _ }) (v := ?v1_9) rfl (by kernel_rfl) (by kernel_rfl) (by kernel_rfl) (fun _ _ _ h => h) (Or.inl ⟨by rfl, ?hy1_9⟩) hHeld ?_
  case hy1_9 => (intro w hSw; (try dsimp only at hSw); go_simp; try with_reducible rfl)
  simp only [Act.put, List.setIfInBounds_toArray, List.set_cons_zero, List.set_cons_succ]
  refine wpAnyH_done (by kernel_rfl) ?_ _
  have B6 := Lib.hid (below_on B4.out hs7)
  have V6 := Lib.hid hc6.cs
  have V46 := Lib.hid (V4.out.cs.on hs7)
  clear hs5 hs6 hs7 hHeld hrun5 hrun6 hc5 hc6 hg5 hg6 y0 y1 y2 yz
  obtain ⟨y0, y1, y2, -, -, -, yz⟩ := row3 (row_on R0.out B6.out)
  have hk6 : W.heap.size < w6.heap.size := Nat.lt_of_lt_of_le hWW B6.out.size
  have QR6 := Lib.hid (fun u v (hu : Below w6.heap.size w6 u) hv => QR'.out u v (below_on B0.out (below_on B6.out hu)) hv)
  go_wp2_with fail
  refine mat_region _ c vs vf y day W.heap.size v6 _ _ _ _ _ _ _ _ _ _ _ _ _ _ _ _ _ _ _ _ _ _ _ _ _ _ _ _ _ _ _ _ _ _ _ _ _ _ _ _ _ _ w6 (l.drop kk ++ l.take kk) (by rw [List.length_append, List.length_drop, List.length_take]; omega) x _ _ _ QR6 (fun _ a d _ _ h => by cases d <;> exact h) hk6 y0 y1 y2 V6.out (fun x7 x28 x29 a1 a2 a3 kb w7 hb hr e1 e2 e3 => ?_) _
  subst e1
  have B7 := Lib.hid (below_on B6.out hb)
  have RS := Lib.hid e3
  have HR7 := Lib.hid hr
  have V47 := Lib.hid (V46.out.on hb)
  obtain ⟨Aq1, c1, rfl⟩ := ints_form hr.fa
  obtain ⟨Aq2, c2, rfl⟩ := ints_form hr.fb
  obtain ⟨Aq3, c3, rfl⟩ := ints_form hr.fc
  clear hb hr e3 y0 y1 y2 yz QR6
  obtain ⟨y0, y1, y2, -, -, -, yz⟩ := row3 (row_on R0.out B7.out)
  go_wp2_with fail
  refine (QS'.out _ _ (below_on B0.out B7.out) V47.out).mono ?_
  rintro e w8 ⟨b1, b2, b3, rfl, hr8, hb8⟩
  have B8 := Lib.hid (below_on B7.out hb8)
  have RS8 := Lib.hid (row_on RS.out hb8)
  have HR78 := Lib.hid (HR7.out.on hb8)
  have HR8 := Lib.hid hr8
  obtain ⟨Bq1, e1, rfl⟩ := ints_form hr8.fa
  obtain ⟨Bq2, e4, rfl⟩ := ints_form hr8.fb
  obtain ⟨Bq3, e3, rfl⟩ := ints_form hr8.fc
  have X0 := Lib.hid ((Below.refl w8.heap.size w8).alloc (Nat.le_refl _) (.cells #[.int .i64 x.k, .int .i64 x.i, .int .i64 x.r, .string x.id, .slice Bq1 xs.length e1, .slice Bq2 ys.length e4, .slice Bq3 zs.length e3] 41))
  have XSo := Lib.hid (heap_alloc_new w8 (.cells #[.int .i64 x.k, .int .i64 x.i, .int .i64 x.r, .string x.id, .slice Bq1 xs.length e1, .slice Bq2 ys.length e4, .slice Bq3 zs.length e3] 41))
  clear hr8 hb8 y0 y1 y2 yz
  go_wp2_with fail
  generalize hX : w8.alloc (.cells #[.int .i64 x.k, .int .i64 x.i, .int .i64 x.r, .string x.id, .slice Bq1 xs.length e1, .slice Bq2 ys.length e4, .slice Bq3 zs.length e3] 41) = X at *
  have XR := Lib.hid (row_on RS8.out X0.out)
  have XK := Lib.hid (row_on (row_on R0.out B8.out) X0.out)
  have BXW := Lib.hid (below_on B0.out (below_on B8.out X0.out))
  have TA := Lib.hid (HR78.out.on X0.out)
  have TB := Lib.hid (HR8.out.on X0.out)
  have CE : Hid (∀ u, Below X.heap.size X u → (Below X.heap.size X u ∧ u.cell? ⟨kb, 0, none⟩ = some (.int .i64 x.k) ∧ u.cell? ⟨kb, 1, none⟩ = some (.int .i64 x.i) ∧ u.cell? ⟨kb, 2, none⟩ = some (.int .i64 x.r) ∧ u.cell? ⟨kb, 3, none⟩ = some (.string x.id) ∧ u.cell? ⟨kb, 4, none⟩ = some (.slice Aq1 xs.length c1) ∧ u.cell? ⟨kb, 5, none⟩ = some (.slice Aq2 ys.length c2) ∧ u.cell? ⟨kb, 6, none⟩ = some (.slice Aq3 zs.length c3) ∧ u.cell? ⟨w8.heap.size, 0, none⟩ = some (.int .i64 x.k) ∧ u.cell? ⟨w8.heap.size, 1, none⟩ = some (.int .i64 x.i) ∧ u.cell? ⟨w8.heap.size, 2, none⟩ = some (.int .i64 x.r) ∧ u.cell? ⟨w8.heap.size, 3, none⟩ = some (.string x.id) ∧ u.cell? ⟨w8.heap.size, 4, none⟩ = some (.slice Bq1 xs.length e1) ∧ u.cell? ⟨w8.heap.size, 5, none⟩ = some (.slice Bq2 ys.length e4) ∧ u.cell? ⟨w8.heap.size, 6, none⟩ = some (.slice Bq3 zs.length e3) ∧ u.cell? ⟨W.heap.size, 0, none⟩ = some (.int .i64 c.free) ∧ u.cell? ⟨W.heap.size, 1, none⟩ = some vs ∧ u.cell? ⟨W.heap.size, 2, none⟩ = some vf)) := Lib.hid (fun u hu => by
    obtain ⟨r0, r1, r2, r3, r4, r5, r6, -⟩ := row7 (row_on XR.out hu)
    obtain ⟨s0, s1, s2, s3, s4, s5, s6, -⟩ := row7 (row_on XSo.out hu)
    obtain ⟨k0, k1, k2, -⟩ := row3 (row_on XK.out hu)
    exact ⟨hu, r0, r1, r2, r3, r4, r5, r6, s0, s1, s2, s3, s4, s5, s6, k0, k1, k2⟩)
  refine wp_region_held_drew (S := fun u => (Below X.heap.size X u ∧ u.cell? ⟨kb, 0, none⟩ = some (.int .i64 x.k) ∧ u.cell? ⟨kb, 1, none⟩ = some (.int .i64 x.i) ∧ u.cell? ⟨kb, 2, none⟩ = some (.int .i64 x.r) ∧ u.cell? ⟨kb, 3, none⟩ = some (.string x.id) ∧ u.cell? ⟨kb, 4, none⟩ = some (.slice Aq1 xs.length c1) ∧ u.cell? ⟨kb, 5, none⟩ = some (.slice Aq2 ys.length c2) ∧ u.cell? ⟨kb, 6, none⟩ = some (.slice Aq3 zs.length c3) ∧ u.cell? ⟨w8.heap.size, 0, none⟩ = some (.int .i64 x.k) ∧ u.cell? ⟨w8.heap.size, 1, none⟩ = some (.int .i64 x.i) ∧ u.cell? ⟨w8.heap.size, 2, none⟩ = some (.int .i64 x.r) ∧ u.cell? ⟨w8.heap.size, 3, none⟩ = some (.string x.id) ∧ u.cell? ⟨w8.heap.size, 4, none⟩ = some (.slice Bq1 xs.length e1) ∧ u.cell? ⟨w8.heap.size, 5, none⟩ = some (.slice Bq2 ys.length e4) ∧ u.cell? ⟨w8.heap.size, 6, none⟩ = some (.slice Bq3 zs.length e3) ∧ u.cell? ⟨W.heap.size, 0, none⟩ = some (.int .i64 c.free) ∧ u.cell? ⟨W.heap.size, 1, none⟩ = some vs ∧ u.cell? ⟨W.heap.size, 2, none⟩ = some vf)) (by kernel_rfl) (CE.out _ ((Below.refl _ _).drew)) (fun hHeld => ?_)
  refine wpAnyH_take (i := 0) (oi := { dst := some 54, op := _, type := _, pos := _, after := _, guard := _ }) (v := ?v2_0) rfl (by kernel_rfl) (by kernel_rfl) (by kernel_rfl) (fun _ _ _ h => h) (Or.inl ⟨by rfl, ?hy2_0⟩) hHeld ?_
  case hy2_0 => (intro w hSw; (try dsimp only at hSw); go_simp; try with_reducible rfl)
  simp only [Act.put, List.setIfInBounds_toArray, List.set_cons_zero, List.set_cons_succ]
  refine wpAnyH_take (i := 1) (oi := { dst := some 55, op := _, type := _, pos := _, after := _, guard := _ }) (v := ?v2_1) rfl (by kernel_rfl) (by kernel_rfl) (by kernel_rfl) (fun _ _ _ h => h) (Or.inl ⟨by rfl, ?hy2_1⟩) hHeld ?_
  case hy2_1 => (intro w hSw; (try dsimp only at hSw); go_simp; try with_reducible rfl)
  simp only [Act.put, List.setIfInBounds_toArray, List.set_cons_zero, List.set_cons_succ]
  refine wpAnyH_ready (rs := [2]) (by kernel_rfl) (by simp) ?_
  refine AllReadyH.cons (o := { dst := some 56, op := _, type := _, pos := _, after := _, guard := _ }) rfl (fun K hK => ?_) AllReadyH.nil
  go_simp
  go_at_call 14
  refine (sam21_any x _ _ _ _ _ _ xs ys zs _ (TA.out.on hHeld.1).fa (TA.out.on hHeld.1).fb (TA.out.on hHeld.1).fc (TB.out.on hHeld.1).fa (TB.out.on hHeld.1).fb (TB.out.on hHeld.1).fc).mono ?_
  rintro e qA ⟨rfl, hqA⟩
  have hkA := CE.out _ (below_on hHeld.1 hqA)
  refine hK.out _ _ hkA (fun hHeld => ?_)
  clear hK K
  refine wpAnyH_take (i := 3) (oi := { dst := some 57, op := _, type := _, pos := _, after := _, guard := _ }) (v := ?v2_3) rfl (by kernel_rfl) (by kernel_rfl) (by kernel_rfl) (fun _ _ _ h => h) (Or.inl ⟨by rfl, ?hy2_3⟩) hHeld ?_
  case hy2_3 => (intro w hSw; (try dsimp only at hSw); go_simp; try with_reducible rfl)
  simp only [Act.put, List.setIfInBounds_toArray, List.set_cons_zero, List.set_cons_succ]
  refine wpAnyH_take (i := 4) (oi := { dst := some 58, op := _, type := _, pos := _, after := _, guard := _ }) (v := ?v2_4) rfl (by kernel_rfl) (by kernel_rfl) (by kernel_rfl) (fun _ _ _ h => h) (Or.inl ⟨by rfl, ?hy2_4⟩) hHeld ?_
  case hy2_4 => (intro w hSw; (try dsimp only at hSw); go_simp; try with_reducible rfl)
  simp only [Act.put, List.setIfInBounds_toArray, List.set_cons_zero, List.set_cons_succ]
  refine wpAnyH_take (i := 5) (oi := { dst := some 59, op := _, type := _, pos := _, after := _, guard := _ }) (v := ?v2_5) rfl (by kernel_rfl) (by kernel_rfl) (by kernel_rfl) (fun _ _ _ h => h) (Or.inl ⟨by rfl, ?hy2_5⟩) hHeld ?_
  case hy2_5 => (intro w hSw; (try dsimp only at hSw); go_simp; try with_reducible rfl)
  simp only [Act.put, List.setIfInBounds_toArray, List.set_cons_zero, List.set_cons_succ]
  refine wpAnyH_take (i := 7) (oi := { dst := some 61, op := _, type := _, pos := _, after := _, guard := _ }) (v := ?v2_7) rfl (by kernel_rfl) (by kernel_rfl) (by kernel_rfl) (fun _ _ _ h => h) (Or.inl ⟨by rfl, ?hy2_7⟩) hHeld ?_
  case hy2_7 => (intro w hSw; (try dsimp only at hSw); go_simp; try with_reducible rfl)
  simp only [Act.put, List.setIfInBounds_toArray, List.set_cons_zero, List.set_cons_succ]
  refine wpAnyH_take (i := 8) (oi := { dst := some 62, op := _, type := _, pos := _, after := _, guard := _ }) (v := ?v2_8) rfl (by kernel_rfl) (by kernel_rfl) (by kernel_rfl) (fun _ _ _ h => h) (Or.inl ⟨by rfl, ?hy2_8⟩) hHeld ?_
  case hy2_8 => (intro w hSw; (try dsimp only at hSw); go_simp; try with_reducible rfl)
  simp only [Act.put, List.setIfInBounds_toArray, List.set_cons_zero, List.set_cons_succ]
  refine wpAnyH_take (i := 9) (oi := { dst := some 63, op := _, type := _, pos := _, after := _, guard := _ }) (v := ?v2_9) rfl (by kernel_rfl) (by kernel_rfl) (by kernel_rfl) (fun _ _ _ h => h) (Or.inl ⟨by rfl, ?hy2_9⟩) hHeld ?_
  case hy2_9 => (intro w hSw; (try dsimp only at hSw); go_simp; try with_reducible rfl)
  simp only [Act.put, List.setIfInBounds_toArray, List.set_cons_zero, List.set_cons_succ]
  refine wpAnyH_take (i := 10) (oi := { dst := some 64, op := _, type := _, pos := _, after := _, guard := _ }) (v := ?v2_10) rfl (by kernel_rfl) (by kernel_rfl) (by kernel_rfl) (fun _ _ _ h => h) (Or.inl ⟨by rfl, ?hy2_10⟩) hHeld ?_
  case hy2_10 => (intro w hSw; (try dsimp only at hSw); go_simp; try with_reducible rfl)
  simp only [Act.put, List.setIfInBounds_toArray, List.set_cons_zero, List.set_cons_succ]
  refine wpAnyH_take (i := 11) (oi := { dst := some 65, op := _, type := _, pos := _, after := _, guard := _ }) (v := ?v2_11) rfl (by kernel_rfl) (by kernel_rfl) (by kernel_rfl) (fun _ _ _ h => h) (Or.inl ⟨by rfl, ?hy2_11⟩) hHeld ?_
  case hy2_11 => (intro w hSw; (try dsimp only at hSw); go_simp; try with_reducible rfl)
  simp only [Act.put, List.setIfInBounds_toArray, List.set_cons_zero, List.set_cons_succ]
  refine wpAnyH_take (i := 12) (oi := { dst := some 66, op := _, type := _, pos := _, after := _, guard := _ }) (v := ?v2_12) rfl (by kernel_rfl) (by kernel_rfl) (by kernel_rfl) (fun _ _ _ h => h) (Or.inl ⟨by rfl, ?hy2_12⟩) hHeld ?_
  case hy2_12 => (intro w hSw; (try dsimp only at hSw); go_simp; try with_reducible rfl)
  simp only [Act.put, List.setIfInBounds_toArray, List.set_cons_zero, List.set_cons_succ]
  refine wpAnyH_ready (rs := [6]) (by kernel_rfl) (by simp) ?_
  refine AllReadyH.cons (o := { dst := some 60, op := _, type := _, pos := _, after := _, guard := _ }) rfl (fun K hK => ?_) AllReadyH.nil
  go_simp
  go_at_call 15
  refine (QE'.out _ _ _ _ _ _ _ _ _ _ (below_on BXW.out hHeld.1)).mono ?_
  rintro e qB ⟨rfl, hqB⟩
  have hkB := CE.out _ (below_on hHeld.1 hqB)
  refine hK.out _ _ hkB (fun hHeld => ?_)
  clear hK K
  refine wpAnyH_take (i := 13) (oi := { dst := some 67, op := _, type := _, pos := _, after := _, guard := _ }) (v := ?v2_13) rfl (by kernel_rfl) (by kernel_rfl) (by kernel_rfl) (fun _ _ _ h => h) (Or.inl ⟨by rfl, ?hy2_13⟩) hHeld ?_
  case hy2_13 => (intro w hSw; (try dsimp only at hSw); go_simp; try with_reducible rfl)
  simp only [Act.put, List.setIfInBounds_toArray, List.set_cons_zero, List.set_cons_succ]
  refine wpAnyH_take (i := 14) (oi := { dst := some 68, op := _, type := _, pos := _, after := _, guard := _ }) (v := ?v2_14) rfl (by kernel_rfl) (by kernel_rfl) (by kernel_rfl) (fun _ _ _ h => h) (Or.inl ⟨by rfl, ?hy2_14⟩) hHeld ?_
  case hy2_14 => (intro w hSw; (try dsimp only at hSw); go_simp; try with_reducible rfl)
  simp only [Act.put, List.setIfInBounds_toArray, List.set_cons_zero, List.set_cons_succ]
  refine wpAnyH_take (i := 15) (oi := { dst := some 69, op := _, type := _, pos := _, after := _, guard := _ }) (v := ?v2_15) rfl (by kernel_rfl) (by kernel_rfl) (by kernel_rfl) (fun _ _ _ h => h) (Or.inl ⟨by rfl, ?hy2_15⟩) hHeld ?_
  case hy2_15 => (intro w hSw; (try dsimp only at hSw); go_simp; try with_reducible rfl)
  simp only [Act.put, List.setIfInBounds_toArray, List.set_cons_zero, List.set_cons_succ]
  refine wpAnyH_take (i := 16) (oi := { dst := some 70, op := _, type := _, pos := _, after := _, guard := _ }) (v := ?v2_16) rfl (by kernel_rfl) (by kernel_rfl) (by kernel_rfl) (fun _ _ _ h => h) (Or.inl ⟨by rfl, ?hy2_16⟩) hHeld ?_
  case hy2_16 => (intro w hSw; (try dsimp only at hSw); go_simp; try with_reducible rfl)
  simp only [Act.put, List.setIfInBounds_toArray, List.set_cons_zero, List.set_cons_succ]
  refine wpAnyH_take (i := 17) (oi := { dst := some 71, op := _, type := _, pos := _, after := _, guard := _ }) (v := ?v2_17) rfl (by kernel_rfl) (by kernel_rfl) (by kernel_rfl) (fun _ _ _ h => h) (Or.inl ⟨by rfl, ?hy2_17⟩) hHeld ?_
  case hy2_17 => (intro w hSw; (try dsimp only at hSw); go_simp; try with_reducible rfl)
  simp only [Act.put, List.setIfInBounds_toArray, List.set_cons_zero, List.set_cons_succ]
  refine wpAnyH_take (i := 19) (oi := { dst := some 73, op := _, type := _, pos := _, after := _, guard := _ }) (v := ?v2_19) rfl (by kernel_rfl) (by kernel_rfl) (by kernel_rfl) (fun _ _ _ h => h) (Or.inl ⟨by rfl, ?hy2_19⟩) hHeld ?_
  case hy2_19 => (intro w hSw; (try dsimp only at hSw); go_simp; try with_reducible rfl)
  simp only [Act.put, List.setIfInBounds_toArray, List.set_cons_zero, List.set_cons_succ]
  refine wpAnyH_take (i := 20) (oi := { dst := some 74, op := _, type := _, pos := _, after := _, guard := _ }) (v := ?v2_20) rfl (by kernel_rfl) (by kernel_rfl) (by kernel_rfl) (fun _ _ _ h => h) (Or.inl ⟨by rfl, ?hy2_20⟩) hHeld ?_
  case hy2_20 => (intro w hSw; (try dsimp only at hSw); go_simp; try with_reducible rfl)
  simp only [Act.put, List.setIfInBounds_toArray, List.set_cons_zero, List.set_cons_succ]
  refine wpAnyH_ready (rs := [18]) (by kernel_rfl) (by simp) ?_
  refine AllReadyH.cons (o := { dst := some 72, op := _, type := _, pos := _, after := _, guard := _ }) rfl (fun K hK => ?_) AllReadyH.nil
  go_simp
  go_at_call 16
  refine (QD'.out _ _ _ _ (below_on BXW.out hHeld.1) (TA.out.on hHeld.1).fa.get (TA.out.on hHeld.1).fb.get (TA.out.on hHeld.1).fc.get).mono ?_
  rintro e qC ⟨f1, f2, f3, rfl, hrC, hqC⟩
  have hkC := CE.out _ (below_on hHeld.1 hqC)
  refine hK.out _ _ hkC (fun hHeld => ?_)
  clear hK K
  refine wpAnyH_ready (rs := [21]) (by kernel_rfl) (by simp) ?_
  refine AllReadyH.cons (o := { dst := some 75, op := _, type := _, pos := _, after := _, guard := _ }) rfl (fun K hK => ?_) AllReadyH.nil
  go_simp
  go_at_call 17
  refine (QG'.out _ _ _ _ (below_on BXW.out hHeld.1) (TB.out.on hHeld.1).fa.get (TB.out.on hHeld.1).fb.get (TB.out.on hHeld.1).fc.get).mono ?_
  rintro e qD ⟨g1, g2, g3, rfl, hrD, hqD⟩
  have hkD := CE.out _ (below_on hHeld.1 hqD)
  have hrE := hrC.on hqD
  refine hK.out _ _ hkD (fun hHeld => ?_)
  clear hK K
  refine wpAnyH_ready (rs := [22]) (by kernel_rfl) (by simp) ?_
  refine AllReadyH.cons (o := { dst := some 76, op := _, type := _, pos := _, after := _, guard := _ }) rfl (fun K hK => ?_) AllReadyH.nil
  go_simp
  go_at_call 14
  refine (sam21_any zcd _ _ _ _ _ _ _ _ _ _ hrE.fa hrE.fb hrE.fc hrD.fa hrD.fb hrD.fc).mono ?_
  rintro e qE ⟨rfl, hqE⟩
  have hkE := CE.out _ (below_on hHeld.1 hqE)
  refine hK.out _ _ hkE (fun hHeld => ?_)
  clear hK K
  refine wpAnyH_take (i := 23) (oi := { dst := some 77, op := _, type := _, pos := _, after := _, guard := _ }) (v := ?v2_23) rfl (by kernel_rfl) (by kernel_rfl) (by kernel_rfl) (fun _ _ _ h => h) (Or.inl ⟨by rfl, ?hy2_23⟩) hHeld ?_
  case hy2_23 => (intro w hSw; (try dsimp only at hSw); go_simp; try with_reducible rfl)
  simp only [Act.put, List.setIfInBounds_toArray, List.set_cons_zero, List.set_cons_succ]
  refine wpAnyH_take (i := 24) (oi := { dst := some 8, op := _, type := _, pos := _, after := _, guard := _ }) (v := ?v2_24) rfl (by kernel_rfl) (by kernel_rfl) (by kernel_rfl) (fun _ _ _ h => h) (Or.inl ⟨by rfl, ?hy2_24⟩) hHeld ?_
  case hy2_24 => (intro w hSw; (try dsimp only at hSw); go_simp; try with_reducible rfl)
  simp only [Act.put, List.setIfInBounds_toArray, List.set_cons_zero, List.set_cons_succ]
  refine wpAnyH_done (by kernel_rfl) ?_ _
  have HZ := Lib.hid (below_on BXW.out hkE.1)
  clear hkA hkB hkC hkD hkE hHeld
  go_wp2_with fail
  go_ret
  exact ⟨rfl, HZ.out⟩
/-! the law -/
section
variable (M : OP) (c : Cat) (vs vf : Value) (y day : Int) (a : Nat) (ha : a ≤ 255) (W : World) (h : CatAt W (.agg #[.int .i64 c.free, vs, vf]) c) (ht : PT W)
include M h ht
omit ht in
set_option maxRecDepth 100000 in
theorem l21m_no (hr : (fewB c && catB c) = false) : Calls Try.prog 3 #[(.agg #[.int .i64 c.free, vs, vf]), .int .i64 y, .int .i64 day, .int .u8 (a : Int)] W fun e w' => e = .returned (.bool true) ∧ Below W.heap.size W w' := by
  have B0 := Lib.hid ((Below.refl W.heap.size W).alloc (Nat.le_refl _) (.cells #[.int .i64 c.free, vs, vf] 25))
  have R0 := Lib.hid (heap_alloc_new W (.cells #[.int .i64 c.free, vs, vf] 25))
  have QW := Lib.hid (fun u => c21awake_any M u)
  have QR := Lib.hid (fun u (hu : Below W.heap.size W u) => by have := r17rt_any c _ u (h.on hu); rwa [hr] at this)
  clear hr
  go_enter Try.func3, Try.ntmps3
  go_wp2_with fail
  generalize hW1 : W.alloc (.cells #[.int .i64 c.free, vs, vf] 25) = W1 at *
  refine (QW.out _).mono ?_
  rintro e w1 ⟨rfl, hb1⟩
  have B1 := Lib.hid (below_on B0.out hb1)
  have R1 := Lib.hid (row_on R0.out hb1)
  clear hb1
  obtain ⟨y0, y1, y2, -, -, -, yz⟩ := row3 R1.out
  go_wp2_with fail
  refine (QR.out _ B1.out).mono ?_
  rintro e w2 ⟨rfl, hb2⟩
  have B2 := Lib.hid (below_on B1.out hb2)
  clear hb2 y0 y1 y2 yz
  go_wp2_with fail
  refine (QW.out _).mono ?_
  rintro e w3 ⟨rfl, hb3⟩
  have B3 := Lib.hid (below_on B2.out hb3)
  clear hb3
  go_wp2_with fail
  go_ret
  exact ⟨rfl, B3.out⟩
omit ht in
set_option maxRecDepth 100000 in
theorem l21m_bad (hr : (fewB c && catB c) = true) (hf : (snE c y day != 0) = true) : Calls Try.prog 3 #[(.agg #[.int .i64 c.free, vs, vf]), .int .i64 y, .int .i64 day, .int .u8 (a : Int)] W fun e w' => e = .returned (.bool true) ∧ Below W.heap.size W w' := by
  have B0 := Lib.hid ((Below.refl W.heap.size W).alloc (Nat.le_refl _) (.cells #[.int .i64 c.free, vs, vf] 25))
  have R0 := Lib.hid (heap_alloc_new W (.cells #[.int .i64 c.free, vs, vf] 25))
  have QW := Lib.hid (fun u => c21awake_any M u)
  have QR := Lib.hid (fun u (hu : Below W.heap.size W u) => by have := r17rt_any c _ u (h.on hu); rwa [hr] at this)
  have QF := Lib.hid (fun u (hu : Below W.heap.size W u) => r18fl_any c y day _ u (h.on hu))
  generalize snE c y day = E at *
  clear hr
  go_enter Try.func3, Try.ntmps3
  go_wp2_with fail
  generalize hW1 : W.alloc (.cells #[.int .i64 c.free, vs, vf] 25) = W1 at *
  refine (QW.out _).mono ?_
  rintro e w1 ⟨rfl, hb1⟩
  have B1 := Lib.hid (below_on B0.out hb1)
  have R1 := Lib.hid (row_on R0.out hb1)
  clear hb1
  obtain ⟨y0, y1, y2, -, -, -, yz⟩ := row3 R1.out
  go_wp2_with fail
  refine (QR.out _ B1.out).mono ?_
  rintro e w2 ⟨rfl, hb2⟩
  have B2 := Lib.hid (below_on B1.out hb2)
  have R2 := Lib.hid (row_on R1.out hb2)
  clear hb2 y0 y1 y2 yz
  obtain ⟨y0, y1, y2, -, -, -, yz⟩ := row3 R2.out
  go_wp2_with fail
  refine (QF.out _ B2.out).mono ?_
  rintro e w3 ⟨rfl, hb3⟩
  have B3 := Lib.hid (below_on B2.out hb3)
  clear hb3 y0 y1 y2 yz
  go_wp2_with fail
  refine (QW.out _).mono ?_
  rintro e w4 ⟨rfl, hb4⟩
  have B4 := Lib.hid (below_on B3.out hb4)
  clear hb4
  go_wp2_with fail
  go_ret
  exact ⟨rfl, B4.out⟩
include ha in
theorem l21m_ok (hr : (fewB c && catB c) = true) (hf : snE c y day = 0) : Calls Try.prog 3 #[(.agg #[.int .i64 c.free, vs, vf]), .int .i64 y, .int .i64 day, .int .u8 (a : Int)] W fun e w' => e = .returned (.bool true) ∧ Below W.heap.size W w' := by
  obtain ⟨hc, g, -, -⟩ := snE_zero hf
  have hw : fewB c = true := by rw [Bool.and_eq_true] at hr; exact hr.1
  have hfl : c.fs.length ≤ 39 := by unfold fewB at hw; simp only [Bool.and_eq_true, decide_eq_true_eq] at hw; omega
  have hok := cds_ok hc hfl (itsD c.ss y) (itsD c.fs y) day
  obtain ⟨x, rest, hs⟩ : ∃ x rest, srtR (cdsOf c y day) = x :: rest := by
    cases e : srtR (cdsOf c y day) with
    | nil => have := srtR_len (cdsOf c y day); rw [e] at this; have := hok.ne; unfold cdsOf at *; simp at *; omega
    | cons x rest => exact ⟨x, rest, rfl⟩
  have hll : (cdsOf c y day).length ≤ 1000 := by have := hok.le; unfold cdsOf; omega
  have sd := sn_day hf
  have hyr : inR day = true := inR_iff.2 (by omega)
  have QW := Lib.hid (fun u => c21awake_any M u)
  have QR17 := Lib.hid (fun u (hu : Below W.heap.size W u) => by have := r17rt_any c _ u (h.on hu); rwa [hr] at this)
  have QF := Lib.hid (fun u (hu : Below W.heap.size W u) => by have := r18fl_any c y day _ u (h.on hu); rwa [hf] at this)
  have QO' := Lib.hid (fun u (hu : Below W.heap.size W u) => r19of_any c y day _ u (h.on hu) hc g hyr (ht.on hu))
  have hn0 := hok.ne
  have hl0 : 0 < (cdsOf c y day).length := hn0
  obtain ⟨kk, hkk⟩ : ∃ kk, kk = a % (cdsOf c y day).length := ⟨_, rfl⟩
  have hkj : kk < (cdsOf c y day).length := by rw [hkk]; exact Nat.mod_lt _ hl0
  have hmod : (a : Int).tmod ((cdsOf c y day).length : Int) = (kk : Int) := by rw [hkk, Int.tmod_eq_emod_of_nonneg (Int.natCast_nonneg a)]; rfl
  have hpm := rot_perm (cdsOf c y day) kk
  have hok2 := hok.perm hpm
  have hs2 : srtR ((cdsOf c y day).drop kk ++ (cdsOf c y day).take kk) = x :: rest := by rw [← srtR_same hok.tot hpm]; exact hs
  have hrl : rest.length + 1 = (cdsOf c y day).length := by have := srtR_len (cdsOf c y day); rw [hs] at this; exact this
  have hle : (cdsOf c y day).length ≤ 40 := hok.le
  have pl := fun p => polL_len (c := c) (p := p) (s := rest)
  have pl1 := pl 1
  have pl2 := pl 2
  have pl3 := pl 3
  have hxm : x ∈ cdsOf c y day := spl_fst hs
  have hkd := hok.kd x hxm
  have hfx := hok.fs x hxm
  have QR' := Lib.hid (fun u v (hu : Below W.heap.size W u) (hcs : CsAt u v ((cdsOf c y day).drop kk ++ (cdsOf c y day).take kk)) => M.rs c _ v _ x rest u (h.on hu) hcs hfl hok2 hs2)
  have QS' := Lib.hid (fun u v (hu : Below W.heap.size W u) (hcs : CsAt u v (cdsOf c y day)) => r21rs_any c _ v _ x rest u (h.on hu) hcs hok hs)
  have QE' := Lib.hid (fun u (B1 B2 B3 : Option Addr) (n1 n2 n3 e1 e2 e3 : Nat) (hu : Below W.heap.size W u) => M.fr c _ x B1 B2 B3 n1 n2 n3 e1 e2 e3 u (h.on hu))
  have QD' := Lib.hid (fun u a1 a2 a3 (hu : Below W.heap.size W u) (s1 : SlI a1 (polL c 2 rest) u) (s2 : SlI a2 (polL c 3 rest) u) (s3 : SlI a3 (polL c 1 rest) u) => M.di c _ x a1 a2 a3 _ _ _ u (h.on hu) s1.sf s2.sf s3.sf hfl (by omega) (by omega) (by omega) hkd hfx)
  have QG' := Lib.hid (fun u a1 a2 a3 (hu : Below W.heap.size W u) (s1 : SlI a1 (polL c 2 rest) u) (s2 : SlI a2 (polL c 3 rest) u) (s3 : SlI a3 (polL c 1 rest) u) => r21di_any c _ x a1 a2 a3 _ _ _ u (h.on hu) s1 s2 s3 (by omega) (by omega) (by omega) hkd hfx)
  exact l21m_main c vs vf y day W _ x _ _ _ a kk hl0 hll ha hkj hmod QW QR17 QF QO' QR' QS' QE' QD' QG'
include ha in
theorem l21m_any : Calls Try.prog 3 #[(.agg #[.int .i64 c.free, vs, vf]), .int .i64 y, .int .i64 day, .int .u8 (a : Int)] W fun e w' => e = .returned (.bool true) ∧ Below W.heap.size W w' := by
  cases hr : fewB c && catB c
  · exact l21m_no M c vs vf y day a W h hr
  · by_cases hf : snE c y day = 0
    · exact l21m_ok M c vs vf y day a ha W h ht hr hf
    · exact l21m_bad M c vs vf y day a W h hr (bne_iff_ne.2 hf)
end
end Go.Proofs.Ytnofmlkjagdklaa
