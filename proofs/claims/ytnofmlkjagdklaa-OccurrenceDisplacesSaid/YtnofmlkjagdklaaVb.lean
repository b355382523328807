/- Stage 19's reference: Days, In, Of. -/
import Derived.Test.YtnofmlkjagdklaaVa
import Derived.Test.YtnofmlkjagdklaaKb
namespace Go.Proofs.Ytnofmlkjagdklaa
open Go.RowKit

set_option maxHeartbeats 1000000 in
set_option maxRecDepth 100000 in
theorem r19dy_0 (v0 v1 : Value) (A1 : Option Addr) (ss : List Itm) (c1 : Nat) (y : Int) (W : World) (ht : PT W) (n2 : ss.length ≤ 400)
    (H1 : ∀ (i : Nat) (t : Itm), ss[i]? = some t → ∃ b o, A1 = some ⟨b, o, none⟩ ∧ b < W.heap.size ∧ ItmAt W b (o + i * 9) t)
    (HD : ∀ t ∈ ss, ∀ u, PT u → Calls Try.prog 41 #[ancv t.k t.m t.d t.o t.w t.c, .int .i64 y] u fun e w' => e = .returned (.int .i64 (itD t y)) ∧ Below u.heap.size u w') :
    Calls Try.prog 29 #[.agg #[v0, v1, .slice A1 ss.length c1], .int .i64 y] W (RetInts (itsD ss y) W) := by
  obtain ⟨i0, hi, hz0, hz1, hz2⟩ := info_parts infoInt
  have Q1 := Lib.hid H1
  have QD := Lib.hid HD
  have T0 := Lib.hid ht
  clear H1 HD ht
  have B0 := Lib.hid ((Below.refl W.heap.size W).alloc (Nat.le_refl _) (.cells #[v0, v1, .slice A1 ss.length c1] 25))
  have R0 := Lib.hid (heap_alloc_new W (.cells #[v0, v1, .slice A1 ss.length c1] 25))
  have Z0 : (W.alloc (.cells #[v0, v1, .slice A1 ss.length c1] 25)).heap.size = W.heap.size + 1 := by simp
  go_enter Try.func29, Try.ntmps29
  go_wp2_with fail
  generalize hW1 : W.alloc (.cells #[v0, v1, .slice A1 ss.length c1] 25) = W1 at *
  go_loopw [5, 6] (fun v i wr => ∃ k : Nat, k ≤ ss.length ∧ i = .int .i64 k ∧ Below W1.heap.size W1 wr ∧ IntsAt W1.heap.size v (itsD (ss.take k) y) wr) (fun _ i _ => ss.length - (intOf i).toNat)
  case atStart => exact ⟨0, Nat.zero_le _, rfl, Below.refl _ _, IntsAt.nil _ _⟩
  case round =>
    obtain ⟨k, hk, rfl, hb, hv⟩ := hrel
    have HB := Lib.hid hb
    have HV := Lib.hid hv
    clear hb hv
    have RR := Lib.hid (row_on R0.out HB.out)
    obtain ⟨r0, r1, r2, g0, g1, g2, rz⟩ := row3 RR.out
    by_cases hlt : k < ss.length
    · obtain ⟨t, ht⟩ : ∃ t, ss[k]? = some t := ⟨_, List.getElem?_eq_getElem hlt⟩
      obtain ⟨b, p, hA, hbl, hit⟩ := Q1.out k t ht
      subst hA
      have hbl1 := Nat.lt_of_lt_of_le hbl B0.out.size
      have hbl2 := Nat.lt_of_lt_of_le hbl1 HB.out.size
      have HI := Lib.hid ((hit.on B0.out hbl).on HB.out hbl1)
      have HD := Lib.hid (fun u hu => QD.out t (List.mem_of_getElem? ht) u hu)
      have hmap := Lib.hid (itsD_take ht y)
      have hle : (itsD (ss.take k) y).length = k := by simp [itsD]; omega
      have TT := Lib.hid ((T0.out.on B0.out).on HB.out)
      generalize itD t y = n at *
      obtain ⟨id, x, yy, a1, a2, a3, a4, a5, a6⟩ := t
      obtain ⟨q0, q1, q2, q3, q4, q5, q6, q7, q8⟩ := HI.out.nine
      clear hit ht
      go_wp2_with fail
      refine (HD.out _ TT.out).mono ?_
      rintro e w1 ⟨rfl, hb1⟩
      have HB1 := Lib.hid (below_on HB.out hb1)
      have HV1 := Lib.hid (HV.out.on hb1)
      have hz := Lib.hid (Nat.le_trans HB.out.size hb1.size)
      clear hb1
      go_wp2_with (at_builtin; refine wpList_append_own _ rfl _ _ 33 rfl W1.heap.size 3 i0 (.int .i64 0) 1 8 Try.underlying33 hi hz0 hz1 hz2 rfl (by decide) _ _ _ rfl (HV1.out.al _) ⟨w1.heap.size, 0, none⟩ 1 1 [.int .i64 n] rfl rfl (cell_one_new _ _ _) (by simp [Value.oneCell']) (by unfold maxLen; omega) (by omega) (by have := hz.out; simp; omega) ?_; intro v' w2 hown' hgrow _; obtain ⟨hv2, hb2⟩ := HV1.out.app HB1.out hz.out hown' hgrow; have HV2 := Lib.hid hv2; have HB2 := Lib.hid hb2; clear hown' hgrow hv2 hb2)
      go_roundw
      case rel => exact ⟨k + 1, by omega, by go_num, HB2.out, by rw [hmap.out]; exact HV2.out⟩
      case measure => simp [intOf]; omega
    · obtain rfl : k = ss.length := by omega
      rw [List.take_length] at HV
      have HZ := Lib.hid (below_on B0.out HB.out)
      go_wp2_with fail
      go_ret
      exact ⟨_, rfl, HV.out.lower (by omega), HZ.out⟩
theorem r19dy_any (c : Cat) (y : Int) (v : Value) (W : World) (h : CatAt W v c) (hc : catB c = true) (g : inG y = true) (ht : PT W) : Calls Try.prog 29 #[v, .int .i64 y] W (RetInts (itsD c.fs y) W) := by
  obtain ⟨⟨vs, vf, rfl, _, h1⟩, _, _, _⟩ := h
  obtain ⟨A1, c1, rfl, _, _, h1⟩ := h1
  exact r19dy_0 _ _ A1 c.fs c1 y W ht (cat_parts hc).1.2.2.2.2 h1 (fun t hm u hu => r16day_any t.k t.m t.d t.o t.w t.c y u (fea_ok hc g hm) hu)
/-! In -/
theorem cds_made (w : World) (c : Cd) (t : TypeId) : CdsAt t w.heap.size (.slice (some ⟨w.heap.size, 0, none⟩) 1 1) [c] (w.alloc (.cells #[.int .i64 c.k, .int .i64 c.i, .int .i64 c.r, .string c.id] t)) :=
  ⟨by simp [flat4], .inr ⟨w.heap.size, 1, #[.int .i64 c.k, .int .i64 c.i, .int .i64 c.r, .string c.id], rfl, Nat.le_refl _, heap_alloc_new w _, Nat.le_refl _, by unfold maxLen; omega, rfl, rfl⟩⟩
theorem SlI.get {v : Value} {l : List Int} {w : World} (h : SlI v l w) (h0 : 0 < l.length) : ∃ g cap, v = .slice (some ⟨g, 0, none⟩) l.length cap ∧ IntsIn g cap l w := by
  rcases h with ⟨_, h⟩ | h
  · rw [h] at h0; exact absurd h0 (by decide)
  · exact h
set_option maxHeartbeats 2000000 in
set_option maxRecDepth 100000 in
/-- In, behind its first statements: as a loop over the feasts. -/
theorem r19in_0 (v0 : Value) (A1 A2 : Option Addr) (c : Cat) (c1 c2 : Nat) (vS vD : Value) (starts days : List Int) (day : Int) (W : World)
    (n2 : c.fs.length ≤ 400) (hd1 : days.length = c.fs.length) (i : Nat) (hi : snI starts day = i) (hil : i < c.ss.length) (hy : inR day = true)
    (H1 : ∀ (i : Nat) (t : Itm), c.ss[i]? = some t → ∃ b o, A1 = some ⟨b, o, none⟩ ∧ b < W.heap.size ∧ ItmAt W b (o + i * 9) t)
    (H2 : ∀ (i : Nat) (t : Itm), c.fs[i]? = some t → ∃ b o, A2 = some ⟨b, o, none⟩ ∧ b < W.heap.size ∧ ItmAt W b (o + i * 9) t)
    (hS : SlI vS starts W) (hD : SlI vD days W) :
    Calls Try.prog 27 #[.agg #[v0, .slice A1 c.ss.length c1, .slice A2 c.fs.length c2], vS, vD, .int .i64 day] W (RetCs 39 W (cds c starts days day)) := by
  obtain ⟨i0, hi0, hz0, hz1, hz2⟩ := info_parts infoCr
  obtain ⟨t, ht⟩ : ∃ t, c.ss[i]? = some t := ⟨_, List.getElem?_eq_getElem hil⟩
  have htd : c.ss.getD i zo = t := by rw [List.getD_eq_getElem?_getD, ht]; rfl
  obtain ⟨b, p, rfl, hbl, hit⟩ := H1 i t ht
  have hR := r18in_any vS starts day
  rw [hi] at hR
  have Q2 := Lib.hid H2
  have QS := Lib.hid (fun u (hu : Below W.heap.size W u) => hR u (hS.on hu))
  have QD := Lib.hid hD
  have EC := Lib.hid (show cds c starts days day = (⟨1, i, if day % 7 = 0 then t.x else t.y, t.id⟩ : Cd) :: cdP c.fs days day c.fs.length by unfold cds cdT; rw [hi, Int.toNat_natCast, htd])
  have QO := Lib.hid (fun w => rof_any day w hy)
  have B0 := Lib.hid ((Below.refl W.heap.size W).alloc (Nat.le_refl _) (.cells #[v0, .slice (some ⟨b, p, none⟩) c.ss.length c1, .slice A2 c.fs.length c2] 25))
  have R0 := Lib.hid (heap_alloc_new W (.cells #[v0, .slice (some ⟨b, p, none⟩) c.ss.length c1, .slice A2 c.fs.length c2] 25))
  have Z0 : (W.alloc (.cells #[v0, .slice (some ⟨b, p, none⟩) c.ss.length c1, .slice A2 c.fs.length c2] 25)).heap.size = W.heap.size + 1 := by simp
  have HI := Lib.hid (hit.on B0.out hbl)
  clear H1 H2 hR hS hD hit ht htd hi
  obtain ⟨id, x, yy, a1, a2, a3, a4, a5, a6⟩ := t
  go_enter Try.func27, Try.ntmps27
  go_wp2_with fail
  generalize hW1 : W.alloc (.cells #[v0, .slice (some ⟨b, p, none⟩) c.ss.length c1, .slice A2 c.fs.length c2] 25) = W1 at *
  refine (QS.out _ B0.out).mono ?_
  rintro e w1 ⟨rfl, rfl⟩
  obtain ⟨r0, r1, r2, g0, g1, g2, rz⟩ := row3 R0.out
  obtain ⟨q0, q1, q2, q3, q4, q5, q6, q7, q8⟩ := HI.out.nine
  go_wp2_with fail
  refine (QO.out _).mono ?_
  rintro e w2 ⟨rfl, rfl⟩
  by_cases h7 : day % 7 = 0
  · have D7 : (day % 7 == 0) = true := beq_iff_eq.2 h7
    have ER : (if day % 7 = 0 then x else yy) = x := if_pos h7
    go_wp2_with fail
    have hX0 := heap_alloc_new W1 (.cells #[.string id, .int .i64 x, .int .i64 yy, .int .i64 a1, .int .i64 a2, .int .i64 a3, .int .i64 a4, .int .i64 a5, .int .i64 a6] 57)
    have HX1 : Hid (CdsAt 39 (W1.heap.size + 1) (.slice (some ⟨W1.heap.size + 1, 0, none⟩) 1 1) [(⟨1, i, x, id⟩ : Cd)] ((W1.alloc (.cells #[.string id, .int .i64 x, .int .i64 yy, .int .i64 a1, .int .i64 a2, .int .i64 a3, .int .i64 a4, .int .i64 a5, .int .i64 a6] 57)).alloc (.cells #[.int .i64 1, .int .i64 (i : Int), .int .i64 x, .string id] 39))) := Lib.hid (by
      have := cds_made (W1.alloc (.cells #[.string id, .int .i64 x, .int .i64 yy, .int .i64 a1, .int .i64 a2, .int .i64 a3, .int .i64 a4, .int .i64 a5, .int .i64 a6] 57)) ⟨1, i, x, id⟩ 39
      rwa [World.size_alloc] at this)
    have RX := Lib.hid (row_al (row_al R0.out (.cells #[.string id, .int .i64 x, .int .i64 yy, .int .i64 a1, .int .i64 a2, .int .i64 a3, .int .i64 a4, .int .i64 a5, .int .i64 a6] 57)) (.cells #[.int .i64 1, .int .i64 (i : Int), .int .i64 x, .string id] 39))
    have BX := Lib.hid ((B0.out.alloc (by omega) (.cells #[.string id, .int .i64 x, .int .i64 yy, .int .i64 a1, .int .i64 a2, .int .i64 a3, .int .i64 a4, .int .i64 a5, .int .i64 a6] 57)).alloc (by simp; omega) (.cells #[.int .i64 1, .int .i64 (i : Int), .int .i64 x, .string id] 39))
    have ZX : ((W1.alloc (.cells #[.string id, .int .i64 x, .int .i64 yy, .int .i64 a1, .int .i64 a2, .int .i64 a3, .int .i64 a4, .int .i64 a5, .int .i64 a6] 57)).alloc (.cells #[.int .i64 1, .int .i64 (i : Int), .int .i64 x, .string id] 39)).heap.size = W1.heap.size + 2 := by simp
    clear hX0 r0 r1 r2 g0 g1 g2 rz q0 q1 q2 q3 q4 q5 q6 q7 q8 HI
    generalize hX : (W1.alloc (.cells #[.string id, .int .i64 x, .int .i64 yy, .int .i64 a1, .int .i64 a2, .int .i64 a3, .int .i64 a4, .int .i64 a5, .int .i64 a6] 57)).alloc (.cells #[.int .i64 1, .int .i64 (i : Int), .int .i64 x, .string id] 39) = X at *
    go_loopw [12, 13] (fun v kv wr => ∃ k : Nat, k ≤ c.fs.length ∧ kv = .int .i64 k ∧ Below (W1.heap.size + 1) X wr ∧ CdsAt 39 (W1.heap.size + 1) v ((⟨1, i, x, id⟩ : Cd) :: cdP c.fs days day k) wr) (fun _ kv _ => c.fs.length - (intOf kv).toNat)
    case atStart => exact ⟨0, Nat.zero_le _, rfl, Below.refl _ _, by rw [← Z0]; exact HX1.out⟩
    case round =>
      obtain ⟨k, hk, rfl, hb, hv⟩ := hrel
      have hzz : W1.heap.size + 1 ≤ wr.heap.size := by have := hb.size; omega
      have HX := Lib.hid hb
      have HV := Lib.hid hv
      have HR := Lib.hid (show wr.heap[W.heap.size]? = some (.cells #[v0, .slice (some ⟨b, p, none⟩) c.ss.length c1, .slice A2 c.fs.length c2] 25 (0, 0)) from (hb.block _ (by omega)).trans RX.out)
      have HB := Lib.hid (BX.out.trans (hb.mono (by omega)))
      clear hb hv
      obtain ⟨r0, r1, r2, g0, g1, g2, rz⟩ := row3 HR.out
      by_cases hlt : k < c.fs.length
      · obtain ⟨t, ht⟩ : ∃ t, c.fs[k]? = some t := ⟨_, List.getElem?_eq_getElem hlt⟩
        obtain ⟨b2, p2, hA, hbl2, hit2⟩ := Q2.out k t ht
        have htd : c.fs.getD k zo = t := by rw [List.getD_eq_getElem?_getD, ht]; rfl
        subst hA
        have HI2 := Lib.hid (hit2.on HB.out hbl2)
        obtain ⟨gD, cD, hvD, hID⟩ := QD.out.get (by omega)
        have cD1 := (hID.on HB.out).cell k (by omega)
        have mD := hID.mx
        have lD := hID.le
        unfold maxLen at mD
        subst hvD
        rw [hd1] at lD
        rw [hd1]
        have hstep := Lib.hid (show cdP c.fs days day (k + 1) = if days.getD k 0 = day then cdP c.fs days day k ++ [cdF c.fs k] else cdP c.fs days day k from rfl)
        have hcf := Lib.hid (show cdF c.fs k = (⟨2, k, t.x, t.id⟩ : Cd) by unfold cdF; rw [htd])
        have hlen := cdP_len (fs := c.fs) (days := days) (day := day) k
        generalize hdk : days.getD k 0 = dk at *
        obtain ⟨id2, x2, yy2, e1, e2, e3, e4, e5, e6⟩ := t
        obtain ⟨s0, s1, s2, s3, s4, s5, s6, s7, s8⟩ := HI2.out.nine
        clear hit2 ht htd hID hdk s2 s3 s4 s5 s6 s7 s8 HI2
        by_cases heq : dk = day
        · have E := Lib.hid (show cdP c.fs days day (k + 1) = cdP c.fs days day k ++ [(⟨2, k, x2, id2⟩ : Cd)] by rw [hstep.out, if_pos heq, hcf.out])
          have D : (dk == day) = true := beq_iff_eq.2 heq
          clear heq hstep hcf
          generalize hPP : cdP c.fs days day k = pq at *
          have HVk : Hid (wr.ownsRow (W1.heap.size + 1) 39 4 u12 (pq.length + 1) (flat4 ((⟨1, i, x, id⟩ : Cd) :: pq))) := HV
          have ag2 : u12.ownBlock ≠ some b2 := fun e => absurd (World.ownsRow.lt HV.out b2 e).1 (by omega)
          have ag1 : u12.ownBlock ≠ some W.heap.size := fun e => absurd (World.ownsRow.lt HV.out W.heap.size e).1 (by omega)
          have hszv := hzz
          have hbW := HB.out.size
          go_wp2_with fail
          go_region_held3 (fun w' => w'.cell? ⟨W.heap.size, 2, none⟩ = some (.slice (some ⟨b2, p2, none⟩) c.fs.length c2) ∧ w'.cell? ⟨b2, p2 + k * 9, none⟩ = some (.string id2) ∧ w'.cell? ⟨b2, p2 + k * 9 + 1, none⟩ = some (.int .i64 x2))
            (first
              | go_keep
              | (go_split_ands
                 refine ⟨?_, ?_, ?_⟩
                 · (rw [hgrow.cell_far _ (by simp; omega) (Ne.symm ag1)]; assumption)
                 · (rw [hgrow.cell_far _ (by simp; omega) (Ne.symm ag2)]; assumption)
                 · (rw [hgrow.cell_far _ (by simp; omega) (Ne.symm ag2)]; assumption)))
            ((refine step_append_lies _ (by rfl) _ _ _ (by rfl) (W1.heap.size + 1) 39 i0 _ 4 40 Try.underlying29 hi0 hz0 hz1 hz2 rfl (by omega) u12 (pq.length + 1) (flat4 ((⟨1, i, x, id⟩ : Cd) :: pq)) (by rfl) ((World.ownsRow.kept HVk.out (grown_of_below ((Below.refl _ _).alloc (Nat.le_refl _) _) none) (by cases hv : u12.ownBlock <;> simp)).drew)
                ⟨wr.heap.size, 0, none⟩ 1 1 [.int .i64 2, .int .i64 (k : Int), .int .i64 x2, .string id2] (by rfl) (by rfl) (World.news_of_block (cs := #[.int .i64 2, .int .i64 (k : Int), .int .i64 x2, .string id2]) (t := 39) (fr := (0, 0)) (heap_alloc_new wr _)) (by simp [Value.oneCell'])
                (by omega) (by unfold maxLen; omega) (by omega) (by simp; omega) (wr.heap.size + 1) (by simp) ?_; intro gg cap2 w1 hown1 hgrow hat hlt2))
          have hb2 := (below_dn (HX.out.alloc hzz (Obj.cells #[.int .i64 2, .int .i64 (k : Int), .int .i64 x2, .string id2] 39)) 1).grown hgrow (by simp; omega) (fun k e => (World.ownsRow.lt HV.out k e).1)
          have HB2 := Lib.hid hb2
          have HV2 : Hid (CdsAt 39 (W1.heap.size + 1) _ ((⟨1, i, x, id⟩ : Cd) :: pq ++ [⟨2, k, x2, id2⟩]) w1) := Lib.hid (by rw [CdsAt, List.length_append, flat4_app]; exact hown1)
          clear hb2 hown1 hgrow hat
          go_wp2_with fail
          go_roundw
          case rel => exact ⟨k + 1, by omega, by go_num, HB2.out, by rw [E.out]; exact HV2.out⟩
          case measure => simp [intOf]; omega
        · have E := Lib.hid (show cdP c.fs days day (k + 1) = cdP c.fs days day k by rw [hstep.out, if_neg heq])
          have D : (dk == day) = false := beq_eq_false_iff_ne.2 heq
          clear heq hstep hcf
          go_wp2_with fail
          go_roundw
          case rel => exact ⟨k + 1, by omega, by go_num, HX.out, by rw [E.out]; exact HV.out⟩
          case measure => simp [intOf]; omega
      · obtain rfl : k = c.fs.length := by omega
        go_wp2_with fail
        go_ret
        exact ⟨_, rfl, by rw [EC.out]; simp only [ER]; exact HV.out.lower (by omega), HB.out⟩
  · have D7 : (day % 7 == 0) = false := beq_eq_false_iff_ne.2 h7
    have ER : (if day % 7 = 0 then x else yy) = yy := if_neg h7
    go_wp2_with fail
    have hX0 := heap_alloc_new W1 (.cells #[.string id, .int .i64 x, .int .i64 yy, .int .i64 a1, .int .i64 a2, .int .i64 a3, .int .i64 a4, .int .i64 a5, .int .i64 a6] 57)
    have HX1 : Hid (CdsAt 39 (W1.heap.size + 1) (.slice (some ⟨W1.heap.size + 1, 0, none⟩) 1 1) [(⟨1, i, yy, id⟩ : Cd)] ((W1.alloc (.cells #[.string id, .int .i64 x, .int .i64 yy, .int .i64 a1, .int .i64 a2, .int .i64 a3, .int .i64 a4, .int .i64 a5, .int .i64 a6] 57)).alloc (.cells #[.int .i64 1, .int .i64 (i : Int), .int .i64 yy, .string id] 39))) := Lib.hid (by
      have := cds_made (W1.alloc (.cells #[.string id, .int .i64 x, .int .i64 yy, .int .i64 a1, .int .i64 a2, .int .i64 a3, .int .i64 a4, .int .i64 a5, .int .i64 a6] 57)) ⟨1, i, yy, id⟩ 39
      rwa [World.size_alloc] at this)
    have RX := Lib.hid (row_al (row_al R0.out (.cells #[.string id, .int .i64 x, .int .i64 yy, .int .i64 a1, .int .i64 a2, .int .i64 a3, .int .i64 a4, .int .i64 a5, .int .i64 a6] 57)) (.cells #[.int .i64 1, .int .i64 (i : Int), .int .i64 yy, .string id] 39))
    have BX := Lib.hid ((B0.out.alloc (by omega) (.cells #[.string id, .int .i64 x, .int .i64 yy, .int .i64 a1, .int .i64 a2, .int .i64 a3, .int .i64 a4, .int .i64 a5, .int .i64 a6] 57)).alloc (by simp; omega) (.cells #[.int .i64 1, .int .i64 (i : Int), .int .i64 yy, .string id] 39))
    have ZX : ((W1.alloc (.cells #[.string id, .int .i64 x, .int .i64 yy, .int .i64 a1, .int .i64 a2, .int .i64 a3, .int .i64 a4, .int .i64 a5, .int .i64 a6] 57)).alloc (.cells #[.int .i64 1, .int .i64 (i : Int), .int .i64 yy, .string id] 39)).heap.size = W1.heap.size + 2 := by simp
    clear hX0 r0 r1 r2 g0 g1 g2 rz q0 q1 q2 q3 q4 q5 q6 q7 q8 HI
    generalize hX : (W1.alloc (.cells #[.string id, .int .i64 x, .int .i64 yy, .int .i64 a1, .int .i64 a2, .int .i64 a3, .int .i64 a4, .int .i64 a5, .int .i64 a6] 57)).alloc (.cells #[.int .i64 1, .int .i64 (i : Int), .int .i64 yy, .string id] 39) = X at *
    go_loopw [12, 13] (fun v kv wr => ∃ k : Nat, k ≤ c.fs.length ∧ kv = .int .i64 k ∧ Below (W1.heap.size + 1) X wr ∧ CdsAt 39 (W1.heap.size + 1) v ((⟨1, i, yy, id⟩ : Cd) :: cdP c.fs days day k) wr) (fun _ kv _ => c.fs.length - (intOf kv).toNat)
    case atStart => exact ⟨0, Nat.zero_le _, rfl, Below.refl _ _, by rw [← Z0]; exact HX1.out⟩
    case round =>
      obtain ⟨k, hk, rfl, hb, hv⟩ := hrel
      have hzz : W1.heap.size + 1 ≤ wr.heap.size := by have := hb.size; omega
      have HX := Lib.hid hb
      have HV := Lib.hid hv
      have HR := Lib.hid (show wr.heap[W.heap.size]? = some (.cells #[v0, .slice (some ⟨b, p, none⟩) c.ss.length c1, .slice A2 c.fs.length c2] 25 (0, 0)) from (hb.block _ (by omega)).trans RX.out)
      have HB := Lib.hid (BX.out.trans (hb.mono (by omega)))
      clear hb hv
      obtain ⟨r0, r1, r2, g0, g1, g2, rz⟩ := row3 HR.out
      by_cases hlt : k < c.fs.length
      · obtain ⟨t, ht⟩ : ∃ t, c.fs[k]? = some t := ⟨_, List.getElem?_eq_getElem hlt⟩
        obtain ⟨b2, p2, hA, hbl2, hit2⟩ := Q2.out k t ht
        have htd : c.fs.getD k zo = t := by rw [List.getD_eq_getElem?_getD, ht]; rfl
        subst hA
        have HI2 := Lib.hid (hit2.on HB.out hbl2)
        obtain ⟨gD, cD, hvD, hID⟩ := QD.out.get (by omega)
        have cD1 := (hID.on HB.out).cell k (by omega)
        have mD := hID.mx
        have lD := hID.le
        unfold maxLen at mD
        subst hvD
        rw [hd1] at lD
        rw [hd1]
        have hstep := Lib.hid (show cdP c.fs days day (k + 1) = if days.getD k 0 = day then cdP c.fs days day k ++ [cdF c.fs k] else cdP c.fs days day k from rfl)
        have hcf := Lib.hid (show cdF c.fs k = (⟨2, k, t.x, t.id⟩ : Cd) by unfold cdF; rw [htd])
        have hlen := cdP_len (fs := c.fs) (days := days) (day := day) k
        generalize hdk : days.getD k 0 = dk at *
        obtain ⟨id2, x2, yy2, e1, e2, e3, e4, e5, e6⟩ := t
        obtain ⟨s0, s1, s2, s3, s4, s5, s6, s7, s8⟩ := HI2.out.nine
        clear hit2 ht htd hID hdk s2 s3 s4 s5 s6 s7 s8 HI2
        by_cases heq : dk = day
        · have E := Lib.hid (show cdP c.fs days day (k + 1) = cdP c.fs days day k ++ [(⟨2, k, x2, id2⟩ : Cd)] by rw [hstep.out, if_pos heq, hcf.out])
          have D : (dk == day) = true := beq_iff_eq.2 heq
          clear heq hstep hcf
          generalize hPP : cdP c.fs days day k = pq at *
          have HVk : Hid (wr.ownsRow (W1.heap.size + 1) 39 4 u12 (pq.length + 1) (flat4 ((⟨1, i, yy, id⟩ : Cd) :: pq))) := HV
          have ag2 : u12.ownBlock ≠ some b2 := fun e => absurd (World.ownsRow.lt HV.out b2 e).1 (by omega)
          have ag1 : u12.ownBlock ≠ some W.heap.size := fun e => absurd (World.ownsRow.lt HV.out W.heap.size e).1 (by omega)
          have hszv := hzz
          have hbW := HB.out.size
          go_wp2_with fail
          go_region_held3 (fun w' => w'.cell? ⟨W.heap.size, 2, none⟩ = some (.slice (some ⟨b2, p2, none⟩) c.fs.length c2) ∧ w'.cell? ⟨b2, p2 + k * 9, none⟩ = some (.string id2) ∧ w'.cell? ⟨b2, p2 + k * 9 + 1, none⟩ = some (.int .i64 x2))
            (first
              | go_keep
              | (go_split_ands
                 refine ⟨?_, ?_, ?_⟩
                 · (rw [hgrow.cell_far _ (by simp; omega) (Ne.symm ag1)]; assumption)
                 · (rw [hgrow.cell_far _ (by simp; omega) (Ne.symm ag2)]; assumption)
                 · (rw [hgrow.cell_far _ (by simp; omega) (Ne.symm ag2)]; assumption)))
            ((refine step_append_lies _ (by rfl) _ _ _ (by rfl) (W1.heap.size + 1) 39 i0 _ 4 40 Try.underlying29 hi0 hz0 hz1 hz2 rfl (by omega) u12 (pq.length + 1) (flat4 ((⟨1, i, yy, id⟩ : Cd) :: pq)) (by rfl) ((World.ownsRow.kept HVk.out (grown_of_below ((Below.refl _ _).alloc (Nat.le_refl _) _) none) (by cases hv : u12.ownBlock <;> simp)).drew)
                ⟨wr.heap.size, 0, none⟩ 1 1 [.int .i64 2, .int .i64 (k : Int), .int .i64 x2, .string id2] (by rfl) (by rfl) (World.news_of_block (cs := #[.int .i64 2, .int .i64 (k : Int), .int .i64 x2, .string id2]) (t := 39) (fr := (0, 0)) (heap_alloc_new wr _)) (by simp [Value.oneCell'])
                (by omega) (by unfold maxLen; omega) (by omega) (by simp; omega) (wr.heap.size + 1) (by simp) ?_; intro gg cap2 w1 hown1 hgrow hat hlt2))
          have hb2 := (below_dn (HX.out.alloc hzz (Obj.cells #[.int .i64 2, .int .i64 (k : Int), .int .i64 x2, .string id2] 39)) 1).grown hgrow (by simp; omega) (fun k e => (World.ownsRow.lt HV.out k e).1)
          have HB2 := Lib.hid hb2
          have HV2 : Hid (CdsAt 39 (W1.heap.size + 1) _ ((⟨1, i, yy, id⟩ : Cd) :: pq ++ [⟨2, k, x2, id2⟩]) w1) := Lib.hid (by rw [CdsAt, List.length_append, flat4_app]; exact hown1)
          clear hb2 hown1 hgrow hat
          go_wp2_with fail
          go_roundw
          case rel => exact ⟨k + 1, by omega, by go_num, HB2.out, by rw [E.out]; exact HV2.out⟩
          case measure => simp [intOf]; omega
        · have E := Lib.hid (show cdP c.fs days day (k + 1) = cdP c.fs days day k by rw [hstep.out, if_neg heq])
          have D : (dk == day) = false := beq_eq_false_iff_ne.2 heq
          clear heq hstep hcf
          go_wp2_with fail
          go_roundw
          case rel => exact ⟨k + 1, by omega, by go_num, HX.out, by rw [E.out]; exact HV.out⟩
          case measure => simp [intOf]; omega
      · obtain rfl : k = c.fs.length := by omega
        go_wp2_with fail
        go_ret
        exact ⟨_, rfl, by rw [EC.out]; simp only [ER]; exact HV.out.lower (by omega), HB.out⟩
theorem r19in_any (c : Cat) (y day : Int) (v vS vD : Value) (W : World) (h : CatAt W v c) (hc : catB c = true) (g : inG y = true) (hy : inR day = true) (hS : SlI vS (itsD c.ss y) W) (hD : SlI vD (itsD c.fs y) W) :
    Calls Try.prog 27 #[v, vS, vD, .int .i64 day] W (RetCs 39 W (cdsOf c y day)) := by
  have hp := (cat_parts hc).1
  obtain ⟨⟨vs, vf, rfl, h1, h2⟩, _, _, _⟩ := h
  obtain ⟨A1, c1, rfl, _, _, h1⟩ := h1
  obtain ⟨A2, c2, rfl, _, _, h2⟩ := h2
  obtain ⟨i, hi, e⟩ := snI_in (l := itsD c.ss y) (day := day) (by rw [its_len]; omega) (its_pos hc g)
  rw [its_len] at hi
  exact r19in_0 _ A1 A2 c c1 c2 vS vD _ _ day W hp.2.2.2.2 (its_len _ _) i e hi hy h1 h2 hS hD
/-! Of -/
set_option maxRecDepth 100000 in
theorem r19of_0 (v0 v1 v2 : Value) (l days : List Int) (xs : List Cd) (y day : Int) (W : World)
    (HS : ∀ u, Below W.heap.size W u → Calls Try.prog 28 #[.agg #[v0, v1, v2], .int .i64 y] u (RetInts l u))
    (HD : ∀ u, Below W.heap.size W u → Calls Try.prog 29 #[.agg #[v0, v1, v2], .int .i64 y] u (RetInts days u))
    (HI : ∀ u vS vD, Below W.heap.size W u → SlI vS l u → SlI vD days u → Calls Try.prog 27 #[.agg #[v0, v1, v2], vS, vD, .int .i64 day] u (RetCs 39 u xs)) :
    Calls Try.prog 10 #[.agg #[v0, v1, v2], .int .i64 y, .int .i64 day] W (RetCs 39 W xs) := by
  have B0 := Lib.hid ((Below.refl W.heap.size W).alloc (Nat.le_refl _) (.cells #[v0, v1, v2] 25))
  have R0 := Lib.hid (heap_alloc_new W (.cells #[v0, v1, v2] 25))
  have QS := Lib.hid HS
  have QD := Lib.hid HD
  have QI := Lib.hid HI
  clear HS HD HI
  go_enter Try.func10, Try.ntmps10
  go_wp2_with fail
  generalize hW1 : W.alloc (.cells #[v0, v1, v2] 25) = W1 at *
  have HR := Lib.hid (row3 R0.out)
  have Hs : Hid ((W1.drew.cell? ⟨W.heap.size, 0, none⟩ = some v0 ∧ W1.drew.cell? ⟨W.heap.size, 1, none⟩ = some v1 ∧ W1.drew.cell? ⟨W.heap.size, 2, none⟩ = some v2 ∧ Below W.heap.size W W1.drew)) := Lib.hid ⟨HR.out.1, HR.out.2.1, HR.out.2.2.1, below_dn B0.out 1⟩
  refine wp_region_held_drew (S := fun u => (u.cell? ⟨W.heap.size, 0, none⟩ = some v0 ∧ u.cell? ⟨W.heap.size, 1, none⟩ = some v1 ∧ u.cell? ⟨W.heap.size, 2, none⟩ = some v2 ∧ Below W.heap.size W u)) (by kernel_rfl) Hs.out (fun hHeld => ?_)
  refine wpAnyH_take (i := 0) (oi := { dst := some 7, op := _, type := _, pos := _, after := _, guard := _ }) (v := ?v1_0) rfl (by kernel_rfl) (by kernel_rfl) (by kernel_rfl) (fun _ _ _ h => h) (Or.inl ⟨by rfl, ?hy1_0⟩) hHeld ?_
  case hy1_0 => (intro w hSw; (try dsimp only at hSw); go_simp; try with_reducible rfl)
  simp only [Act.put, List.setIfInBounds_toArray, List.set_cons_zero, List.set_cons_succ]
  refine wpAnyH_take (i := 1) (oi := { dst := some 8, op := _, type := _, pos := _, after := _, guard := _ }) (v := ?v1_1) rfl (by kernel_rfl) (by kernel_rfl) (by kernel_rfl) (fun _ _ _ h => h) (Or.inl ⟨by rfl, ?hy1_1⟩) hHeld ?_
  case hy1_1 => (intro w hSw; (try dsimp only at hSw); go_simp; try with_reducible rfl)
  simp only [Act.put, List.setIfInBounds_toArray, List.set_cons_zero, List.set_cons_succ]
  refine wpAnyH_take (i := 2) (oi := { dst := some 9, op := _, type := _, pos := _, after := _, guard := _ }) (v := ?v1_2) rfl (by kernel_rfl) (by kernel_rfl) (by kernel_rfl) (fun _ _ _ h => h) (Or.inl ⟨by rfl, ?hy1_2⟩) hHeld ?_
  case hy1_2 => (intro w hSw; (try dsimp only at hSw); go_simp; try with_reducible rfl)
  simp only [Act.put, List.setIfInBounds_toArray, List.set_cons_zero, List.set_cons_succ]
  refine wpAnyH_take (i := 4) (oi := { dst := some 11, op := _, type := _, pos := _, after := _, guard := _ }) (v := ?v1_4) rfl (by kernel_rfl) (by kernel_rfl) (by kernel_rfl) (fun _ _ _ h => h) (Or.inl ⟨by rfl, ?hy1_4⟩) hHeld ?_
  case hy1_4 => (intro w hSw; (try dsimp only at hSw); go_simp; try with_reducible rfl)
  simp only [Act.put, List.setIfInBounds_toArray, List.set_cons_zero, List.set_cons_succ]
  refine wpAnyH_take (i := 5) (oi := { dst := some 12, op := _, type := _, pos := _, after := _, guard := _ }) (v := ?v1_5) rfl (by kernel_rfl) (by kernel_rfl) (by kernel_rfl) (fun _ _ _ h => h) (Or.inl ⟨by rfl, ?hy1_5⟩) hHeld ?_
  case hy1_5 => (intro w hSw; (try dsimp only at hSw); go_simp; try with_reducible rfl)
  simp only [Act.put, List.setIfInBounds_toArray, List.set_cons_zero, List.set_cons_succ]
  refine wpAnyH_take (i := 7) (oi := { dst := some 14, op := _, type := _, pos := _, after := _, guard := _ }) (v := ?v1_7) rfl (by kernel_rfl) (by kernel_rfl) (by kernel_rfl) (fun _ _ _ h => h) (Or.inl ⟨by rfl, ?hy1_7⟩) hHeld ?_
  case hy1_7 => (intro w hSw; (try dsimp only at hSw); go_simp; try with_reducible rfl)
  simp only [Act.put, List.setIfInBounds_toArray, List.set_cons_zero, List.set_cons_succ]
  refine wpAnyH_ready (rs := [3]) (by kernel_rfl) (by simp) ?_
  refine AllReadyH.cons (o := { dst := some 10, op := _, type := _, pos := _, after := _, guard := _ }) rfl (fun K hK => ?_) AllReadyH.nil
  go_simp
  go_at_call 28
  refine (QS.out _ hHeld.2.2.2).mono ?_
  rintro e1 w1 ⟨vS, rfl, hv1, hb1⟩
  have hs1 : (w1.cell? ⟨W.heap.size, 0, none⟩ = some v0 ∧ w1.cell? ⟨W.heap.size, 1, none⟩ = some v1 ∧ w1.cell? ⟨W.heap.size, 2, none⟩ = some v2 ∧ Below W.heap.size W w1) := ⟨cell_below hHeld.1 hb1, cell_below hHeld.2.1 hb1, cell_below hHeld.2.2.1 hb1, below_on hHeld.2.2.2 hb1⟩
  refine hK.out _ _ hs1 (fun hHeld => ?_)
  clear hK K
  refine wpAnyH_ready (rs := [6]) (by kernel_rfl) (by simp) ?_
  refine AllReadyH.cons (o := { dst := some 13, op := _, type := _, pos := _, after := _, guard := _ }) rfl (fun K hK => ?_) AllReadyH.nil
  go_simp
  go_at_call 29
  refine (QD.out _ hHeld.2.2.2).mono ?_
  rintro e2 w2 ⟨vD, rfl, hv2, hb2⟩
  have hs2 : (w2.cell? ⟨W.heap.size, 0, none⟩ = some v0 ∧ w2.cell? ⟨W.heap.size, 1, none⟩ = some v1 ∧ w2.cell? ⟨W.heap.size, 2, none⟩ = some v2 ∧ Below W.heap.size W w2) := ⟨cell_below hHeld.1 hb2, cell_below hHeld.2.1 hb2, cell_below hHeld.2.2.1 hb2, below_on hHeld.2.2.2 hb2⟩
  refine hK.out _ _ hs2 (fun hHeld => ?_)
  clear hK K
  refine wpAnyH_ready (rs := [8]) (by kernel_rfl) (by simp) ?_
  refine AllReadyH.cons (o := { dst := some 15, op := _, type := _, pos := _, after := _, guard := _ }) rfl (fun K hK => ?_) AllReadyH.nil
  go_simp
  go_at_call 27
  refine (QI.out _ vS vD hHeld.2.2.2 (hv1.on hb2).get hv2.get).mono ?_
  rintro e3 w3 ⟨vI, rfl, hv3, hb3⟩
  have hs3 : (w3.cell? ⟨W.heap.size, 0, none⟩ = some v0 ∧ w3.cell? ⟨W.heap.size, 1, none⟩ = some v1 ∧ w3.cell? ⟨W.heap.size, 2, none⟩ = some v2 ∧ Below W.heap.size W w3) := ⟨cell_below hHeld.1 hb3, cell_below hHeld.2.1 hb3, cell_below hHeld.2.2.1 hb3, below_on hHeld.2.2.2 hb3⟩
  refine hK.out _ _ hs3 (fun hHeld => ?_)
  clear hK K
  refine wpAnyH_take (i := 9) (oi := { dst := some 6, op := _, type := _, pos := _, after := _, guard := _ }) (v := ?v1_9) rfl (by kernel_rfl) (by kernel_rfl) (by kernel_rfl) (fun _ _ _ h => h) (Or.inl ⟨by rfl, ?hy1_9⟩) hHeld ?_
  case hy1_9 => (intro w hSw; (try dsimp only at hSw); go_simp; try with_reducible rfl)
  simp only [Act.put, List.setIfInBounds_toArray, List.set_cons_zero, List.set_cons_succ]
  refine wpAnyH_done (by kernel_rfl) ?_ _
  have HV := Lib.hid hv3
  have HZ := Lib.hid hs3.2.2.2
  have HL := Lib.hid hs2.2.2.2.size
  clear hs1 hs2 hs3 hHeld
  go_wp2_with fail
  go_ret
  exact ⟨_, rfl, HV.out.lower HL.out, HZ.out⟩
theorem r19of_any (c : Cat) (y day : Int) (v : Value) (W : World) (h : CatAt W v c) (hc : catB c = true) (g : inG y = true) (hy : inR day = true) (ht : PT W) : Calls Try.prog 10 #[v, .int .i64 y, .int .i64 day] W (RetCs 39 W (cdsOf c y day)) := by
  have HS := fun u (hu : Below W.heap.size W u) => r18st_any c y v u (h.on hu) hc g (ht.on hu)
  have HD := fun u (hu : Below W.heap.size W u) => r19dy_any c y v u (h.on hu) hc g (ht.on hu)
  have HI := fun u vS vD (hu : Below W.heap.size W u) hS hD => r19in_any c y day v vS vD u (h.on hu) hc g hy hS hD
  obtain ⟨⟨vs, vf, rfl, _, _⟩, _, _, _⟩ := h
  exact r19of_0 _ _ _ _ _ _ y day W HS HD HI
end Go.Proofs.Ytnofmlkjagdklaa
