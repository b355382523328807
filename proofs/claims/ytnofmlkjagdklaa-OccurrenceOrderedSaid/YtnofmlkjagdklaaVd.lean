/- The law's own functions of stage 21: forward, count, times, listed, ordered. -/
import Derived.Test.YtnofmlkjagdklaaVc
namespace Go.Proofs.Ytnofmlkjagdklaa
open Go.RowKit

/-- A slice of integers, nil or not, as one form. -/
def SlF (v : Value) (xs : List Int) (w : World) : Prop := ∃ A cap, v = .slice A xs.length cap ∧ xs.length ≤ cap ∧ cap ≤ maxLen ∧ ∀ i, i < xs.length → ∃ g, A = some ⟨g, 0, none⟩ ∧ w.cell? ⟨g, i, none⟩ = some (.int .i64 (xs.getD i 0))
theorem SlI.sf {v : Value} {xs : List Int} {w : World} (h : SlI v xs w) : SlF v xs w := by
  rcases h with ⟨rfl, rfl⟩ | ⟨g, cap, rfl, h⟩
  · exact ⟨none, 0, rfl, Nat.le_refl _, Nat.zero_le _, fun i hi => absurd hi (by simp)⟩
  · exact ⟨_, cap, rfl, h.le, h.mx, fun i hi => ⟨g, rfl, h.cell i hi⟩⟩
theorem SlF.on {v : Value} {xs : List Int} {w w' : World} (h : SlF v xs w) (hb : Below w.heap.size w w') : SlF v xs w' := by
  obtain ⟨A, cap, e, h1, h2, h3⟩ := h
  refine ⟨A, cap, e, h1, h2, fun i hi => ?_⟩
  obtain ⟨g, hg, hc⟩ := h3 i hi
  exact ⟨g, hg, cell_below hc hb⟩
theorem SlF.dn {v : Value} {xs : List Int} {w : World} (h : SlF v xs w) (q : Nat) : SlF v xs (w.drewN q) := h
set_option maxHeartbeats 1000000 in
set_option maxRecDepth 100000 in
theorem fwd21_any (v : Value) (l : List Cd) (W : World) (hl : l.length ≤ 1000) (h : CsAt W v l) : Calls Try.prog 12 #[v] W (RetCs 32 W l) := by
  obtain ⟨i0, hi, hz0, hz1, hz2⟩ := info_parts infoCd
  obtain ⟨A, cap, rfl, h1, h2, h3⟩ := h
  have Q := Lib.hid h3
  clear h3
  go_enter Try.func12, Try.ntmps12
  go_wp2_with fail
  go_loopw [3, 4] (fun v i wr => ∃ k : Nat, k ≤ l.length ∧ i = .int .i64 k ∧ Below W.heap.size W wr ∧ CdsAt 32 W.heap.size v (l.take k) wr) (fun _ i _ => l.length - (intOf i).toNat)
  case atStart => exact ⟨0, Nat.zero_le _, rfl, Below.refl _ _, CdsAt.emp _ _ _⟩
  case round =>
    obtain ⟨k, hk, rfl, hb, hv⟩ := hrel
    have HB := Lib.hid hb
    have HV := Lib.hid hv
    clear hb hv
    by_cases hlt : k < l.length
    · obtain ⟨c, hc⟩ : ∃ c, l[k]? = some c := ⟨_, List.getElem?_eq_getElem hlt⟩
      obtain ⟨b, p, hA, hit⟩ := Q.out k c hc
      subst hA
      have hmap := Lib.hid (take_succ_cd hc)
      have hle : (l.take k).length = k := by rw [List.length_take]; omega
      have hit0 := hit
      obtain ⟨q0, q1, q2, q3⟩ := hit.on HB.out
      have hsz := Lib.hid HB.out.size
      obtain ⟨c1, c2, c3, c4⟩ := c
      have hbW : b < W.heap.size := hit0.lt
      clear hit hit0 hc
      have hszv : W.heap.size ≤ wr.heap.size := hsz.out
      have HVk : Hid (wr.ownsRow W.heap.size 32 4 u3 k (flat4 (l.take k))) := Lib.hid (by have := HV.out; rwa [CdsAt, hle] at this)
      have ag : u3.ownBlock ≠ some b := fun e => absurd (World.ownsRow.lt HV.out b e).1 (by omega)
      go_wp2_with fail
      go_region_held3 (fun w' => w'.cell? ⟨b, p + k * 4, none⟩ = some (.int .i64 c1) ∧ w'.cell? ⟨b, p + k * 4 + 1, none⟩ = some (.int .i64 c2) ∧ w'.cell? ⟨b, p + k * 4 + 2, none⟩ = some (.int .i64 c3) ∧ w'.cell? ⟨b, p + k * 4 + 3, none⟩ = some (.string c4))
        (first
          | go_keep
          | (go_split_ands
             refine ⟨?_, ?_, ?_, ?_⟩
             · (rw [hgrow.cell_far _ (by simp; omega) (Ne.symm ag)]; assumption)
             · (rw [hgrow.cell_far _ (by simp; omega) (Ne.symm ag)]; assumption)
             · (rw [hgrow.cell_far _ (by simp; omega) (Ne.symm ag)]; assumption)
             · (rw [hgrow.cell_far _ (by simp; omega) (Ne.symm ag)]; assumption)))
        ((refine step_append_lies _ (by rfl) _ _ _ (by rfl) W.heap.size 32 i0 _ 4 40 Try.underlying37 hi hz0 hz1 hz2 rfl (by omega) u3 k (flat4 (l.take k)) (by rfl) ((World.ownsRow.kept HVk.out (grown_of_below ((Below.refl _ _).alloc (Nat.le_refl _) _) none) (by cases hv : u3.ownBlock <;> simp)).drew)
            ⟨wr.heap.size, 0, none⟩ 1 1 [.int .i64 c1, .int .i64 c2, .int .i64 c3, .string c4] (by rfl) (by rfl) (World.news_of_block (cs := #[.int .i64 c1, .int .i64 c2, .int .i64 c3, .string c4]) (t := 32) (fr := (0, 0)) (heap_alloc_new wr _)) (by simp [Value.oneCell'])
            (by omega) (by unfold maxLen; omega) (by omega) (by have := hsz.out; simp; omega) (wr.heap.size + 1) (by simp) ?_; intro gg cap2 w1 hown1 hgrow hat hlt2))
      have hb2 := (below_dn (HB.out.alloc hsz.out (Obj.cells #[.int .i64 c1, .int .i64 c2, .int .i64 c3, .string c4] 32)) 1).grown hgrow (by have := hsz.out; simp; omega) (fun k e => (World.ownsRow.lt HV.out k e).1)
      have HB2 := Lib.hid hb2
      have HV2 : Hid (CdsAt 32 W.heap.size _ (l.take k ++ [⟨c1, c2, c3, c4⟩]) w1) := Lib.hid (by rw [CdsAt, List.length_append, flat4_app, hle]; exact hown1)
      clear hb2 hown1 hgrow hat
      go_wp2_with fail
      go_roundw
      case rel => exact ⟨k + 1, by omega, by go_num, HB2.out, by rw [hmap.out]; exact HV2.out⟩
      case measure => simp [intOf]; omega
    · obtain rfl : k = l.length := by omega
      go_wp2_with fail
      go_ret
      exact ⟨_, rfl, by have := HV.out; rwa [List.take_length] at this, HB.out⟩

/-! count -/
theorem take_cnt {xs : List Int} {j : Nat} (h : j < xs.length) (k : Int) : (xs.take (j + 1)).count k = (xs.take j).count k + if xs.getD j 0 = k then 1 else 0 := by
  rw [List.take_add_one, List.getElem?_eq_getElem h, List.getD_eq_getElem?_getD, List.getElem?_eq_getElem h, List.count_append]
  congr 1
  show List.count k [xs[j]] = _
  rw [List.count_singleton]
  show (if xs[j] == k then 1 else 0) = if xs[j] = k then 1 else 0
  by_cases e : xs[j] = k
  · rw [if_pos e, if_pos (beq_iff_eq.2 e)]
  · rw [if_neg e, if_neg (fun q => e (beq_iff_eq.1 q))]
set_option maxRecDepth 100000 in
theorem cnt21_any (v : Value) (xs : List Int) (k : Int) (w : World) (h : SlF v xs w) : Calls Try.prog 36 #[v, .int .i64 k] w fun e w' => e = .returned (.int .i64 (xs.count k)) ∧ w = w' := by
  obtain ⟨A, cap, rfl, h1, h2, h3⟩ := h
  have Q := Lib.hid h3
  unfold maxLen at h2
  clear h3
  go_enter Try.func36, Try.ntmps36
  go_wp2_with fail
  go_loop [5, 6] (fun nv jv => ∃ j n : Nat, j ≤ xs.length ∧ jv = .int .i64 j ∧ nv = .int .i64 n ∧ n ≤ j ∧ Hid (n = (xs.take j).count k)) (fun _ jv => xs.length - (intOf jv).toNat)
  case atStart => exact ⟨0, 0, Nat.zero_le _, rfl, rfl, Nat.le_refl _, Lib.hid rfl⟩
  case round =>
    obtain ⟨j, n, hj, rfl, rfl, hnj, hn⟩ := hrel
    by_cases hlt : j < xs.length
    · obtain ⟨g, rfl, cx⟩ := Q.out j hlt
      have ht := take_cnt hlt k
      rw [← hn.out] at ht
      have HT := Lib.hid ht
      clear ht
      generalize xs.getD j 0 = q at *
      by_cases hq : q = k
      · have D : (q == k) = true := beq_iff_eq.2 hq
        have E := Lib.hid (show n + 1 = (xs.take (j + 1)).count k by rw [HT.out, if_pos hq])
        clear hq HT
        go_wp2_with fail
        go_round
        case rel => exact ⟨j + 1, n + 1, by omega, by go_num, by go_num, by omega, E⟩
        case measure => simp [intOf]; omega
      · have D : (q == k) = false := beq_eq_false_iff_ne.2 hq
        have E := Lib.hid (show n = (xs.take (j + 1)).count k by rw [HT.out, if_neg hq]; rfl)
        clear hq HT
        go_wp2_with fail
        go_round
        case rel => exact ⟨j + 1, n, by omega, by go_num, rfl, by omega, E⟩
        case measure => simp [intOf]; omega
    · obtain rfl : j = xs.length := by omega
      have E := hn.out
      rw [List.take_length] at E
      have EH := Lib.hid E
      clear E
      go_wp2_with fail
      go_ret
      exact ⟨by rw [EH.out]; rfl, rfl⟩
/-! times, listed -/
/-- A result of package occurrence as it comes. -/
abbrev rsq (p : Cd) (a b c : Value) : Value := .agg #[.int .i64 p.k, .int .i64 p.i, .int .i64 p.r, .string p.id, a, b, c]
set_option maxHeartbeats 1000000 in
set_option maxRecDepth 100000 in
theorem tms21_any (p : Cd) (a b c : Value) (xs ys zs : List Int) (k : Int) (W : World) (ha : SlF a xs W) (hb : SlF b ys W) (hc : SlF c zs W) (l1 : xs.length ≤ 1000) (l2 : ys.length ≤ 1000) (l3 : zs.length ≤ 1000) :
    Calls Try.prog 19 #[rsq p a b c, .int .i64 k] W fun e w' => e = .returned (.int .i64 ((xs.count k : Int) + ys.count k + zs.count k)) ∧ Below W.heap.size W w' := by
  have HA := Lib.hid (fun u (hu : Below W.heap.size W u) => cnt21_any a xs k u (ha.on hu))
  have HB := Lib.hid (fun u (hu : Below W.heap.size W u) => cnt21_any b ys k u (hb.on hu))
  have HC := Lib.hid (fun u (hu : Below W.heap.size W u) => cnt21_any c zs k u (hc.on hu))
  have b1 := List.count_le_length (a := k) (l := xs)
  have b2 := List.count_le_length (a := k) (l := ys)
  have b3 := List.count_le_length (a := k) (l := zs)
  obtain ⟨Aa, ca, rfl, _⟩ := ha
  obtain ⟨Ab, cb, rfl, _⟩ := hb
  obtain ⟨Ac, cc, rfl, _⟩ := hc
  obtain ⟨p0, p1, p2, p3⟩ := p
  generalize xs.count k = n1 at *
  generalize ys.count k = n2 at *
  generalize zs.count k = n3 at *
  have B0 := Lib.hid ((Below.refl W.heap.size W).alloc (Nat.le_refl _) (.cells #[.int .i64 p0, .int .i64 p1, .int .i64 p2, .string p3, .slice Aa xs.length ca, .slice Ab ys.length cb, .slice Ac zs.length cc] 35))
  have R0 := Lib.hid (heap_alloc_new W (.cells #[.int .i64 p0, .int .i64 p1, .int .i64 p2, .string p3, .slice Aa xs.length ca, .slice Ab ys.length cb, .slice Ac zs.length cc] 35))
  obtain ⟨t0, t1, t2, t3, t4, t5, t6, f0, f1, f2, f3, f4, f5, f6, tz⟩ := row7 R0.out
  go_enter Try.func19, Try.ntmps19
  go_wp2_with fail
  generalize hW1 : W.alloc (.cells #[.int .i64 p0, .int .i64 p1, .int .i64 p2, .string p3, .slice Aa xs.length ca, .slice Ab ys.length cb, .slice Ac zs.length cc] 35) = W1 at *
  have w12 : IntKind.i64.wrap ((n1 : Int) + n2) = n1 + n2 := by rw [IntKind.wrap_i64]; omega
  have w123 : IntKind.i64.wrap ((n1 : Int) + n2 + n3) = n1 + n2 + n3 := by rw [IntKind.wrap_i64]; omega
  have Hs : Hid (W1.drew.cell? ⟨W.heap.size, 4, none⟩ = some (.slice Aa xs.length ca) ∧ W1.drew.cell? ⟨W.heap.size, 5, none⟩ = some (.slice Ab ys.length cb) ∧ W1.drew.cell? ⟨W.heap.size, 6, none⟩ = some (.slice Ac zs.length cc) ∧ Below W.heap.size W W1.drew) := Lib.hid ⟨t4, t5, t6, below_dn B0.out 1⟩
  refine wp_region_held_drew (S := fun u => (u.cell? ⟨W.heap.size, 4, none⟩ = some (.slice Aa xs.length ca) ∧ u.cell? ⟨W.heap.size, 5, none⟩ = some (.slice Ab ys.length cb) ∧ u.cell? ⟨W.heap.size, 6, none⟩ = some (.slice Ac zs.length cc) ∧ Below W.heap.size W u)) (by kernel_rfl) Hs.out (fun hHeld => ?_)
  refine wpAnyH_take (i := 0) (oi := { dst := some 5, op := _, type := _, pos := _, after := _, guard := _ }) (v := ?v1_0) rfl (by kernel_rfl) (by kernel_rfl) (by kernel_rfl) (fun _ _ _ h => h) (Or.inl ⟨by rfl, ?hy1_0⟩) hHeld ?_
  case hy1_0 => (intro w hSw; (try dsimp only at hSw); go_simp; try with_reducible rfl)
  simp only [Act.put, List.setIfInBounds_toArray, List.set_cons_zero, List.set_cons_succ]
  refine wpAnyH_take (i := 1) (oi := { dst := some 6, op := _, type := _, pos := _, after := _, guard := _ }) (v := ?v1_1) rfl (by kernel_rfl) (by kernel_rfl) (by kernel_rfl) (fun _ _ _ h => h) (Or.inl ⟨by rfl, ?hy1_1⟩) hHeld ?_
  case hy1_1 => (intro w hSw; (try dsimp only at hSw); go_simp; try with_reducible rfl)
  simp only [Act.put, List.setIfInBounds_toArray, List.set_cons_zero, List.set_cons_succ]
  refine wpAnyH_take (i := 2) (oi := { dst := some 7, op := _, type := _, pos := _, after := _, guard := _ }) (v := ?v1_2) rfl (by kernel_rfl) (by kernel_rfl) (by kernel_rfl) (fun _ _ _ h => h) (Or.inl ⟨by rfl, ?hy1_2⟩) hHeld ?_
  case hy1_2 => (intro w hSw; (try dsimp only at hSw); go_simp; try with_reducible rfl)
  simp only [Act.put, List.setIfInBounds_toArray, List.set_cons_zero, List.set_cons_succ]
  refine wpAnyH_take (i := 4) (oi := { dst := some 9, op := _, type := _, pos := _, after := _, guard := _ }) (v := ?v1_4) rfl (by kernel_rfl) (by kernel_rfl) (by kernel_rfl) (fun _ _ _ h => h) (Or.inl ⟨by rfl, ?hy1_4⟩) hHeld ?_
  case hy1_4 => (intro w hSw; (try dsimp only at hSw); go_simp; try with_reducible rfl)
  simp only [Act.put, List.setIfInBounds_toArray, List.set_cons_zero, List.set_cons_succ]
  refine wpAnyH_take (i := 5) (oi := { dst := some 10, op := _, type := _, pos := _, after := _, guard := _ }) (v := ?v1_5) rfl (by kernel_rfl) (by kernel_rfl) (by kernel_rfl) (fun _ _ _ h => h) (Or.inl ⟨by rfl, ?hy1_5⟩) hHeld ?_
  case hy1_5 => (intro w hSw; (try dsimp only at hSw); go_simp; try with_reducible rfl)
  simp only [Act.put, List.setIfInBounds_toArray, List.set_cons_zero, List.set_cons_succ]
  refine wpAnyH_take (i := 6) (oi := { dst := some 11, op := _, type := _, pos := _, after := _, guard := _ }) (v := ?v1_6) rfl (by kernel_rfl) (by kernel_rfl) (by kernel_rfl) (fun _ _ _ h => h) (Or.inl ⟨by rfl, ?hy1_6⟩) hHeld ?_
  case hy1_6 => (intro w hSw; (try dsimp only at hSw); go_simp; try with_reducible rfl)
  simp only [Act.put, List.setIfInBounds_toArray, List.set_cons_zero, List.set_cons_succ]
  refine wpAnyH_take (i := 9) (oi := { dst := some 14, op := _, type := _, pos := _, after := _, guard := _ }) (v := ?v1_9) rfl (by kernel_rfl) (by kernel_rfl) (by kernel_rfl) (fun _ _ _ h => h) (Or.inl ⟨by rfl, ?hy1_9⟩) hHeld ?_
  case hy1_9 => (intro w hSw; (try dsimp only at hSw); go_simp; try with_reducible rfl)
  simp only [Act.put, List.setIfInBounds_toArray, List.set_cons_zero, List.set_cons_succ]
  refine wpAnyH_take (i := 10) (oi := { dst := some 15, op := _, type := _, pos := _, after := _, guard := _ }) (v := ?v1_10) rfl (by kernel_rfl) (by kernel_rfl) (by kernel_rfl) (fun _ _ _ h => h) (Or.inl ⟨by rfl, ?hy1_10⟩) hHeld ?_
  case hy1_10 => (intro w hSw; (try dsimp only at hSw); go_simp; try with_reducible rfl)
  simp only [Act.put, List.setIfInBounds_toArray, List.set_cons_zero, List.set_cons_succ]
  refine wpAnyH_take (i := 11) (oi := { dst := some 16, op := _, type := _, pos := _, after := _, guard := _ }) (v := ?v1_11) rfl (by kernel_rfl) (by kernel_rfl) (by kernel_rfl) (fun _ _ _ h => h) (Or.inl ⟨by rfl, ?hy1_11⟩) hHeld ?_
  case hy1_11 => (intro w hSw; (try dsimp only at hSw); go_simp; try with_reducible rfl)
  simp only [Act.put, List.setIfInBounds_toArray, List.set_cons_zero, List.set_cons_succ]
  refine wpAnyH_ready (rs := [3]) (by kernel_rfl) (by simp) ?_
  refine AllReadyH.cons (o := { dst := some 8, op := _, type := _, pos := _, after := _, guard := _ }) rfl (fun K hK => ?_) AllReadyH.nil
  go_simp
  go_at_call 36
  refine (HA.out _ hHeld.2.2.2).mono ?_
  rintro e1 w1 ⟨rfl, rfl⟩
  refine hK.out _ _ hHeld (fun hHeld => ?_)
  clear hK K
  refine wpAnyH_ready (rs := [7]) (by kernel_rfl) (by simp) ?_
  refine AllReadyH.cons (o := { dst := some 12, op := _, type := _, pos := _, after := _, guard := _ }) rfl (fun K hK => ?_) AllReadyH.nil
  go_simp
  go_at_call 36
  refine (HB.out _ hHeld.2.2.2).mono ?_
  rintro e1 w1 ⟨rfl, rfl⟩
  refine hK.out _ _ hHeld (fun hHeld => ?_)
  clear hK K
  refine wpAnyH_take (i := 8) (oi := { dst := some 13, op := _, type := _, pos := _, after := _, guard := _ }) (v := ?v1_8) rfl (by kernel_rfl) (by kernel_rfl) (by kernel_rfl) (fun _ _ _ h => h) (Or.inl ⟨by rfl, ?hy1_8⟩) hHeld ?_
  case hy1_8 => (intro w hSw; (try dsimp only at hSw); go_simp; try with_reducible rfl)
  simp only [Act.put, List.setIfInBounds_toArray, List.set_cons_zero, List.set_cons_succ]
  refine wpAnyH_ready (rs := [12]) (by kernel_rfl) (by simp) ?_
  refine AllReadyH.cons (o := { dst := some 17, op := _, type := _, pos := _, after := _, guard := _ }) rfl (fun K hK => ?_) AllReadyH.nil
  go_simp
  go_at_call 36
  refine (HC.out _ hHeld.2.2.2).mono ?_
  rintro e1 w1 ⟨rfl, rfl⟩
  refine hK.out _ _ hHeld (fun hHeld => ?_)
  clear hK K
  refine wpAnyH_take (i := 13) (oi := { dst := some 18, op := _, type := _, pos := _, after := _, guard := _ }) (v := ?v1_13) rfl (by kernel_rfl) (by kernel_rfl) (by kernel_rfl) (fun _ _ _ h => h) (Or.inl ⟨by rfl, ?hy1_13⟩) hHeld ?_
  case hy1_13 => (intro w hSw; (try dsimp only at hSw); go_simp; try with_reducible rfl)
  simp only [Act.put, List.setIfInBounds_toArray, List.set_cons_zero, List.set_cons_succ]
  refine wpAnyH_take (i := 14) (oi := { dst := some 4, op := _, type := _, pos := _, after := _, guard := _ }) (v := ?v1_14) rfl (by kernel_rfl) (by kernel_rfl) (by kernel_rfl) (fun _ _ _ h => h) (Or.inl ⟨by rfl, ?hy1_14⟩) hHeld ?_
  case hy1_14 => (intro w hSw; (try dsimp only at hSw); go_simp; try with_reducible rfl)
  simp only [Act.put, List.setIfInBounds_toArray, List.set_cons_zero, List.set_cons_succ]
  refine wpAnyH_done (by kernel_rfl) ?_ _
  have HZ := Lib.hid hHeld.2.2.2
  clear hHeld Hs
  go_wp2_with fail
  go_ret
  exact ⟨rfl, HZ.out⟩
/-! listed -/
set_option maxHeartbeats 1000000 in
set_option maxRecDepth 100000 in
theorem lst21_0 (v0 v1 : Value) (b2 o2 : Nat) (n c2 : Nat) (p : Cd) (a b c : Value) (xs ys zs : List Int) (i : Nat) (t : Itm) (W : World) (hi : i < n) (hit : ItmAt W b2 (o2 + i * 9) t) (hbl : b2 < W.heap.size)
    (ha : SlF a xs W) (hb : SlF b ys W) (hc : SlF c zs W) (ht : t.y = 1 ∨ t.y = 2 ∨ t.y = 3) :
    Calls Try.prog 20 #[.agg #[v0, v1, .slice (some ⟨b2, o2, none⟩) n c2], rsq p a b c, .int .i64 i] W fun e w' => e = .returned (.bool (decide ((if t.y = 1 then zs.count (i : Int) else if t.y = 2 then xs.count (i : Int) else ys.count (i : Int)) = 1))) ∧ Below W.heap.size W w' := by
  have HA := Lib.hid (fun u (hu : Below W.heap.size W u) => cnt21_any a xs i u (ha.on hu))
  have HB := Lib.hid (fun u (hu : Below W.heap.size W u) => cnt21_any b ys i u (hb.on hu))
  have HC := Lib.hid (fun u (hu : Below W.heap.size W u) => cnt21_any c zs i u (hc.on hu))
  obtain ⟨Aa, ca, rfl, _⟩ := ha
  obtain ⟨Ab, cb, rfl, _⟩ := hb
  obtain ⟨Ac, cc, rfl, _⟩ := hc
  obtain ⟨p0, p1, p2, p3⟩ := p
  have hn : i < n := hi
  generalize xs.count (i : Int) = n1 at *
  generalize ys.count (i : Int) = n2 at *
  generalize zs.count (i : Int) = n3 at *
  have B0 := Lib.hid (((Below.refl W.heap.size W).alloc (Nat.le_refl _) (.cells #[v0, v1, .slice (some ⟨b2, o2, none⟩) n c2] 25)).alloc (by simp) (.cells #[.int .i64 p0, .int .i64 p1, .int .i64 p2, .string p3, .slice Aa xs.length ca, .slice Ab ys.length cb, .slice Ac zs.length cc] 35))
  have HI := Lib.hid (hit.on B0.out hbl)
  obtain ⟨id, x, yy, a1, a2, a3, a4, a5, a6⟩ := t
  obtain ⟨q0, q1, q2, -, -, -, -, -, -⟩ := HI.out.nine
  clear hit hi
  dsimp only at ht
  dsimp only
  rcases ht with rfl | rfl | rfl
  · have e : decide ((if (1 : Int) = 1 then n3 else if (1 : Int) = 2 then n1 else n2) = 1) = ((n3 : Int) == 1) := by
      rw [if_pos rfl, Bool.eq_iff_iff, decide_eq_true_iff, beq_iff_eq]; omega
    rw [e]
    clear e
    go_enter Try.func20, Try.ntmps20
    go_wp2_with fail
    refine (HC.out _ B0.out).mono ?_
    rintro e1 w1 ⟨rfl, rfl⟩
    go_wp2_with fail
    go_ret
    exact ⟨rfl, B0.out⟩
  · have e : decide ((if (2 : Int) = 1 then n3 else if (2 : Int) = 2 then n1 else n2) = 1) = ((n1 : Int) == 1) := by
      rw [if_neg (by decide), if_pos rfl, Bool.eq_iff_iff, decide_eq_true_iff, beq_iff_eq]; omega
    rw [e]
    clear e
    go_enter Try.func20, Try.ntmps20
    go_wp2_with fail
    refine (HA.out _ B0.out).mono ?_
    rintro e1 w1 ⟨rfl, rfl⟩
    go_wp2_with fail
    go_ret
    exact ⟨rfl, B0.out⟩
  · have e : decide ((if (3 : Int) = 1 then n3 else if (3 : Int) = 2 then n1 else n2) = 1) = ((n2 : Int) == 1) := by
      rw [if_neg (by decide), if_neg (by decide), Bool.eq_iff_iff, decide_eq_true_iff, beq_iff_eq]; omega
    rw [e]
    clear e
    go_enter Try.func20, Try.ntmps20
    go_wp2_with fail
    refine (HB.out _ B0.out).mono ?_
    rintro e1 w1 ⟨rfl, rfl⟩
    go_wp2_with fail
    go_ret
    exact ⟨rfl, B0.out⟩
/-! ordered -/
/-- Feasts in the order of precedence. -/
def OrdL (fs : List Itm) (xs : List Int) : Prop := (∀ i, i < xs.length → ∃ n : Nat, xs.getD i 0 = n ∧ n < fs.length) ∧ ∀ i, i + 1 < xs.length → (fs.getD (xs.getD i 0).toNat zo).x < (fs.getD (xs.getD (i + 1) 0).toNat zo).x ∨ ((fs.getD (xs.getD i 0).toNat zo).x = (fs.getD (xs.getD (i + 1) 0).toNat zo).x ∧ xs.getD i 0 < xs.getD (i + 1) 0)
set_option maxHeartbeats 2000000 in
set_option maxRecDepth 100000 in
theorem ord21_0 (v0 v1 : Value) (A2 : Option Addr) (fs : List Itm) (c2 : Nat) (v : Value) (xs : List Int) (W : World) (h : SlF v xs W) (ho : OrdL fs xs)
    (H2 : ∀ (i : Nat) (t : Itm), fs[i]? = some t → ∃ b o, A2 = some ⟨b, o, none⟩ ∧ b < W.heap.size ∧ ItmAt W b (o + i * 9) t) :
    Calls Try.prog 22 #[.agg #[v0, v1, .slice A2 fs.length c2], v] W fun e w' => e = .returned (.bool true) ∧ Below W.heap.size W w' := by
  obtain ⟨A, cap, rfl, h1, h2, h3⟩ := h
  have B0 := Lib.hid ((Below.refl W.heap.size W).alloc (Nat.le_refl _) (.cells #[v0, v1, .slice A2 fs.length c2] 25))
  have R0 := Lib.hid (heap_alloc_new W (.cells #[v0, v1, .slice A2 fs.length c2] 25))
  have Q := Lib.hid (fun i hi => by obtain ⟨g, hg, hc⟩ := h3 i hi; exact (⟨g, hg, cell_below hc B0.out⟩ : ∃ g, A = some ⟨g, 0, none⟩ ∧ (W.alloc (.cells #[v0, v1, .slice A2 fs.length c2] 25)).cell? ⟨g, i, none⟩ = some (.int .i64 (xs.getD i 0))))
  have Q2 := Lib.hid (fun i t hi => by obtain ⟨b, o, e1, e2, e3⟩ := H2 i t hi; exact (⟨b, o, e1, Nat.lt_of_lt_of_le e2 B0.out.size, e3.on B0.out e2⟩ : ∃ b o, A2 = some ⟨b, o, none⟩ ∧ b < (W.alloc (.cells #[v0, v1, .slice A2 fs.length c2] 25)).heap.size ∧ ItmAt (W.alloc (.cells #[v0, v1, .slice A2 fs.length c2] 25)) b (o + i * 9) t))
  have HO := Lib.hid ho
  unfold maxLen at h2
  clear h3 H2 ho
  go_enter Try.func22, Try.ntmps22
  go_wp2_with fail
  generalize hW1 : W.alloc (.cells #[v0, v1, .slice A2 fs.length c2] 25) = W1 at *
  go_loopw [5] (fun jv wr => ∃ j : Nat, j ≤ xs.length ∧ jv = .int .i64 j ∧ Below W1.heap.size W1 wr) (fun jv _ => xs.length - (intOf jv).toNat)
  case atStart => exact ⟨0, Nat.zero_le _, rfl, Below.refl _ _⟩
  case round =>
    obtain ⟨j, hj, rfl, hb⟩ := hrel
    have HB := Lib.hid hb
    clear hb
    obtain ⟨r0, r1, r2, -, -, -, rz⟩ := row3 (row_on R0.out HB.out)
    by_cases hlt : j < xs.length
    · obtain ⟨n, hxn, hnl⟩ := HO.out.1 j hlt
      obtain ⟨g, rfl, cx⟩ := Q.out j hlt
      have cxw := cell_below cx HB.out
      rw [hxn] at cxw
      obtain ⟨t, ht⟩ : ∃ t, fs[n]? = some t := ⟨_, List.getElem?_eq_getElem hnl⟩
      obtain ⟨b2, o2, hA2, hbl, hit⟩ := Q2.out n t ht
      subst hA2
      have HI := Lib.hid (hit.on HB.out hbl)
      have htd : (fs.getD n zo).x = t.x := by rw [List.getD_eq_getElem?_getD, ht]; rfl
      cases j with
      | zero =>
        clear cx hit ht htd HI
        have d1 : decide ((n : Int) < 0) = false := decide_eq_false (by omega)
        go_wp2_with fail
        go_quiet (fail)
        go_wp2_with fail
        go_roundw
        case rel => exact ⟨0 + 1, by omega, by go_num, below_dn HB.out _⟩
        case measure => simp [intOf]; omega
      | succ j =>
        obtain ⟨m, hxm, hml⟩ := HO.out.1 j (by omega)
        obtain ⟨g', e, cy⟩ := Q.out j (by omega)
        obtain rfl : g = g' := by simpa using e
        have cyw := cell_below cy HB.out
        rw [hxm] at cyw
        obtain ⟨u, hu⟩ : ∃ u, fs[m]? = some u := ⟨_, List.getElem?_eq_getElem hml⟩
        obtain ⟨b3, o3, e2, hbl3, hit3⟩ := Q2.out m u hu
        obtain ⟨rfl, rfl⟩ : b2 = b3 ∧ o2 = o3 := by simpa using e2
        have HI3 := Lib.hid (hit3.on HB.out hbl)
        have hud : (fs.getD m zo).x = u.x := by rw [List.getD_eq_getElem?_getD, hu]; rfl
        have hor := HO.out.2 j hlt
        rw [hxm, hxn, Int.toNat_natCast, Int.toNat_natCast, htd, hud] at hor
        obtain ⟨id, x, yy, a1, a2, a3, a4, a5, a6⟩ := t
        obtain ⟨id', x', yy', a1', a2', a3', a4', a5', a6'⟩ := u
        obtain ⟨-, s1, -, -, -, -, -, -, -⟩ := HI.out.nine
        obtain ⟨-, s1', -, -, -, -, -, -, -⟩ := HI3.out.nine
        dsimp only at hor
        clear cx cy hit hit3 ht hu htd hud HI HI3 e e2
        have d1 : decide ((n : Int) < 0) = false := decide_eq_false (by omega)
        have wj : IntKind.i64.wrap (((j + 1 : Nat) : Int) - 1) = (j : Int) := by rw [IntKind.wrap_i64]; omega
        rcases hor with hor | ⟨rfl, hor⟩
        · have d2 : decide (x < x') = false := decide_eq_false (by omega)
          have d3 : (x' == x) = false := beq_eq_false_iff_ne.2 (by omega)
          clear hor
          go_wp2_with fail
          go_quiet (fail)
          go_wp2_with fail
          go_quiet (fail)
          go_wp2_with fail
          go_quiet (fail)
          go_wp2_with fail
          go_quiet (fail)
          go_wp2_with fail
          go_roundw
          case rel => exact ⟨j + 1 + 1, by omega, by go_num, below_dn HB.out _⟩
          case measure => simp [intOf]; omega
        · have d4 : decide ((n : Int) ≤ (m : Int)) = false := decide_eq_false (by omega)
          have d5 : ¬ n ≤ m := by omega
          clear hor
          go_wp2_with fail
          go_quiet (fail)
          go_wp2_with fail
          go_quiet (fail)
          go_wp2_with fail
          go_quiet (fail)
          go_wp2_with fail
          go_quiet (fail)
          go_wp2_with fail
          go_roundw
          case rel => exact ⟨j + 1 + 1, by omega, by go_num, below_dn HB.out _⟩
          case measure => simp [intOf]; omega
    · obtain rfl : j = xs.length := by omega
      go_wp2_with fail
      go_ret
      exact ⟨rfl, below_on B0.out HB.out⟩
end Go.Proofs.Ytnofmlkjagdklaa
