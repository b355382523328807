/- The reference: numbers, anchors, policies written. -/
import Derived.Test.YtaamdimgloblpaaGreatDoorZp
namespace Go.Proofs.YtaamdimgloblpaaGreatDoor
open Go.RowKit

theorem sadd {a b : ByteArray} (h : a.size + b.size ≤ 100000000) (u : World) : (Op.stringOp .add a b).run Tryz.prog u = .ok (.string (a ++ b)) u := by
  rw [run_string_add_if, if_neg]
  omega
theorem dig_run {k : Nat} (h : k < 10) (w : World) : (Instr.slice 9 (.string ⟨#[48, 49, 50, 51, 52, 53, 54, 55, 56, 57]⟩) (some (.int .i64 (k : Int))) (some (.int .i64 ((k : Int) + 1))) none).run Tryz.prog w = .ok (.string (dgS.extract k (k + 1))) w :=
  ext_run dgS k (k + 1) (by omega) (by have : dgS.size = 10 := rfl; omega) w
theorem dcF_le (f n : Nat) : (dcF f n).size ≤ f := by
  induction f generalizing n with
  | zero => exact Nat.le_refl _
  | succ f ih =>
    have hs : dgS.size = 10 := rfl
    unfold dcF
    split
    · rw [ByteArray.size_extract]; omega
    · have := ih (n / 10)
      rw [ByteArray.size_append, ByteArray.size_extract]; omega
set_option maxRecDepth 100000 in
theorem r26dig : ∀ (f m : Nat), 1 ≤ f → (m : Int) < pw f → m < 10000000000 → f ≤ 20 → ∀ w : World, Calls Tryz.prog 45 #[.int .i64 (m : Int)] w fun e w' => e = .returned (.string (dcF f m)) ∧ w = w' := by
  intro f
  induction f with
  | zero => intro m h; omega
  | succ f ih =>
    intro m _ hm hb hf w
    obtain ⟨r, hr⟩ : ∃ r, r = m % 10 := ⟨_, rfl⟩
    obtain ⟨q, hq⟩ : ∃ q, q = m / 10 := ⟨_, rfl⟩
    have q1 : (m : Int).tmod 10 = (r : Int) := by rw [Int.tmod_eq_emod_of_nonneg (by omega)]; omega
    have q2 : (m : Int).tdiv 10 = (q : Int) := by rw [Int.tdiv_eq_ediv_of_nonneg (by omega)]; omega
    have w1 : IntKind.i64.wrap (r : Int) = (r : Int) := by rw [IntKind.wrap_i64]; omega
    have w2 : IntKind.i64.wrap ((r : Int) + 1) = (r : Int) + 1 := by rw [IntKind.wrap_i64]; omega
    have w3 : IntKind.i64.wrap (q : Int) = (q : Int) := by rw [IntKind.wrap_i64]; omega
    have hsl := fun u : World => dig_run (k := r) (by omega) u
    by_cases c : m < 10
    · have c' : (m : Int) < 10 := by omega
      have e : dcF (f + 1) m = dgS.extract r (r + 1) := by
        show (if m < 10 then _ else _) = _
        rw [if_pos c, hr, Nat.mod_eq_of_lt c]
      rw [e]
      generalize dgS.extract r (r + 1) = t at *
      clear e ih hr hq
      go_enter Tryz.func45, Tryz.ntmps45
      go_wp2_with fail
      go_ret
      exact ⟨rfl, rfl⟩
    · have c' : ¬ (m : Int) < 10 := by omega
      have e : dcF (f + 1) m = dcF f q ++ dgS.extract r (r + 1) := by
        show (if m < 10 then _ else _) = _
        rw [if_neg c, hr, hq]
      have epw : pw (f + 1) = 10 * pw f := rfl
      have f1 : 1 ≤ f := by
        rcases Nat.eq_zero_or_pos f with q | q
        · subst q
          have : pw 0 = 1 := rfl
          omega
        · exact q
      have HI := Lib.hid (ih q f1 (by omega) (by omega) (by omega))
      have hadd := fun u : World => sadd (a := dcF f q) (b := dgS.extract r (r + 1)) (by have h1 := dcF_le f q; have hs : dgS.size = 10 := rfl; rw [ByteArray.size_extract]; omega) u
      rw [e]
      clear e ih hr hq
      generalize dgS.extract r (r + 1) = t at *
      generalize dcF f q = t2 at *
      go_enter Tryz.func45, Tryz.ntmps45
      go_wp2_with (go_at_call 45; refine (HI.out _).mono ?_; rintro e w' ⟨rfl, rfl⟩)
      go_ret
      exact ⟨rfl, rfl⟩
theorem r26tnu {n : Int} (h : inT n = true) (w : World) : Calls Tryz.prog 26 #[.int .i64 n] w fun e w' => e = .returned (.string (itB n)) ∧ w = w' := by
  obtain ⟨h1, h2⟩ := inT_iff.1 h
  have p10 : pw 10 = 10000000000 := rfl
  by_cases c : n < 0
  · obtain ⟨m, rfl⟩ : ∃ m : Nat, n = -(m : Int) := ⟨n.natAbs, by omega⟩
    have HD := Lib.hid (r26dig 10 m (by omega) (by omega) (by omega) (by omega))
    have hw : IntKind.i64.wrap (m : Int) = (m : Int) := by rw [IntKind.wrap_i64]; omega
    have e : itB (-(m : Int)) = ⟨#[45]⟩ ++ dcF 10 m := itB_neg (by omega)
    have hadd := fun u : World => sadd (a := ⟨#[45]⟩) (b := dcF 10 m) (by have h1 := dcF_le 10 m; have : (ByteArray.mk #[45]).size = 1 := rfl; omega) u
    rw [e]
    clear e
    generalize dcF 10 m = t at *
    go_enter Tryz.func26, Tryz.ntmps26
    go_wp2_with (go_at_call 45; refine (HD.out _).mono ?_; rintro e w' ⟨rfl, rfl⟩)
    go_ret
    exact ⟨rfl, rfl⟩
  · obtain ⟨m, rfl⟩ : ∃ m : Nat, n = (m : Int) := ⟨n.natAbs, by omega⟩
    have HD := Lib.hid (r26dig 10 m (by omega) (by omega) (by omega) (by omega))
    rw [itB_pos]
    generalize dcF 10 m = t at *
    go_enter Tryz.func26, Tryz.ntmps26
    go_wp2_with (go_at_call 45; refine (HD.out _).mono ?_; rintro e w' ⟨rfl, rfl⟩)
    go_ret
    exact ⟨rfl, rfl⟩
theorem r26pol (y : Int) (w : World) : Calls Tryz.prog 28 #[.int .i64 y] w fun e w' => e = .returned (.string (txP y)) ∧ w = w' := by
  by_cases c1 : y = 1
  · subst c1
    go_enter Tryz.func28, Tryz.ntmps28
    go_wp2_with fail
    go_ret
    exact ⟨rfl, rfl⟩
  · by_cases c2 : y = 2
    · subst c2
      go_enter Tryz.func28, Tryz.ntmps28
      go_wp2_with fail
      go_ret
      exact ⟨rfl, rfl⟩
    · have b1 : (y == 1) = false := beq_eq_false_iff_ne.2 c1
      have b2 : (y == 2) = false := beq_eq_false_iff_ne.2 c2
      have e : txP y = ⟨#[111, 109, 105, 116]⟩ := by unfold txP; rw [if_neg c1, if_neg c2]
      rw [e]
      go_enter Tryz.func28, Tryz.ntmps28
      go_wp2_with fail
      go_ret
      exact ⟨rfl, rfl⟩
structure RA (w0 : World) (k m d o w c : Int) (u : World) : Prop where
  row : u.heap[w0.heap.size]? = some (.cells #[.int .i64 k, .int .i64 m, .int .i64 d, .int .i64 o, .int .i64 w, .int .i64 c] 36 (0, 0))
  bl : Below w0.heap.size w0 u
theorem RA.on {w0 : World} {k m d o w c : Int} {u u' : World} (h : RA w0 k m d o w c u) (hb : Below u.heap.size u u') : RA w0 k m d o w c u' := ⟨row_kept h.row hb, below_on h.bl hb⟩
theorem RA.cells {w0 : World} {k m d o w c : Int} {u : World} (h : RA w0 k m d o w c u) : u.cell? ⟨w0.heap.size, 0, none⟩ = some (.int .i64 k) ∧ u.cell? ⟨w0.heap.size, 1, none⟩ = some (.int .i64 m) ∧ u.cell? ⟨w0.heap.size, 2, none⟩ = some (.int .i64 d) ∧ u.cell? ⟨w0.heap.size, 3, none⟩ = some (.int .i64 o) ∧ u.cell? ⟨w0.heap.size, 4, none⟩ = some (.int .i64 w) ∧ u.cell? ⟨w0.heap.size, 5, none⟩ = some (.int .i64 c) := six_row h.row
theorem litsz {l : Array UInt8} : (ByteArray.mk l).size = l.size := rfl
set_option maxRecDepth 100000 in
set_option maxHeartbeats 1000000 in
theorem r26an_1 {k m d o x c : Int} (w : World) (hk : k = 1) (hm : inT m = true) (hd : inT d = true) : Calls Tryz.prog 27 #[.agg #[.int .i64 k, .int .i64 m, .int .i64 d, .int .i64 o, .int .i64 x, .int .i64 c]] w fun e w' => e = .returned (.string (jn [wFix, itB m, itB d])) ∧ Below w.heap.size w w' := by
  obtain ⟨s0, s1, s2, s3, s4, s5⟩ := six_row (heap_alloc_new w (.cells #[.int .i64 k, .int .i64 m, .int .i64 d, .int .i64 o, .int .i64 x, .int .i64 c] 36))
  have Hm := Lib.hid (fun u : World => r26tnu hm u)
  have zm := itB_size hm
  have Hd := Lib.hid (fun u : World => r26tnu hd u)
  have zd := itB_size hd
  have eqm : ∃ t, t = itB m := ⟨_, rfl⟩
  obtain ⟨tm, em⟩ := eqm
  rw [← em] at Hm zm
  have eqd : ∃ t, t = itB d := ⟨_, rfl⟩
  obtain ⟨td, ed⟩ := eqd
  rw [← ed] at Hd zd
  have a1 := fun u : World => sadd (a := (⟨#[102, 105, 120, 101, 100, 32]⟩ : ByteArray)) (b := tm) (by simp only [litsz]; simp; omega) u
  have a2 := fun u : World => sadd (a := ((⟨#[102, 105, 120, 101, 100, 32]⟩ : ByteArray) ++ tm)) (b := (⟨#[32]⟩ : ByteArray)) (by simp only [ByteArray.size_append, litsz]; simp; omega) u
  have a3 := fun u : World => sadd (a := (((⟨#[102, 105, 120, 101, 100, 32]⟩ : ByteArray) ++ tm) ++ (⟨#[32]⟩ : ByteArray))) (b := td) (by simp only [ByteArray.size_append, litsz]; simp; omega) u
  have eF : jn [wFix, itB m, itB d] = ((((⟨#[102, 105, 120, 101, 100, 32]⟩ : ByteArray) ++ tm) ++ (⟨#[32]⟩ : ByteArray)) ++ td) := by
    have e0 : (⟨#[102, 105, 120, 101, 100, 32]⟩ : ByteArray) = wFix ++ wSp := rfl
    have e1 : (⟨#[32]⟩ : ByteArray) = wSp := rfl
    rw [e0, e1]
    simp only [jn, ByteArray.append_assoc, em, ed]
  rw [eF]
  clear eF
  clear em
  clear ed
  subst hk
  have S0 := Lib.hid ((show RA w 1 m d o x c (w.alloc (.cells #[.int .i64 1, .int .i64 m, .int .i64 d, .int .i64 o, .int .i64 x, .int .i64 c] 36)) from ⟨heap_alloc_new _ _, al1 w _⟩).on (below_dn (Below.refl _ _) 1))
  go_enter Tryz.func27, Tryz.ntmps27
  go_wp2_with fail
  clear s0 s1 s2 s3 s4 s5
  refine wp_region_held_drew (S := fun u => RA w 1 m d o x c u) (by kernel_rfl) S0.out (fun hHeld => ?_)
  refine wpAnyH_take (i := 0) (oi := { dst := some 6, op := _, type := _, pos := _, after := _, guard := _ }) (v := ?v1_0) rfl (by kernel_rfl) (by kernel_rfl) (by kernel_rfl) (fun _ _ _ h => h) (Or.inl ⟨by rfl, ?hy1_0⟩) hHeld ?_
  case hy1_0 => (intro w hSw; obtain ⟨s0, s1, s2, s3, s4, s5⟩ := (RA.cells hSw); go_simp; try with_reducible rfl)
  simp only [Act.put, List.setIfInBounds_toArray, List.set_cons_zero, List.set_cons_succ]
  refine wpAnyH_take (i := 1) (oi := { dst := some 7, op := _, type := _, pos := _, after := _, guard := _ }) (v := ?v1_1) rfl (by kernel_rfl) (by kernel_rfl) (by kernel_rfl) (fun _ _ _ h => h) (Or.inl ⟨by rfl, ?hy1_1⟩) hHeld ?_
  case hy1_1 => (intro w hSw; obtain ⟨s0, s1, s2, s3, s4, s5⟩ := (RA.cells hSw); go_simp; try with_reducible rfl)
  simp only [Act.put, List.setIfInBounds_toArray, List.set_cons_zero, List.set_cons_succ]
  refine wpAnyH_take (i := 5) (oi := { dst := some 11, op := _, type := _, pos := _, after := _, guard := _ }) (v := ?v1_5) rfl (by kernel_rfl) (by kernel_rfl) (by kernel_rfl) (fun _ _ _ h => h) (Or.inl ⟨by rfl, ?hy1_5⟩) hHeld ?_
  case hy1_5 => (intro w hSw; obtain ⟨s0, s1, s2, s3, s4, s5⟩ := (RA.cells hSw); go_simp; try with_reducible rfl)
  simp only [Act.put, List.setIfInBounds_toArray, List.set_cons_zero, List.set_cons_succ]
  refine wpAnyH_take (i := 6) (oi := { dst := some 12, op := _, type := _, pos := _, after := _, guard := _ }) (v := ?v1_6) rfl (by kernel_rfl) (by kernel_rfl) (by kernel_rfl) (fun _ _ _ h => h) (Or.inl ⟨by rfl, ?hy1_6⟩) hHeld ?_
  case hy1_6 => (intro w hSw; obtain ⟨s0, s1, s2, s3, s4, s5⟩ := (RA.cells hSw); go_simp; try with_reducible rfl)
  simp only [Act.put, List.setIfInBounds_toArray, List.set_cons_zero, List.set_cons_succ]
  refine wpAnyH_ready (rs := [2]) (by kernel_rfl) (by simp) ?_
  refine AllReadyH.cons (o := { dst := some 8, op := _, type := _, pos := _, after := _, guard := _ }) rfl (fun K hK => ?_) AllReadyH.nil
  go_simp
  go_at_call 26
  refine (Hm.out _).mono ?_
  rintro ee2 u2 ⟨rfl, rfl⟩
  refine hK.out _ _ S0.out (fun hHeld => ?_)
  clear hK K
  refine wpAnyH_take (i := 3) (oi := { dst := some 9, op := _, type := _, pos := _, after := _, guard := _ }) (v := ?v1_3) rfl (by kernel_rfl) (by kernel_rfl) (by kernel_rfl) (fun _ _ _ h => h) (Or.inl ⟨by rfl, ?hy1_3⟩) hHeld ?_
  case hy1_3 => (intro w hSw; obtain ⟨s0, s1, s2, s3, s4, s5⟩ := (RA.cells hSw); go_simp; try with_reducible rfl)
  simp only [Act.put, List.setIfInBounds_toArray, List.set_cons_zero, List.set_cons_succ]
  refine wpAnyH_take (i := 4) (oi := { dst := some 10, op := _, type := _, pos := _, after := _, guard := _ }) (v := ?v1_4) rfl (by kernel_rfl) (by kernel_rfl) (by kernel_rfl) (fun _ _ _ h => h) (Or.inl ⟨by rfl, ?hy1_4⟩) hHeld ?_
  case hy1_4 => (intro w hSw; obtain ⟨s0, s1, s2, s3, s4, s5⟩ := (RA.cells hSw); go_simp; try with_reducible rfl)
  simp only [Act.put, List.setIfInBounds_toArray, List.set_cons_zero, List.set_cons_succ]
  refine wpAnyH_ready (rs := [7]) (by kernel_rfl) (by simp) ?_
  refine AllReadyH.cons (o := { dst := some 13, op := _, type := _, pos := _, after := _, guard := _ }) rfl (fun K hK => ?_) AllReadyH.nil
  go_simp
  go_at_call 26
  refine (Hd.out _).mono ?_
  rintro ee7 u7 ⟨rfl, rfl⟩
  refine hK.out _ _ S0.out (fun hHeld => ?_)
  clear hK K
  refine wpAnyH_take (i := 8) (oi := { dst := some 14, op := _, type := _, pos := _, after := _, guard := _ }) (v := ?v1_8) rfl (by kernel_rfl) (by kernel_rfl) (by kernel_rfl) (fun _ _ _ h => h) (Or.inl ⟨by rfl, ?hy1_8⟩) hHeld ?_
  case hy1_8 => (intro w hSw; obtain ⟨s0, s1, s2, s3, s4, s5⟩ := (RA.cells hSw); go_simp; try with_reducible rfl)
  simp only [Act.put, List.setIfInBounds_toArray, List.set_cons_zero, List.set_cons_succ]
  refine wpAnyH_ready (rs := [9]) (by kernel_rfl) (by simp) ?_
  refine AllReadyH.cons (o := { dst := some 2, op := _, type := _, pos := _, after := _, guard := _ }) rfl (fun K hK => ?_) AllReadyH.nil
  go_simp
  refine hK.out _ _ S0.out (fun hHeld => ?_)
  clear hK K
  refine wpAnyH_done (by kernel_rfl) ?_ _
  go_wp2_with fail
  go_ret
  exact ⟨rfl, S0.out.bl⟩
set_option maxRecDepth 100000 in
set_option maxHeartbeats 1000000 in
theorem r26an_3 {k m d o x c : Int} (w : World) (hk : ¬ k = 1 ∧ ¬ k = 2) (hc : inT c = true) (hm : inT m = true) (hd : inT d = true) : Calls Tryz.prog 27 #[.agg #[.int .i64 k, .int .i64 m, .int .i64 d, .int .i64 o, .int .i64 x, .int .i64 c]] w fun e w' => e = .returned (.string (jn [wNth, nm x, itB c, itB m, itB d])) ∧ Below w.heap.size w w' := by
  obtain ⟨s0, s1, s2, s3, s4, s5⟩ := six_row (heap_alloc_new w (.cells #[.int .i64 k, .int .i64 m, .int .i64 d, .int .i64 o, .int .i64 x, .int .i64 c] 36))
  have Hc := Lib.hid (fun u : World => r26tnu hc u)
  have zc := itB_size hc
  have Hm := Lib.hid (fun u : World => r26tnu hm u)
  have zm := itB_size hm
  have Hd := Lib.hid (fun u : World => r26tnu hd u)
  have zd := itB_size hd
  have Hx := Lib.hid (fun u : World => rname_any x u)
  have zx := nm_size x
  have eqx : ∃ t, t = nm x := ⟨_, rfl⟩
  obtain ⟨tx, ex⟩ := eqx
  rw [← ex] at Hx zx
  have eqc : ∃ t, t = itB c := ⟨_, rfl⟩
  obtain ⟨tc, ec⟩ := eqc
  rw [← ec] at Hc zc
  have eqm : ∃ t, t = itB m := ⟨_, rfl⟩
  obtain ⟨tm, em⟩ := eqm
  rw [← em] at Hm zm
  have eqd : ∃ t, t = itB d := ⟨_, rfl⟩
  obtain ⟨td, ed⟩ := eqd
  rw [← ed] at Hd zd
  have a1 := fun u : World => sadd (a := (⟨#[110, 116, 104, 32]⟩ : ByteArray)) (b := tx) (by simp only [litsz]; simp; omega) u
  have a2 := fun u : World => sadd (a := ((⟨#[110, 116, 104, 32]⟩ : ByteArray) ++ tx)) (b := (⟨#[32]⟩ : ByteArray)) (by simp only [ByteArray.size_append, litsz]; simp; omega) u
  have a3 := fun u : World => sadd (a := (((⟨#[110, 116, 104, 32]⟩ : ByteArray) ++ tx) ++ (⟨#[32]⟩ : ByteArray))) (b := tc) (by simp only [ByteArray.size_append, litsz]; simp; omega) u
  have a4 := fun u : World => sadd (a := ((((⟨#[110, 116, 104, 32]⟩ : ByteArray) ++ tx) ++ (⟨#[32]⟩ : ByteArray)) ++ tc)) (b := (⟨#[32]⟩ : ByteArray)) (by simp only [ByteArray.size_append, litsz]; simp; omega) u
  have a5 := fun u : World => sadd (a := (((((⟨#[110, 116, 104, 32]⟩ : ByteArray) ++ tx) ++ (⟨#[32]⟩ : ByteArray)) ++ tc) ++ (⟨#[32]⟩ : ByteArray))) (b := tm) (by simp only [ByteArray.size_append, litsz]; simp; omega) u
  have a6 := fun u : World => sadd (a := ((((((⟨#[110, 116, 104, 32]⟩ : ByteArray) ++ tx) ++ (⟨#[32]⟩ : ByteArray)) ++ tc) ++ (⟨#[32]⟩ : ByteArray)) ++ tm)) (b := (⟨#[32]⟩ : ByteArray)) (by simp only [ByteArray.size_append, litsz]; simp; omega) u
  have a7 := fun u : World => sadd (a := (((((((⟨#[110, 116, 104, 32]⟩ : ByteArray) ++ tx) ++ (⟨#[32]⟩ : ByteArray)) ++ tc) ++ (⟨#[32]⟩ : ByteArray)) ++ tm) ++ (⟨#[32]⟩ : ByteArray))) (b := td) (by simp only [ByteArray.size_append, litsz]; simp; omega) u
  have eF : jn [wNth, nm x, itB c, itB m, itB d] = ((((((((⟨#[110, 116, 104, 32]⟩ : ByteArray) ++ tx) ++ (⟨#[32]⟩ : ByteArray)) ++ tc) ++ (⟨#[32]⟩ : ByteArray)) ++ tm) ++ (⟨#[32]⟩ : ByteArray)) ++ td) := by
    have e0 : (⟨#[110, 116, 104, 32]⟩ : ByteArray) = wNth ++ wSp := rfl
    have e1 : (⟨#[32]⟩ : ByteArray) = wSp := rfl
    rw [e0, e1]
    simp only [jn, ByteArray.append_assoc, ex, ec, em, ed]
  rw [eF]
  clear eF
  clear ex
  clear ec
  clear em
  clear ed
  have b1 : (k == 1) = false := beq_eq_false_iff_ne.2 hk.1
  have b2 : (k == 2) = false := beq_eq_false_iff_ne.2 hk.2
  have S0 := Lib.hid ((show RA w k m d o x c (w.alloc (.cells #[.int .i64 k, .int .i64 m, .int .i64 d, .int .i64 o, .int .i64 x, .int .i64 c] 36)) from ⟨heap_alloc_new _ _, al1 w _⟩).on (below_dn (Below.refl _ _) 1))
  go_enter Tryz.func27, Tryz.ntmps27
  go_wp2_with fail
  clear s0 s1 s2 s3 s4 s5
  refine wp_region_held_drew (S := fun u => RA w k m d o x c u) (by kernel_rfl) S0.out (fun hHeld => ?_)
  refine wpAnyH_take (i := 0) (oi := { dst := some 22, op := _, type := _, pos := _, after := _, guard := _ }) (v := ?v2_0) rfl (by kernel_rfl) (by kernel_rfl) (by kernel_rfl) (fun _ _ _ h => h) (Or.inl ⟨by rfl, ?hy2_0⟩) hHeld ?_
  case hy2_0 => (intro w hSw; obtain ⟨s0, s1, s2, s3, s4, s5⟩ := (RA.cells hSw); go_simp; try with_reducible rfl)
  simp only [Act.put, List.setIfInBounds_toArray, List.set_cons_zero, List.set_cons_succ]
  refine wpAnyH_take (i := 1) (oi := { dst := some 23, op := _, type := _, pos := _, after := _, guard := _ }) (v := ?v2_1) rfl (by kernel_rfl) (by kernel_rfl) (by kernel_rfl) (fun _ _ _ h => h) (Or.inl ⟨by rfl, ?hy2_1⟩) hHeld ?_
  case hy2_1 => (intro w hSw; obtain ⟨s0, s1, s2, s3, s4, s5⟩ := (RA.cells hSw); go_simp; try with_reducible rfl)
  simp only [Act.put, List.setIfInBounds_toArray, List.set_cons_zero, List.set_cons_succ]
  refine wpAnyH_take (i := 5) (oi := { dst := some 27, op := _, type := _, pos := _, after := _, guard := _ }) (v := ?v2_5) rfl (by kernel_rfl) (by kernel_rfl) (by kernel_rfl) (fun _ _ _ h => h) (Or.inl ⟨by rfl, ?hy2_5⟩) hHeld ?_
  case hy2_5 => (intro w hSw; obtain ⟨s0, s1, s2, s3, s4, s5⟩ := (RA.cells hSw); go_simp; try with_reducible rfl)
  simp only [Act.put, List.setIfInBounds_toArray, List.set_cons_zero, List.set_cons_succ]
  refine wpAnyH_take (i := 6) (oi := { dst := some 28, op := _, type := _, pos := _, after := _, guard := _ }) (v := ?v2_6) rfl (by kernel_rfl) (by kernel_rfl) (by kernel_rfl) (fun _ _ _ h => h) (Or.inl ⟨by rfl, ?hy2_6⟩) hHeld ?_
  case hy2_6 => (intro w hSw; obtain ⟨s0, s1, s2, s3, s4, s5⟩ := (RA.cells hSw); go_simp; try with_reducible rfl)
  simp only [Act.put, List.setIfInBounds_toArray, List.set_cons_zero, List.set_cons_succ]
  refine wpAnyH_take (i := 10) (oi := { dst := some 32, op := _, type := _, pos := _, after := _, guard := _ }) (v := ?v2_10) rfl (by kernel_rfl) (by kernel_rfl) (by kernel_rfl) (fun _ _ _ h => h) (Or.inl ⟨by rfl, ?hy2_10⟩) hHeld ?_
  case hy2_10 => (intro w hSw; obtain ⟨s0, s1, s2, s3, s4, s5⟩ := (RA.cells hSw); go_simp; try with_reducible rfl)
  simp only [Act.put, List.setIfInBounds_toArray, List.set_cons_zero, List.set_cons_succ]
  refine wpAnyH_take (i := 11) (oi := { dst := some 33, op := _, type := _, pos := _, after := _, guard := _ }) (v := ?v2_11) rfl (by kernel_rfl) (by kernel_rfl) (by kernel_rfl) (fun _ _ _ h => h) (Or.inl ⟨by rfl, ?hy2_11⟩) hHeld ?_
  case hy2_11 => (intro w hSw; obtain ⟨s0, s1, s2, s3, s4, s5⟩ := (RA.cells hSw); go_simp; try with_reducible rfl)
  simp only [Act.put, List.setIfInBounds_toArray, List.set_cons_zero, List.set_cons_succ]
  refine wpAnyH_take (i := 15) (oi := { dst := some 37, op := _, type := _, pos := _, after := _, guard := _ }) (v := ?v2_15) rfl (by kernel_rfl) (by kernel_rfl) (by kernel_rfl) (fun _ _ _ h => h) (Or.inl ⟨by rfl, ?hy2_15⟩) hHeld ?_
  case hy2_15 => (intro w hSw; obtain ⟨s0, s1, s2, s3, s4, s5⟩ := (RA.cells hSw); go_simp; try with_reducible rfl)
  simp only [Act.put, List.setIfInBounds_toArray, List.set_cons_zero, List.set_cons_succ]
  refine wpAnyH_take (i := 16) (oi := { dst := some 38, op := _, type := _, pos := _, after := _, guard := _ }) (v := ?v2_16) rfl (by kernel_rfl) (by kernel_rfl) (by kernel_rfl) (fun _ _ _ h => h) (Or.inl ⟨by rfl, ?hy2_16⟩) hHeld ?_
  case hy2_16 => (intro w hSw; obtain ⟨s0, s1, s2, s3, s4, s5⟩ := (RA.cells hSw); go_simp; try with_reducible rfl)
  simp only [Act.put, List.setIfInBounds_toArray, List.set_cons_zero, List.set_cons_succ]
  refine wpAnyH_ready (rs := [2]) (by kernel_rfl) (by simp) ?_
  refine AllReadyH.cons (o := { dst := some 24, op := _, type := _, pos := _, after := _, guard := _ }) rfl (fun K hK => ?_) AllReadyH.nil
  go_simp
  go_at_call 46
  refine (Hx.out _).mono ?_
  rintro ee2 u2 ⟨rfl, rfl⟩
  refine hK.out _ _ S0.out (fun hHeld => ?_)
  clear hK K
  refine wpAnyH_take (i := 3) (oi := { dst := some 25, op := _, type := _, pos := _, after := _, guard := _ }) (v := ?v2_3) rfl (by kernel_rfl) (by kernel_rfl) (by kernel_rfl) (fun _ _ _ h => h) (Or.inl ⟨by rfl, ?hy2_3⟩) hHeld ?_
  case hy2_3 => (intro w hSw; obtain ⟨s0, s1, s2, s3, s4, s5⟩ := (RA.cells hSw); go_simp; try with_reducible rfl)
  simp only [Act.put, List.setIfInBounds_toArray, List.set_cons_zero, List.set_cons_succ]
  refine wpAnyH_take (i := 4) (oi := { dst := some 26, op := _, type := _, pos := _, after := _, guard := _ }) (v := ?v2_4) rfl (by kernel_rfl) (by kernel_rfl) (by kernel_rfl) (fun _ _ _ h => h) (Or.inl ⟨by rfl, ?hy2_4⟩) hHeld ?_
  case hy2_4 => (intro w hSw; obtain ⟨s0, s1, s2, s3, s4, s5⟩ := (RA.cells hSw); go_simp; try with_reducible rfl)
  simp only [Act.put, List.setIfInBounds_toArray, List.set_cons_zero, List.set_cons_succ]
  refine wpAnyH_ready (rs := [7]) (by kernel_rfl) (by simp) ?_
  refine AllReadyH.cons (o := { dst := some 29, op := _, type := _, pos := _, after := _, guard := _ }) rfl (fun K hK => ?_) AllReadyH.nil
  go_simp
  go_at_call 26
  refine (Hc.out _).mono ?_
  rintro ee7 u7 ⟨rfl, rfl⟩
  refine hK.out _ _ S0.out (fun hHeld => ?_)
  clear hK K
  refine wpAnyH_take (i := 8) (oi := { dst := some 30, op := _, type := _, pos := _, after := _, guard := _ }) (v := ?v2_8) rfl (by kernel_rfl) (by kernel_rfl) (by kernel_rfl) (fun _ _ _ h => h) (Or.inl ⟨by rfl, ?hy2_8⟩) hHeld ?_
  case hy2_8 => (intro w hSw; obtain ⟨s0, s1, s2, s3, s4, s5⟩ := (RA.cells hSw); go_simp; try with_reducible rfl)
  simp only [Act.put, List.setIfInBounds_toArray, List.set_cons_zero, List.set_cons_succ]
  refine wpAnyH_take (i := 9) (oi := { dst := some 31, op := _, type := _, pos := _, after := _, guard := _ }) (v := ?v2_9) rfl (by kernel_rfl) (by kernel_rfl) (by kernel_rfl) (fun _ _ _ h => h) (Or.inl ⟨by rfl, ?hy2_9⟩) hHeld ?_
  case hy2_9 => (intro w hSw; obtain ⟨s0, s1, s2, s3, s4, s5⟩ := (RA.cells hSw); go_simp; try with_reducible rfl)
  simp only [Act.put, List.setIfInBounds_toArray, List.set_cons_zero, List.set_cons_succ]
  refine wpAnyH_ready (rs := [12]) (by kernel_rfl) (by simp) ?_
  refine AllReadyH.cons (o := { dst := some 34, op := _, type := _, pos := _, after := _, guard := _ }) rfl (fun K hK => ?_) AllReadyH.nil
  go_simp
  go_at_call 26
  refine (Hm.out _).mono ?_
  rintro ee12 u12 ⟨rfl, rfl⟩
  refine hK.out _ _ S0.out (fun hHeld => ?_)
  clear hK K
  refine wpAnyH_take (i := 13) (oi := { dst := some 35, op := _, type := _, pos := _, after := _, guard := _ }) (v := ?v2_13) rfl (by kernel_rfl) (by kernel_rfl) (by kernel_rfl) (fun _ _ _ h => h) (Or.inl ⟨by rfl, ?hy2_13⟩) hHeld ?_
  case hy2_13 => (intro w hSw; obtain ⟨s0, s1, s2, s3, s4, s5⟩ := (RA.cells hSw); go_simp; try with_reducible rfl)
  simp only [Act.put, List.setIfInBounds_toArray, List.set_cons_zero, List.set_cons_succ]
  refine wpAnyH_take (i := 14) (oi := { dst := some 36, op := _, type := _, pos := _, after := _, guard := _ }) (v := ?v2_14) rfl (by kernel_rfl) (by kernel_rfl) (by kernel_rfl) (fun _ _ _ h => h) (Or.inl ⟨by rfl, ?hy2_14⟩) hHeld ?_
  case hy2_14 => (intro w hSw; obtain ⟨s0, s1, s2, s3, s4, s5⟩ := (RA.cells hSw); go_simp; try with_reducible rfl)
  simp only [Act.put, List.setIfInBounds_toArray, List.set_cons_zero, List.set_cons_succ]
  refine wpAnyH_ready (rs := [17]) (by kernel_rfl) (by simp) ?_
  refine AllReadyH.cons (o := { dst := some 39, op := _, type := _, pos := _, after := _, guard := _ }) rfl (fun K hK => ?_) AllReadyH.nil
  go_simp
  go_at_call 26
  refine (Hd.out _).mono ?_
  rintro ee17 u17 ⟨rfl, rfl⟩
  refine hK.out _ _ S0.out (fun hHeld => ?_)
  clear hK K
  refine wpAnyH_take (i := 18) (oi := { dst := some 40, op := _, type := _, pos := _, after := _, guard := _ }) (v := ?v2_18) rfl (by kernel_rfl) (by kernel_rfl) (by kernel_rfl) (fun _ _ _ h => h) (Or.inl ⟨by rfl, ?hy2_18⟩) hHeld ?_
  case hy2_18 => (intro w hSw; obtain ⟨s0, s1, s2, s3, s4, s5⟩ := (RA.cells hSw); go_simp; try with_reducible rfl)
  simp only [Act.put, List.setIfInBounds_toArray, List.set_cons_zero, List.set_cons_succ]
  refine wpAnyH_ready (rs := [19]) (by kernel_rfl) (by simp) ?_
  refine AllReadyH.cons (o := { dst := some 2, op := _, type := _, pos := _, after := _, guard := _ }) rfl (fun K hK => ?_) AllReadyH.nil
  go_simp
  refine hK.out _ _ S0.out (fun hHeld => ?_)
  clear hK K
  refine wpAnyH_done (by kernel_rfl) ?_ _
  go_wp2_with fail
  go_ret
  exact ⟨rfl, S0.out.bl⟩
set_option maxRecDepth 100000 in
theorem r26an_2 {k m d o x c : Int} (w : World) (hk : k = 2) (ho : inT o = true) : Calls Tryz.prog 27 #[.agg #[.int .i64 k, .int .i64 m, .int .i64 d, .int .i64 o, .int .i64 x, .int .i64 c]] w fun e w' => e = .returned (.string (jn [wEas, itB o])) ∧ Below w.heap.size w w' := by
  obtain ⟨s0, s1, s2, s3, s4, s5⟩ := six_row (heap_alloc_new w (.cells #[.int .i64 k, .int .i64 m, .int .i64 d, .int .i64 o, .int .i64 x, .int .i64 c] 36))
  have Ho := Lib.hid (fun u : World => r26tnu ho u)
  have zo := itB_size ho
  have e : jn [wEas, itB o] = (⟨#[101, 97, 115, 116, 101, 114, 32]⟩ : ByteArray) ++ itB o := by
    have e0 : (⟨#[101, 97, 115, 116, 101, 114, 32]⟩ : ByteArray) = wEas ++ wSp := rfl
    rw [e0]
    simp only [jn, ByteArray.append_assoc]
  rw [e]
  clear e
  generalize itB o = t at *
  have a1 := fun u : World => sadd (a := (⟨#[101, 97, 115, 116, 101, 114, 32]⟩ : ByteArray)) (b := t) (by simp only [litsz]; simp; omega) u
  subst hk
  go_enter Tryz.func27, Tryz.ntmps27
  go_wp2_with (go_at_call 26; refine (Ho.out _).mono ?_; rintro e w' ⟨rfl, rfl⟩)
  go_ret
  exact ⟨rfl, al1 w _⟩
theorem r26anc_t {a : Anc} (w : World) (h : ancB a = true) : Calls Tryz.prog 27 #[anc26 a] w fun e w' => e = .returned (.string (txJ a)) ∧ Below w.heap.size w w' := by
  obtain ⟨hm, hd, ho, hc⟩ := ancB_in h
  unfold txJ
  by_cases c1 : a.k = 1
  · rw [if_pos c1]; exact r26an_1 w c1 hm hd
  · rw [if_neg c1]
    by_cases c2 : a.k = 2
    · rw [if_pos c2]; exact r26an_2 w c2 ho
    · rw [if_neg c2]; exact r26an_3 w ⟨c1, c2⟩ hc hm hd
end Go.Proofs.YtaamdimgloblpaaGreatDoor
