/- Proved: for every byte c and every date d of three 64-bit integers, the law CivilConvert of package computuslaw05 (a date that is converted to the other calendar and back is the same date, the same day and the same day of the week) returns true, and what was in memory is as it was. Condition: the tables of months and groups read as the program's text lays them (the card ties them). -/
import Derived.Test.YtdnglkccdmlplaaDoorCq
import Derived.Test.YtdnglkccdmlplaaDoorVy
import Derived.WalkKit
import Derived.ProofKit
import Derived.OpenShut
import Derived.ShutString
import Derived.Lib.SmallJoins
import Derived.LaidMore
import Derived.Stop.Joined
import Derived.SevenTiedAt
import Derived.Test.YtdnglkccdmlplaaDoorCards
import Derived.Test.YtdnglkccdmlplaaDoorTie
namespace Go.Proofs.YtdnglkccdmlplaaDoor.civilConvert
open Go.ChangeShapes Go.WideShapes Go.ChangeAt Go.RowKit Go.Joins
open Go.ChangeMaps (open_string shut_string)
set_option linter.unusedVariables false      -- a walk need not use every fact

/-- There and back. -/
theorem cv_back {a b y m d : Int} (ha : okC a = true) (hb : okC b = true) (h : vE y m d a b = 0) :
    vE (vY y m d a b) (vM y m d a b) (vD y m d a b) b a = 0 ∧ vY (vY y m d a b) (vM y m d a b) (vD y m d a b) b a = y ∧ vM (vY y m d a b) (vM y m d a b) (vD y m d a b) b a = m ∧ vD (vY y m d a b) (vM y m d a b) (vD y m d a b) b a = d ∧
    tE a y m d = 0 ∧ tE b (vY y m d a b) (vM y m d a b) (vD y m d a b) = 0 ∧ tN b (vY y m d a b) (vM y m d a b) (vD y m d a b) = tN a y m d := by
  have h0 := h
  unfold vE at h
  rw [if_pos hb] at h
  split at h
  · rename_i t0
    obtain ⟨_, hv, hn⟩ := tE_zero t0
    obtain ⟨v1, v2⟩ := fE_in h
    have e1 : vY y m d a b = fY b (tN a y m d) := by unfold vY; rw [if_pos h0]
    have e2 : vM y m d a b = fM b (tN a y m d) := by unfold vM; rw [if_pos h0]
    have e3 : vD y m d a b = fD b (tN a y m d) := by unfold vD; rw [if_pos h0]
    rw [e1, e2, e3]
    obtain ⟨t1, t2⟩ := tE_at hb v1
    have t3 := t2.trans v2
    obtain ⟨f0, f1, f2, f3⟩ := fE_at ha hv hn.symm
    have g0 : vE (fY b (tN a y m d)) (fM b (tN a y m d)) (fD b (tN a y m d)) b a = 0 := by unfold vE; rw [if_pos ha, if_pos t1, t3, f0]
    refine ⟨g0, ?_, ?_, ?_, t0, t1, t3⟩
    · unfold vY; rw [if_pos g0, t3, f1]
    · unfold vM; rw [if_pos g0, t3, f2]
    · unfold vD; rw [if_pos g0, t3, f3]
  · rename_i t0; exact absurd h t0
theorem kfacts {u : Int} (hu : 0 ≤ u) (hu2 : u ≤ 255) : okC (1 + u % 2) = true ∧ okC (3 - (1 + u % 2)) = true := by
  exact ⟨okC_iff.2 (by omega), okC_iff.2 (by omega)⟩
theorem walk_err (u y m d p q r k : Int) (hu : 0 ≤ u) (hu2 : u ≤ 255)
    (H1 : ∀ w, CTab w → Calls Tryd.prog 13 #[dtv y m d, .int .i64 (1 + u % 2), .int .i64 (3 - (1 + u % 2))] w fun e w' => e = .returned (datv p q r k) ∧ Below w.heap.size w w')
    (hk : (k != 0) = true)
    (W : World) (ht : CTab W) :
    Calls Tryd.prog 4 #[.int .u8 u, dtv y m d] W fun e w' => e = .returned (.bool true) ∧ Below W.heap.size W w' := by
  have S0 := Lib.hid (St.start ht)
  clear ht
  go_enter Tryd.func4, Tryd.ntmps4
  go_wp2_with fail
  refine (c5awake_any _ (S0.out.al _).t).mono ?_
  rintro e w1 ⟨rfl, hb1⟩
  have S1 := Lib.hid ((S0.out.al _).on hb1)
  have RD1 := Lib.hid (row_on (heap_alloc_new _ _) hb1)
  obtain ⟨cD0, cD1, cD2, gD0, gD1, gD2, zD⟩ := row3 RD1.out
  clear hb1
  go_wp2_with fail
  refine (H1 _ S1.out.t).mono ?_
  rintro e w2 ⟨rfl, hb2⟩
  have S2 := Lib.hid (S1.out.on hb2)
  have RD2 := Lib.hid (row_on RD1.out hb2)
  clear RD1
  clear cD0 cD1 cD2 gD0 gD1 gD2 zD
  obtain ⟨cD0, cD1, cD2, gD0, gD1, gD2, zD⟩ := row3 RD2.out
  clear hb2
  have nDX := Nat.ne_of_lt zD
  have nXD := (Nat.ne_of_lt zD).symm
  go_wp2_with fail
  go_ret
  exact ⟨rfl, (S2.out.al _).b⟩
theorem walk_ok (u y m d p q r n s : Int) (hu : 0 ≤ u) (hu2 : u ≤ 255)
    (H1 : ∀ w, CTab w → Calls Tryd.prog 13 #[dtv y m d, .int .i64 (1 + u % 2), .int .i64 (3 - (1 + u % 2))] w fun e w' => e = .returned (datv p q r 0) ∧ Below w.heap.size w w')
    (H2 : ∀ w, CTab w → Calls Tryd.prog 13 #[dtv p q r, .int .i64 (3 - (1 + u % 2)), .int .i64 (1 + u % 2)] w fun e w' => e = .returned (datv y m d 0) ∧ Below w.heap.size w w')
    (H3 : ∀ w, CTab w → Calls Tryd.prog 9 #[.int .i64 (1 + u % 2), dtv y m d] w fun e w' => e = .returned (numv n 0) ∧ Below w.heap.size w w')
    (H4 : ∀ w, CTab w → Calls Tryd.prog 9 #[.int .i64 (3 - (1 + u % 2)), dtv p q r] w fun e w' => e = .returned (numv n 0) ∧ Below w.heap.size w w')
    (H5 : ∀ w, CTab w → Calls Tryd.prog 23 #[.int .i64 (1 + u % 2), dtv y m d] w fun e w' => e = .returned (numv s 0) ∧ Below w.heap.size w w')
    (H6 : ∀ w, CTab w → Calls Tryd.prog 23 #[.int .i64 (3 - (1 + u % 2)), dtv p q r] w fun e w' => e = .returned (numv s 0) ∧ Below w.heap.size w w')
    (W : World) (ht : CTab W) :
    Calls Tryd.prog 4 #[.int .u8 u, dtv y m d] W fun e w' => e = .returned (.bool true) ∧ Below W.heap.size W w' := by
  have S0 := Lib.hid (St.start ht)
  clear ht
  go_enter Tryd.func4, Tryd.ntmps4
  go_wp2_with fail
  refine (c5awake_any _ (S0.out.al _).t).mono ?_
  rintro e w1 ⟨rfl, hb1⟩
  have S1 := Lib.hid ((S0.out.al _).on hb1)
  have RD1 := Lib.hid (row_on (heap_alloc_new _ _) hb1)
  obtain ⟨cD0, cD1, cD2, gD0, gD1, gD2, zD⟩ := row3 RD1.out
  clear hb1
  go_wp2_with fail
  refine (H1 _ S1.out.t).mono ?_
  rintro e w2 ⟨rfl, hb2⟩
  have S2 := Lib.hid (S1.out.on hb2)
  have RD2 := Lib.hid (row_on RD1.out hb2)
  clear RD1
  clear cD0 cD1 cD2 gD0 gD1 gD2 zD
  obtain ⟨cD0, cD1, cD2, gD0, gD1, gD2, zD⟩ := row3 RD2.out
  clear hb2
  have nDX := Nat.ne_of_lt zD
  have nXD := (Nat.ne_of_lt zD).symm
  go_wp2_with fail
  refine (H2 _ (S2.out.al _).t).mono ?_
  rintro e w3 ⟨rfl, hb3⟩
  have S3 := Lib.hid ((S2.out.al _).on hb3)
  have RD3 := Lib.hid (row_on (row_al RD2.out _) hb3)
  have RX3 := Lib.hid (row_on (heap_alloc_new _ _) hb3)
  clear RD2
  clear cD0 cD1 cD2 gD0 gD1 gD2 zD
  obtain ⟨cD0, cD1, cD2, gD0, gD1, gD2, zD⟩ := row3 RD3.out
  obtain ⟨cX0, cX1, cX2, gX0, gX1, gX2, zX⟩ := row3 RX3.out
  clear hb3
  have nDY := Nat.ne_of_lt zD
  have nYD := (Nat.ne_of_lt zD).symm
  have nXY := Nat.ne_of_lt zX
  have nYX := (Nat.ne_of_lt zX).symm
  go_wp2_with fail
  refine (H3 _ (S3.out.al _).t).mono ?_
  rintro e w4 ⟨rfl, hb4⟩
  have S4 := Lib.hid ((S3.out.al _).on hb4)
  have RD4 := Lib.hid (row_on (row_al RD3.out _) hb4)
  have RX4 := Lib.hid (row_on (row_al RX3.out _) hb4)
  have RY4 := Lib.hid (row_on (heap_alloc_new _ _) hb4)
  clear RD3 RX3
  clear cD0 cD1 cD2 gD0 gD1 gD2 zD
  obtain ⟨cD0, cD1, cD2, gD0, gD1, gD2, zD⟩ := row3 RD4.out
  clear cX0 cX1 cX2 gX0 gX1 gX2 zX
  obtain ⟨cX0, cX1, cX2, gX0, gX1, gX2, zX⟩ := row3 RX4.out
  obtain ⟨cY0, cY1, cY2, gY0, gY1, gY2, zY⟩ := row3 RY4.out
  clear hb4
  go_wp2_with fail
  refine (H4 _ S4.out.t).mono ?_
  rintro e w5 ⟨rfl, hb5⟩
  have S5 := Lib.hid (S4.out.on hb5)
  have RD5 := Lib.hid (row_on RD4.out hb5)
  have RX5 := Lib.hid (row_on RX4.out hb5)
  have RY5 := Lib.hid (row_on RY4.out hb5)
  clear RD4 RX4 RY4
  clear cD0 cD1 cD2 gD0 gD1 gD2 zD
  obtain ⟨cD0, cD1, cD2, gD0, gD1, gD2, zD⟩ := row3 RD5.out
  clear cX0 cX1 cX2 gX0 gX1 gX2 zX
  obtain ⟨cX0, cX1, cX2, gX0, gX1, gX2, zX⟩ := row3 RX5.out
  clear cY0 cY1 cY2 gY0 gY1 gY2 zY
  obtain ⟨cY0, cY1, cY2, gY0, gY1, gY2, zY⟩ := row3 RY5.out
  clear hb5
  go_wp2_with fail
  refine (H5 _ S5.out.t).mono ?_
  rintro e w6 ⟨rfl, hb6⟩
  have S6 := Lib.hid (S5.out.on hb6)
  have RD6 := Lib.hid (row_on RD5.out hb6)
  have RX6 := Lib.hid (row_on RX5.out hb6)
  have RY6 := Lib.hid (row_on RY5.out hb6)
  clear RD5 RX5 RY5
  clear cD0 cD1 cD2 gD0 gD1 gD2 zD
  obtain ⟨cD0, cD1, cD2, gD0, gD1, gD2, zD⟩ := row3 RD6.out
  clear cX0 cX1 cX2 gX0 gX1 gX2 zX
  obtain ⟨cX0, cX1, cX2, gX0, gX1, gX2, zX⟩ := row3 RX6.out
  clear cY0 cY1 cY2 gY0 gY1 gY2 zY
  obtain ⟨cY0, cY1, cY2, gY0, gY1, gY2, zY⟩ := row3 RY6.out
  clear hb6
  go_wp2_with fail
  refine (H6 _ S6.out.t).mono ?_
  rintro e w7 ⟨rfl, hb7⟩
  have S7 := Lib.hid (S6.out.on hb7)
  have RD7 := Lib.hid (row_on RD6.out hb7)
  have RX7 := Lib.hid (row_on RX6.out hb7)
  have RY7 := Lib.hid (row_on RY6.out hb7)
  clear RD6 RX6 RY6
  clear cD0 cD1 cD2 gD0 gD1 gD2 zD
  obtain ⟨cD0, cD1, cD2, gD0, gD1, gD2, zD⟩ := row3 RD7.out
  clear cX0 cX1 cX2 gX0 gX1 gX2 zX
  obtain ⟨cX0, cX1, cX2, gX0, gX1, gX2, zX⟩ := row3 RX7.out
  clear cY0 cY1 cY2 gY0 gY1 gY2 zY
  obtain ⟨cY0, cY1, cY2, gY0, gY1, gY2, zY⟩ := row3 RY7.out
  clear hb7
  go_wp2_with fail
  go_ret
  exact ⟨rfl, S7.out.b⟩
theorem walk (u y m d : Int) (w0 : (Lit.int .u8 u).wf = true) (w1 : (Lit.int .i64 y).wf = true) (w2 : (Lit.int .i64 m).wf = true) (w3 : (Lit.int .i64 d).wf = true) (W : World) (ht : CTab W) :
    Calls Tryd.prog 4 #[.int .u8 u, dtv y m d] W fun e w' => e = .returned (.bool true) ∧ Below W.heap.size W w' := by
  have hb := bounds_u8 w0
  obtain ⟨hK, hT⟩ := kfacts hb.1 hb.2
  by_cases h : vE y m d (1 + u % 2) (3 - (1 + u % 2)) = 0
  · obtain ⟨b1, b2, b3, b4, t0, t1, t2⟩ := cv_back hK hT h
    refine walk_ok u y m d (vY y m d (1 + u % 2) (3 - (1 + u % 2))) (vM y m d (1 + u % 2) (3 - (1 + u % 2))) (vD y m d (1 + u % 2) (3 - (1 + u % 2))) (tN (1 + u % 2) y m d) (tN (1 + u % 2) y m d % 7) hb.1 hb.2 (fun w ht => ?_) (fun w ht => ?_) (fun w ht => ?_) (fun w ht => ?_) (fun w ht => ?_) (fun w ht => ?_) W ht
    · have := ccv_all (1 + u % 2) y m d w ht (3 - (1 + u % 2)); rw [h] at this; exact this
    · have := ccv_all (3 - (1 + u % 2)) (vY y m d (1 + u % 2) (3 - (1 + u % 2))) (vM y m d (1 + u % 2) (3 - (1 + u % 2))) (vD y m d (1 + u % 2) (3 - (1 + u % 2))) w ht (1 + u % 2); rw [b1, b2, b3, b4] at this; exact this
    · have := ctoday_any y m d w (1 + u % 2) ht; rw [t0] at this; exact this
    · have := ctoday_any (vY y m d (1 + u % 2) (3 - (1 + u % 2))) (vM y m d (1 + u % 2) (3 - (1 + u % 2))) (vD y m d (1 + u % 2) (3 - (1 + u % 2))) w (3 - (1 + u % 2)) ht; rw [t1, t2] at this; exact this
    · have := cwd_all (1 + u % 2) y m d w ht; rw [t0, show wN (1 + u % 2) y m d = tN (1 + u % 2) y m d % 7 by unfold wN; rw [if_pos t0]] at this; exact this
    · have := cwd_all (3 - (1 + u % 2)) (vY y m d (1 + u % 2) (3 - (1 + u % 2))) (vM y m d (1 + u % 2) (3 - (1 + u % 2))) (vD y m d (1 + u % 2) (3 - (1 + u % 2))) w ht; rw [t1, show wN (3 - (1 + u % 2)) (vY y m d (1 + u % 2) (3 - (1 + u % 2))) (vM y m d (1 + u % 2) (3 - (1 + u % 2))) (vD y m d (1 + u % 2) (3 - (1 + u % 2))) = tN (1 + u % 2) y m d % 7 by unfold wN; rw [if_pos t1, t2]] at this; exact this
  · exact walk_err u y m d _ _ _ _ hb.1 hb.2 (fun w ht => ccv_all (1 + u % 2) y m d w ht (3 - (1 + u % 2))) (tE_ne h) W ht

/-! ### the row's step -/
set_option maxRecDepth 100000 in
theorem lifted (os : Os) (started : os.Started) (H : Type) (enc : TypeId × Value → H) :
    ReturnsInHanded {} Tryd.checked os 4 .any (fun w args => (Rows.civilConvertSpec.pre enc Tryd.prog Tryd.f4 [] false w args ∧ laidMetH Tryd.prog laidL w) ∧ sizedMet enc Tryd.prog Tryd.f4 (OpenSpec.ofChange Rows.civilConvertSpec) false w args)
      (Rows.civilConvertSpec.post enc Tryd.prog Tryd.f4 false true false false) := by
  refine returnsInHanded_of_change_and (C := Tryd.checked) (X := fun w _ => laidMetH Tryd.prog laidL w) (fun _ _ _ hh h => h.of_heap hh) own started (by kernel_rfl) Tryd.func4
    (ChangeSpec.witness_shaped (enc := enc) (C := Tryd.checked) (os := os) (X := fun w _ => laidMetH Tryd.prog laidL w) false (World.doorLaid Tryd.prog 400 os) #[.int .u8 0, .agg #[.int .i64 0, .int .i64 0, .int .i64 0]] 8 rfl (World.shaped_of_RefB (by kernel_rfl) (by kernel_rfl)) (by kernel_rfl) (by kernel_rfl) (by kernel_rfl) (door_met os _)) ?_
  intro W base args ds gs before hval0 hW _ _ hL _
  have hval : ∀ (j : Nat) t v, Tryd.f4.params[j]? = some t → args[j]? = some v → Value.okWide Tryd.prog W .any base t v := hval0
  have hW' := hW
  obtain ⟨p, q, hA0, hV, rfl, hfz, hnd⟩ := hW
  have hA : DataW.TrodAll enc Tryd.prog W 0 (fun _ => true) true Tryd.f4.params.toList args.toList ds p := hA0
  rw [Tryd.params4] at hA hval
  obtain ⟨v0, vs0, d0, ds0, p0, q0, hargs, rfl, rfl, h0, r0⟩ := trodAll_cons hA
  obtain ⟨v1, vs1, d1, ds1, p1, q1, rfl, rfl, rfl, h1, r1⟩ := trodAll_cons r0
  obtain ⟨rfl, rfl, rfl⟩ := trodAll_nil r1
  obtain rfl : args = #[v0, v1] := by cases args; simp_all
  obtain ⟨rfl, rfl⟩ := trodVars_none hV
  obtain ⟨a0, rfl, rfl, rfl, w0⟩ := open_int Tryd.underlying5 (hval 0 5 v0 rfl rfl) h0
  obtain ⟨c1_0, c1_1, c1_2, y1_0, y1_1, y1_2, m1, rfl, rfl, rfl, hy1_0, hy1_1, hy1_2⟩ := open_agg3 Tryd.underlying23 (by kernel_rfl) (show Tryd.prog.cellsOf 23 = 3 by kernel_rfl) (hval 1 23 v1 rfl rfl) h1
  obtain ⟨f1_0, e1_0, rfl, w1_0⟩ := DataW.trod_int Tryd.underlying3 hy1_0
  simp at e1_0; subst e1_0
  obtain ⟨f1_1, e1_1, rfl, w1_1⟩ := DataW.trod_int Tryd.underlying3 hy1_1
  simp at e1_1; subst e1_1
  obtain ⟨f1_2, e1_2, rfl, w1_2⟩ := DataW.trod_int Tryd.underlying3 hy1_2
  simp at e1_2; subst e1_2
  clear hA0 hval0
  simp only [List.append_nil] at hW'
  have sr1 : ∀ (W' : World) (sp : Nat → Bool), DataW.Trod enc Tryd.prog W' 0 sp true 23 (.agg #[.int .i64 f1_0, .int .i64 f1_1, .int .i64 f1_2]) (.agg [.lit (.int .i64 f1_0), .lit (.int .i64 f1_1), .lit (.int .i64 f1_2)]) [] := fun W' sp =>
    shut_agg3 (y0 := (.lit (.int .i64 f1_0), [])) (y1 := (.lit (.int .i64 f1_1), [])) (y2 := (.lit (.int .i64 f1_2), [])) Tryd.underlying23 (by kernel_rfl) (show Tryd.prog.cellsOf 23 = 3 by kernel_rfl) ⟨1, by simp [DataW.trod, Tryd.underlying3, w1_0]⟩ ⟨1, by simp [DataW.trod, Tryd.underlying3, w1_1]⟩ ⟨1, by simp [DataW.trod, Tryd.underlying3, w1_2]⟩
  refine (walk a0 f1_0 f1_1 f1_2 w0 w1_0 w1_1 w1_2 W (laid_facts hL)).mono fun e W' ⟨he, bel⟩ => ?_
  subst he
  exact ⟨_, rfl, _, _, _, [], _, [], hW', trodAll_mk1 (shut_bool Tryd.underlying4 _), (trodAll_cons_mk (shut_int Tryd.underlying5 w0) (trodAll_cons_mk (sr1 _ _) trodAll_mk0)), rfl, bel.frame _, fun h => by cases h⟩

theorem over : Rows.civilConvertRow.holds Tryd.pinned (OpenSpec.ofChange Rows.civilConvertSpec) :=
  OpenClaim.holds_of_wide 4 Tryd.f4 rfl rfl rfl rfl rfl rfl rfl ⟨rfl, rfl, rfl, rfl, rfl⟩ rfl rfl rfl rfl rfl (by kernel_rfl) Tryd.func4 (by kernel_rfl)
    (of_decide_eq_true (by kernel_rfl)) (by unfold Func.isWrapper; first | (rw [if_pos (by decide +kernel)]; kernel_rfl) | (rw [if_neg (by decide +kernel)]; exact ⟨rfl, rfl⟩))
    (fun os started H enc _ => lifted os started H enc)

/-- The statement: the tied card. -/
theorem proved : Rows.CivilConvertCardSaid :=
  Claim7.holds_tied_plain_at .later [] [.data, .data, .data] true (true, "9484c15c1b8584f9bd4f7ea5aa595545c02681c034fbe158da6ebf60820e8177") false
    over (fun _ h => by cases h) (by kernel_rfl) (fun _ h => by cases h) civilConvert_row_tie rfl ⟨rfl, rfl⟩ (by kernel_rfl) rfl
    (fun f fn hf hfn => by
      obtain rfl : f = 4 := Option.some.inj ((show Tryd.prog.funcNamed "computus/computuslaw05.CivilConvert" = some 4 by kernel_rfl).symm.trans hf) |>.symm
      obtain rfl : fn = Tryd.f4 := (Option.some.inj (Tryd.func4.symm.trans hfn)).symm
      exact ⟨by kernel_rfl, fun j t ht => by
        rw [Tryd.params4] at ht
        have hm : t ∈ [5, 23] := by simpa using Array.mem_of_getElem? ht
        have hall : ([5, 23].all fun u => !Tryd.prog.wantsStandIn u) = true := by kernel_rfl
        exact (show Tryd.prog.wantsStandIn t = false by simpa using List.all_eq_true.1 hall t hm)⟩)
    (by kernel_rfl)
#print axioms proved
end Go.Proofs.YtdnglkccdmlplaaDoor.civilConvert
