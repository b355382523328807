/- Proved: for every 64-bit integer year and for every date, the law OrthodoxMatchesReference of package computuslaw13 (Date, Gap and Delay of package orthodox answer as their references do) returns true, and what was in memory is as it was. Condition: the tables of packages julian, gregorian and label (the lengths of the months, the groups of years, the beginnings of the lunations) read as the program's text lays them (the card ties them). -/
import Derived.Test.YtnfeihbkemgecaaGreatDoorKq
import Derived.Test.YtnfeihbkemgecaaGreatDoorVy
import Derived.WalkKit
import Derived.ProofKit
import Derived.OpenShut
import Derived.ShutString
import Derived.Lib.SmallJoins
import Derived.LaidMore
import Derived.Stop.Joined
import Derived.SevenTiedAt
import Derived.Test.YtnfeihbkemgecaaGreatDoorCards
import Derived.Test.YtnfeihbkemgecaaGreatDoorTie
namespace Go.Proofs.YtnfeihbkemgecaaGreatDoor.orthodoxMatchesReference
open Go.ChangeShapes Go.WideShapes Go.ChangeAt Go.RowKit Go.Joins
open Go.ChangeMaps (open_string shut_string)
set_option linter.unusedVariables false      -- a walk need not use every fact

theorem neq_date (y m d : Int) (w : World) : (binOp .neq 23 (dtv y m d) (dtv y m d)).run Tryz.prog w = .ok (.bool false) w := by simp [go_sem]
set_option maxRecDepth 100000 in
set_option maxHeartbeats 1000000 in
theorem walk_no (y p q r a b c k s v : Int)
    (H1 : ∀ w, PT w → Calls Tryz.prog 5 #[.int .i64 y] w fun e w' => e = .returned (datv a b c k) ∧ Below w.heap.size w w')
    (H2 : ∀ w, PT w → Calls Tryz.prog 6 #[.int .i64 y] w fun e w' => e = .returned (datv a b c k) ∧ Below w.heap.size w w')
    (H3 : ∀ w, PT w → Calls Tryz.prog 7 #[dtv p q r] w fun e w' => e = .returned (numv s v) ∧ Below w.heap.size w w')
    (H4 : ∀ w, Calls Tryz.prog 8 #[dtv p q r] w fun e w' => e = .returned (numv s v) ∧ Below w.heap.size w w')
    (H5 : ∀ w, PT w → Calls Tryz.prog 9 #[.int .i64 y] w fun e w' => e = .returned (numv 0 1) ∧ Below w.heap.size w w')
    (HG : ∀ w, Calls Tryz.prog 10 #[.int .i64 y] w fun e w' => e = .returned (.bool false) ∧ w = w')
    (W : World) (ht : PT W) :
    Calls Tryz.prog 3 #[.int .i64 y, dtv p q r] W fun e w' => e = .returned (.bool true) ∧ Below W.heap.size W w' := by
  have hE := neq_date a b c
  have S0 := Lib.hid (PSt.start ht)
  clear ht
  go_enter Tryz.func3, Tryz.ntmps3
  go_wp2_with fail
  refine (c13awake_any _ (S0.out.al _).t).mono ?_
  rintro e w1 ⟨rfl, hb1⟩
  have S1 := Lib.hid ((S0.out.al _).on hb1)
  have RD1 := Lib.hid (row_on (heap_alloc_new _ _) hb1)
  obtain ⟨cD0, cD1, cD2, gD0, gD1, gD2, zD⟩ := row3 RD1.out
  clear hb1
  go_wp2_with fail
  refine (H1 _ S1.out.t).mono ?_
  rintro e w2 ⟨rfl, hb2⟩
  have S2 := Lib.hid (S1.out.on hb2)
  have RD2 := Lib.hid (row_on RD1.out hb2)
  clear RD1
  clear cD0 cD1 cD2 gD0 gD1 gD2 zD
  obtain ⟨cD0, cD1, cD2, gD0, gD1, gD2, zD⟩ := row3 RD2.out
  clear hb2
  have nDX := Nat.ne_of_lt zD
  have nXD := (Nat.ne_of_lt zD).symm
  go_wp2_with fail
  refine (H2 _ (S2.out.al _).t).mono ?_
  rintro e w3 ⟨rfl, hb3⟩
  have S3 := Lib.hid ((S2.out.al _).on hb3)
  have RD3 := Lib.hid (row_on (row_al RD2.out _) hb3)
  have RX3 := Lib.hid (row_on (heap_alloc_new _ _) hb3)
  clear RD2
  clear cD0 cD1 cD2 gD0 gD1 gD2 zD
  obtain ⟨cD0, cD1, cD2, gD0, gD1, gD2, zD⟩ := row3 RD3.out
  obtain ⟨cX0, cX1, cX2, gX0, gX1, gX2, zX⟩ := row3 RX3.out
  clear hb3
  have nDZ := Nat.ne_of_lt zD
  have nZD := (Nat.ne_of_lt zD).symm
  have nXZ := Nat.ne_of_lt zX
  have nZX := (Nat.ne_of_lt zX).symm
  go_wp2_with fail
  refine (H3 _ (S3.out.al _).t).mono ?_
  rintro e w4 ⟨rfl, hb4⟩
  have S4 := Lib.hid ((S3.out.al _).on hb4)
  have RD4 := Lib.hid (row_on (row_al RD3.out _) hb4)
  have RX4 := Lib.hid (row_on (row_al RX3.out _) hb4)
  have RZ4 := Lib.hid (row_on (heap_alloc_new _ _) hb4)
  clear RD3 RX3
  clear cD0 cD1 cD2 gD0 gD1 gD2 zD
  obtain ⟨cD0, cD1, cD2, gD0, gD1, gD2, zD⟩ := row3 RD4.out
  clear cX0 cX1 cX2 gX0 gX1 gX2 zX
  obtain ⟨cX0, cX1, cX2, gX0, gX1, gX2, zX⟩ := row3 RX4.out
  obtain ⟨cZ0, cZ1, cZ2, gZ0, gZ1, gZ2, zZ⟩ := row3 RZ4.out
  clear hb4
  go_wp2_with fail
  refine (H4 _).mono ?_
  rintro e w5 ⟨rfl, hb5⟩
  have S5 := Lib.hid (S4.out.on hb5)
  have RD5 := Lib.hid (row_on RD4.out hb5)
  have RX5 := Lib.hid (row_on RX4.out hb5)
  have RZ5 := Lib.hid (row_on RZ4.out hb5)
  clear RD4 RX4 RZ4
  clear cD0 cD1 cD2 gD0 gD1 gD2 zD
  obtain ⟨cD0, cD1, cD2, gD0, gD1, gD2, zD⟩ := row3 RD5.out
  clear cX0 cX1 cX2 gX0 gX1 gX2 zX
  obtain ⟨cX0, cX1, cX2, gX0, gX1, gX2, zX⟩ := row3 RX5.out
  clear cZ0 cZ1 cZ2 gZ0 gZ1 gZ2 zZ
  obtain ⟨cZ0, cZ1, cZ2, gZ0, gZ1, gZ2, zZ⟩ := row3 RZ5.out
  clear hb5
  go_wp2_with fail
  refine (H5 _ S5.out.t).mono ?_
  rintro e w6 ⟨rfl, hb6⟩
  have S6 := Lib.hid (S5.out.on hb6)
  have RD6 := Lib.hid (row_on RD5.out hb6)
  have RX6 := Lib.hid (row_on RX5.out hb6)
  have RZ6 := Lib.hid (row_on RZ5.out hb6)
  clear RD5 RX5 RZ5
  clear cD0 cD1 cD2 gD0 gD1 gD2 zD
  obtain ⟨cD0, cD1, cD2, gD0, gD1, gD2, zD⟩ := row3 RD6.out
  clear cX0 cX1 cX2 gX0 gX1 gX2 zX
  obtain ⟨cX0, cX1, cX2, gX0, gX1, gX2, zX⟩ := row3 RX6.out
  clear cZ0 cZ1 cZ2 gZ0 gZ1 gZ2 zZ
  obtain ⟨cZ0, cZ1, cZ2, gZ0, gZ1, gZ2, zZ⟩ := row3 RZ6.out
  clear hb6
  go_wp2_with fail
  refine (HG _).mono ?_
  rintro e wq ⟨rfl, rfl⟩
  go_wp2_with fail
  go_ret
  exact ⟨rfl, S6.out.b⟩
set_option maxRecDepth 100000 in
set_option maxHeartbeats 1000000 in
theorem walk_ok (y p q r a b c k s v n : Int)
    (H1 : ∀ w, PT w → Calls Tryz.prog 5 #[.int .i64 y] w fun e w' => e = .returned (datv a b c k) ∧ Below w.heap.size w w')
    (H2 : ∀ w, PT w → Calls Tryz.prog 6 #[.int .i64 y] w fun e w' => e = .returned (datv a b c k) ∧ Below w.heap.size w w')
    (H3 : ∀ w, PT w → Calls Tryz.prog 7 #[dtv p q r] w fun e w' => e = .returned (numv s v) ∧ Below w.heap.size w w')
    (H4 : ∀ w, Calls Tryz.prog 8 #[dtv p q r] w fun e w' => e = .returned (numv s v) ∧ Below w.heap.size w w')
    (H5 : ∀ w, PT w → Calls Tryz.prog 9 #[.int .i64 y] w fun e w' => e = .returned (numv n 0) ∧ Below w.heap.size w w')
    (HG : ∀ w, Calls Tryz.prog 10 #[.int .i64 y] w fun e w' => e = .returned (.bool true) ∧ w = w')
    (HR : ∀ w, PT w → Calls Tryz.prog 11 #[.int .i64 y] w fun e w' => e = .returned (.int .i64 n) ∧ Below w.heap.size w w')
    (W : World) (ht : PT W) :
    Calls Tryz.prog 3 #[.int .i64 y, dtv p q r] W fun e w' => e = .returned (.bool true) ∧ Below W.heap.size W w' := by
  have hE := neq_date a b c
  have S0 := Lib.hid (PSt.start ht)
  clear ht
  go_enter Tryz.func3, Tryz.ntmps3
  go_wp2_with fail
  refine (c13awake_any _ (S0.out.al _).t).mono ?_
  rintro e w1 ⟨rfl, hb1⟩
  have S1 := Lib.hid ((S0.out.al _).on hb1)
  have RD1 := Lib.hid (row_on (heap_alloc_new _ _) hb1)
  obtain ⟨cD0, cD1, cD2, gD0, gD1, gD2, zD⟩ := row3 RD1.out
  clear hb1
  go_wp2_with fail
  refine (H1 _ S1.out.t).mono ?_
  rintro e w2 ⟨rfl, hb2⟩
  have S2 := Lib.hid (S1.out.on hb2)
  have RD2 := Lib.hid (row_on RD1.out hb2)
  clear RD1
  clear cD0 cD1 cD2 gD0 gD1 gD2 zD
  obtain ⟨cD0, cD1, cD2, gD0, gD1, gD2, zD⟩ := row3 RD2.out
  clear hb2
  have nDX := Nat.ne_of_lt zD
  have nXD := (Nat.ne_of_lt zD).symm
  go_wp2_with fail
  refine (H2 _ (S2.out.al _).t).mono ?_
  rintro e w3 ⟨rfl, hb3⟩
  have S3 := Lib.hid ((S2.out.al _).on hb3)
  have RD3 := Lib.hid (row_on (row_al RD2.out _) hb3)
  have RX3 := Lib.hid (row_on (heap_alloc_new _ _) hb3)
  clear RD2
  clear cD0 cD1 cD2 gD0 gD1 gD2 zD
  obtain ⟨cD0, cD1, cD2, gD0, gD1, gD2, zD⟩ := row3 RD3.out
  obtain ⟨cX0, cX1, cX2, gX0, gX1, gX2, zX⟩ := row3 RX3.out
  clear hb3
  have nDZ := Nat.ne_of_lt zD
  have nZD := (Nat.ne_of_lt zD).symm
  have nXZ := Nat.ne_of_lt zX
  have nZX := (Nat.ne_of_lt zX).symm
  go_wp2_with fail
  refine (H3 _ (S3.out.al _).t).mono ?_
  rintro e w4 ⟨rfl, hb4⟩
  have S4 := Lib.hid ((S3.out.al _).on hb4)
  have RD4 := Lib.hid (row_on (row_al RD3.out _) hb4)
  have RX4 := Lib.hid (row_on (row_al RX3.out _) hb4)
  have RZ4 := Lib.hid (row_on (heap_alloc_new _ _) hb4)
  clear RD3 RX3
  clear cD0 cD1 cD2 gD0 gD1 gD2 zD
  obtain ⟨cD0, cD1, cD2, gD0, gD1, gD2, zD⟩ := row3 RD4.out
  clear cX0 cX1 cX2 gX0 gX1 gX2 zX
  obtain ⟨cX0, cX1, cX2, gX0, gX1, gX2, zX⟩ := row3 RX4.out
  obtain ⟨cZ0, cZ1, cZ2, gZ0, gZ1, gZ2, zZ⟩ := row3 RZ4.out
  clear hb4
  go_wp2_with fail
  refine (H4 _).mono ?_
  rintro e w5 ⟨rfl, hb5⟩
  have S5 := Lib.hid (S4.out.on hb5)
  have RD5 := Lib.hid (row_on RD4.out hb5)
  have RX5 := Lib.hid (row_on RX4.out hb5)
  have RZ5 := Lib.hid (row_on RZ4.out hb5)
  clear RD4 RX4 RZ4
  clear cD0 cD1 cD2 gD0 gD1 gD2 zD
  obtain ⟨cD0, cD1, cD2, gD0, gD1, gD2, zD⟩ := row3 RD5.out
  clear cX0 cX1 cX2 gX0 gX1 gX2 zX
  obtain ⟨cX0, cX1, cX2, gX0, gX1, gX2, zX⟩ := row3 RX5.out
  clear cZ0 cZ1 cZ2 gZ0 gZ1 gZ2 zZ
  obtain ⟨cZ0, cZ1, cZ2, gZ0, gZ1, gZ2, zZ⟩ := row3 RZ5.out
  clear hb5
  go_wp2_with fail
  refine (H5 _ S5.out.t).mono ?_
  rintro e w6 ⟨rfl, hb6⟩
  have S6 := Lib.hid (S5.out.on hb6)
  have RD6 := Lib.hid (row_on RD5.out hb6)
  have RX6 := Lib.hid (row_on RX5.out hb6)
  have RZ6 := Lib.hid (row_on RZ5.out hb6)
  clear RD5 RX5 RZ5
  clear cD0 cD1 cD2 gD0 gD1 gD2 zD
  obtain ⟨cD0, cD1, cD2, gD0, gD1, gD2, zD⟩ := row3 RD6.out
  clear cX0 cX1 cX2 gX0 gX1 gX2 zX
  obtain ⟨cX0, cX1, cX2, gX0, gX1, gX2, zX⟩ := row3 RX6.out
  clear cZ0 cZ1 cZ2 gZ0 gZ1 gZ2 zZ
  obtain ⟨cZ0, cZ1, cZ2, gZ0, gZ1, gZ2, zZ⟩ := row3 RZ6.out
  clear hb6
  go_wp2_with fail
  refine (HG _).mono ?_
  rintro e wq ⟨rfl, rfl⟩
  go_wp2_with fail
  refine (HR _ S6.out.t).mono ?_
  rintro e w7 ⟨rfl, hb7⟩
  have S7 := Lib.hid (S6.out.on hb7)
  have RD7 := Lib.hid (row_on RD6.out hb7)
  have RX7 := Lib.hid (row_on RX6.out hb7)
  have RZ7 := Lib.hid (row_on RZ6.out hb7)
  clear RD6 RX6 RZ6
  clear cD0 cD1 cD2 gD0 gD1 gD2 zD
  obtain ⟨cD0, cD1, cD2, gD0, gD1, gD2, zD⟩ := row3 RD7.out
  clear cX0 cX1 cX2 gX0 gX1 gX2 zX
  obtain ⟨cX0, cX1, cX2, gX0, gX1, gX2, zX⟩ := row3 RX7.out
  clear cZ0 cZ1 cZ2 gZ0 gZ1 gZ2 zZ
  obtain ⟨cZ0, cZ1, cZ2, gZ0, gZ1, gZ2, zZ⟩ := row3 RZ7.out
  clear hb7
  go_wp2_with fail
  go_ret
  exact ⟨rfl, S7.out.b⟩
theorem walk (y p q r : Int) (w0 : (Lit.int .i64 y).wf = true) (w1 : (Lit.int .i64 p).wf = true) (w2 : (Lit.int .i64 q).wf = true) (w3 : (Lit.int .i64 r).wf = true) (W : World) (ht0 : CTab W ∧ LTab W) :
    Calls Tryz.prog 3 #[.int .i64 y, dtv p q r] W fun e w' => e = .returned (.bool true) ∧ Below W.heap.size W w' := by
  have ht : PT W := ⟨ht0.1, ht0.2⟩
  have HG := fun w => rgre_any y w
  have H5 := fun w ht => ogap_any y w ht
  by_cases h : inG y = true
  · have g : epE 2 y = 0 := by rw [epE_two, if_pos h]
    rw [h] at HG
    rw [g] at H5
    exact walk_ok y p q r _ _ _ _ _ _ _ (fun w ht => odate_any y w ht) (fun w ht => r13date_any y w ht) (fun w ht => odel_any p q r w ht) (fun w => r13del_any p q r w) H5 HG (fun w ht => r13gap_any y w g ht) W ht
  · have g : epE 2 y = 1 := by rw [epE_two, if_neg h]
    have h' : inG y = false := by simpa using h
    rw [h'] at HG
    rw [og_no (by rw [g]; decide), g] at H5
    exact walk_no y p q r _ _ _ _ _ _ (fun w ht => odate_any y w ht) (fun w ht => r13date_any y w ht) (fun w ht => odel_any p q r w ht) (fun w => r13del_any p q r w) H5 HG W ht

/-! ### the row's step -/
set_option maxRecDepth 100000 in
theorem lifted (os : Os) (started : os.Started) (H : Type) (enc : TypeId × Value → H) :
    ReturnsInHanded {} Tryz.checked os 3 .any (fun w args => (Rows.orthodoxMatchesReferenceSpec.pre enc Tryz.prog Tryz.f3 [] false w args ∧ laidMetH Tryz.prog laidL w) ∧ sizedMet enc Tryz.prog Tryz.f3 (OpenSpec.ofChange Rows.orthodoxMatchesReferenceSpec) false w args)
      (Rows.orthodoxMatchesReferenceSpec.post enc Tryz.prog Tryz.f3 false true false false) := by
  refine returnsInHanded_of_change_and (C := Tryz.checked) (X := fun w _ => laidMetH Tryz.prog laidL w) (fun _ _ _ hh h => h.of_heap hh) own started (by kernel_rfl) Tryz.func3
    (ChangeSpec.witness_shaped (enc := enc) (C := Tryz.checked) (os := os) (X := fun w _ => laidMetH Tryz.prog laidL w) false (World.doorLaid Tryz.prog 400 os) #[.int .i64 0, .agg #[.int .i64 0, .int .i64 0, .int .i64 0]] 8 rfl (World.shaped_of_RefB (by kernel_rfl) (by kernel_rfl)) (by kernel_rfl) (by kernel_rfl) (by kernel_rfl) (door_met os _)) ?_
  intro W base args ds gs before hval0 hW _ _ hL _
  have hval : ∀ (j : Nat) t v, Tryz.f3.params[j]? = some t → args[j]? = some v → Value.okWide Tryz.prog W .any base t v := hval0
  have hW' := hW
  obtain ⟨p, q, hA0, hV, rfl, hfz, hnd⟩ := hW
  have hA : DataW.TrodAll enc Tryz.prog W 0 (fun _ => true) true Tryz.f3.params.toList args.toList ds p := hA0
  rw [Tryz.params3] at hA hval
  obtain ⟨v0, vs0, d0, ds0, p0, q0, hargs, rfl, rfl, h0, r0⟩ := trodAll_cons hA
  obtain ⟨v1, vs1, d1, ds1, p1, q1, rfl, rfl, rfl, h1, r1⟩ := trodAll_cons r0
  obtain ⟨rfl, rfl, rfl⟩ := trodAll_nil r1
  obtain rfl : args = #[v0, v1] := by cases args; simp_all
  obtain ⟨rfl, rfl⟩ := trodVars_none hV
  obtain ⟨a0, rfl, rfl, rfl, w0⟩ := open_int Tryz.underlying3 (hval 0 3 v0 rfl rfl) h0
  obtain ⟨c1_0, c1_1, c1_2, y1_0, y1_1, y1_2, m1, rfl, rfl, rfl, hy1_0, hy1_1, hy1_2⟩ := open_agg3 Tryz.underlying23 (by kernel_rfl) (show Tryz.prog.cellsOf 23 = 3 by kernel_rfl) (hval 1 23 v1 rfl rfl) h1
  obtain ⟨f1_0, e1_0, rfl, w1_0⟩ := DataW.trod_int Tryz.underlying3 hy1_0
  simp at e1_0; subst e1_0
  obtain ⟨f1_1, e1_1, rfl, w1_1⟩ := DataW.trod_int Tryz.underlying3 hy1_1
  simp at e1_1; subst e1_1
  obtain ⟨f1_2, e1_2, rfl, w1_2⟩ := DataW.trod_int Tryz.underlying3 hy1_2
  simp at e1_2; subst e1_2
  clear hA0 hval0
  simp only [List.append_nil] at hW'
  have sr1 : ∀ (W' : World) (sp : Nat → Bool), DataW.Trod enc Tryz.prog W' 0 sp true 23 (.agg #[.int .i64 f1_0, .int .i64 f1_1, .int .i64 f1_2]) (.agg [.lit (.int .i64 f1_0), .lit (.int .i64 f1_1), .lit (.int .i64 f1_2)]) [] := fun W' sp =>
    shut_agg3 (y0 := (.lit (.int .i64 f1_0), [])) (y1 := (.lit (.int .i64 f1_1), [])) (y2 := (.lit (.int .i64 f1_2), [])) Tryz.underlying23 (by kernel_rfl) (show Tryz.prog.cellsOf 23 = 3 by kernel_rfl) ⟨1, by simp [DataW.trod, Tryz.underlying3, w1_0]⟩ ⟨1, by simp [DataW.trod, Tryz.underlying3, w1_1]⟩ ⟨1, by simp [DataW.trod, Tryz.underlying3, w1_2]⟩
  refine (walk a0 f1_0 f1_1 f1_2 w0 w1_0 w1_1 w1_2 W (laid_facts hL)).mono fun e W' ⟨he, bel⟩ => ?_
  subst he
  exact ⟨_, rfl, _, _, _, [], _, [], hW', trodAll_mk1 (shut_bool Tryz.underlying4 _), (trodAll_cons_mk (shut_int Tryz.underlying3 w0) (trodAll_cons_mk (sr1 _ _) trodAll_mk0)), rfl, bel.frame _, fun h => by cases h⟩

theorem over : Rows.orthodoxMatchesReferenceRow.holds Tryz.pinned (OpenSpec.ofChange Rows.orthodoxMatchesReferenceSpec) :=
  OpenClaim.holds_of_wide 3 Tryz.f3 rfl rfl rfl rfl rfl rfl rfl ⟨rfl, rfl, rfl, rfl, rfl⟩ rfl rfl rfl rfl rfl (by kernel_rfl) Tryz.func3 (by kernel_rfl)
    (of_decide_eq_true (by kernel_rfl)) (by unfold Func.isWrapper; first | (rw [if_pos (by decide +kernel)]; kernel_rfl) | (rw [if_neg (by decide +kernel)]; exact ⟨rfl, rfl⟩))
    (fun os started H enc _ => lifted os started H enc)

/-- The statement: the tied card. -/
theorem proved : Rows.OrthodoxMatchesReferenceCardSaid :=
  Claim7.holds_tied_plain_at .later [] [.data, .data, .data, .data, .data] true (true, "6c750d601d6ab67faab33d1975f1c502408d517d9515133486a37498bfba0629") false
    over (fun _ h => by cases h) (by kernel_rfl) (fun _ h => by cases h) orthodoxMatchesReference_row_tie rfl ⟨rfl, rfl⟩ (by kernel_rfl) rfl
    (fun f fn hf hfn => by
      obtain rfl : f = 3 := Option.some.inj ((show Tryz.prog.funcNamed "computus/computuslaw13.OrthodoxMatchesReference" = some 3 by kernel_rfl).symm.trans hf) |>.symm
      obtain rfl : fn = Tryz.f3 := (Option.some.inj (Tryz.func3.symm.trans hfn)).symm
      exact ⟨by kernel_rfl, fun j t ht => by
        rw [Tryz.params3] at ht
        have hm : t ∈ [3, 23] := by simpa using Array.mem_of_getElem? ht
        have hall : ([3, 23].all fun u => !Tryz.prog.wantsStandIn u) = true := by kernel_rfl
        exact (show Tryz.prog.wantsStandIn t = false by simpa using List.all_eq_true.1 hall t hm)⟩)
    (by kernel_rfl)
#print axioms proved
end Go.Proofs.YtnfeihbkemgecaaGreatDoor.orthodoxMatchesReference
