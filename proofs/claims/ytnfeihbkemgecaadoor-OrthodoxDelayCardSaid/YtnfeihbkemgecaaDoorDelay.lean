/- Proved: for every date of three 64-bit integers, the law OrthodoxDelay of package computuslaw13 (the delay of a date is told by the century years behind it) returns true, and what was in memory is as it was. Condition: the tables of packages julian, gregorian and label (the lengths of the months, the groups of years, the beginnings of the lunations) read as the program's text lays them (the card ties them). -/
import Derived.Test.YtnfeihbkemgecaaDoorKq
import Derived.Test.YtnfeihbkemgecaaDoorVy
import Derived.WalkKit
import Derived.ProofKit
import Derived.OpenShut
import Derived.ShutString
import Derived.Lib.SmallJoins
import Derived.LaidMore
import Derived.Stop.Joined
import Derived.SevenTiedAt
import Derived.Test.YtnfeihbkemgecaaDoorCards
import Derived.Test.YtnfeihbkemgecaaDoorTie
namespace Go.Proofs.YtnfeihbkemgecaaDoor.orthodoxDelay
open Go.ChangeShapes Go.WideShapes Go.ChangeAt Go.RowKit Go.Joins
open Go.ChangeMaps (open_string shut_string)
set_option linter.unusedVariables false      -- a walk need not use every fact

theorem walk_a (y m d : Int)
    (HV : ∀ w, Calls Tryd.prog 14 #[dtv y m d] w fun e w' => e = .returned (.bool false) ∧ Below w.heap.size w w')
    (W : World) (ht : PT W) :
    Calls Tryd.prog 5 #[dtv y m d] W fun e w' => e = .returned (.bool true) ∧ Below W.heap.size W w' := by
  have S0 := Lib.hid (PSt.start ht)
  clear ht
  go_enter Tryd.func5, Tryd.ntmps5
  go_wp2_with fail
  refine (c13awake_any _ (S0.out.al _).t).mono ?_
  rintro e w1 ⟨rfl, hb1⟩
  have S1 := Lib.hid ((S0.out.al _).on hb1)
  have RD1 := Lib.hid (row_on (heap_alloc_new _ _) hb1)
  obtain ⟨cD0, cD1, cD2, gD0, gD1, gD2, zD⟩ := row3 RD1.out
  clear hb1
  go_wp2_with fail
  refine (HV _).mono ?_
  rintro e w2 ⟨rfl, hb2⟩
  have S2 := Lib.hid (S1.out.on hb2)
  have RD2 := Lib.hid (row_on RD1.out hb2)
  clear RD1
  clear cD0 cD1 cD2 gD0 gD1 gD2 zD
  obtain ⟨cD0, cD1, cD2, gD0, gD1, gD2, zD⟩ := row3 RD2.out
  clear hb2
  go_wp2_with fail
  refine (c13awake_any _ S2.out.t).mono ?_
  rintro e w3 ⟨rfl, hb3⟩
  have S3 := Lib.hid (S2.out.on hb3)
  have RD3 := Lib.hid (row_on RD2.out hb3)
  clear RD2
  clear cD0 cD1 cD2 gD0 gD1 gD2 zD
  obtain ⟨cD0, cD1, cD2, gD0, gD1, gD2, zD⟩ := row3 RD3.out
  clear hb3
  go_wp2_with fail
  go_ret
  exact ⟨rfl, S3.out.b⟩
set_option maxRecDepth 100000 in
set_option maxHeartbeats 1000000 in
theorem walk_low (y m d : Int)
    (HV : ∀ w, Calls Tryd.prog 14 #[dtv y m d] w fun e w' => e = .returned (.bool true) ∧ Below w.heap.size w w')
    (H1 : ∀ w, PT w → Calls Tryd.prog 15 #[dtv y m d] w fun e w' => e = .returned (numv ((y - 1) / 100 - (y - 1) / 400 - 2) 0) ∧ Below w.heap.size w w')
    (y1 : 1 ≤ y) (y2 : y ≤ 1000000000) (e1 : decide (m < 3) = true)
    (W : World) (ht : PT W) :
    Calls Tryd.prog 5 #[dtv y m d] W fun e w' => e = .returned (.bool true) ∧ Below W.heap.size W w' := by
  have S0 := Lib.hid (PSt.start ht)
  clear ht
  go_enter Tryd.func5, Tryd.ntmps5
  go_wp2_with fail
  refine (c13awake_any _ (S0.out.al _).t).mono ?_
  rintro e w1 ⟨rfl, hb1⟩
  have S1 := Lib.hid ((S0.out.al _).on hb1)
  have RD1 := Lib.hid (row_on (heap_alloc_new _ _) hb1)
  obtain ⟨cD0, cD1, cD2, gD0, gD1, gD2, zD⟩ := row3 RD1.out
  clear hb1
  go_wp2_with fail
  refine (HV _).mono ?_
  rintro e w2 ⟨rfl, hb2⟩
  have S2 := Lib.hid (S1.out.on hb2)
  have RD2 := Lib.hid (row_on RD1.out hb2)
  clear RD1
  clear cD0 cD1 cD2 gD0 gD1 gD2 zD
  obtain ⟨cD0, cD1, cD2, gD0, gD1, gD2, zD⟩ := row3 RD2.out
  clear hb2
  go_wp2_with fail
  refine (H1 _ S2.out.t).mono ?_
  rintro e w3 ⟨rfl, hb3⟩
  have S3 := Lib.hid (S2.out.on hb3)
  have RD3 := Lib.hid (row_on RD2.out hb3)
  clear RD2
  clear cD0 cD1 cD2 gD0 gD1 gD2 zD
  obtain ⟨cD0, cD1, cD2, gD0, gD1, gD2, zD⟩ := row3 RD3.out
  clear hb3
  go_wp2_with fail
  go_ret
  exact ⟨rfl, S3.out.b⟩
set_option maxRecDepth 100000 in
set_option maxHeartbeats 1000000 in
theorem walk_high (y m d : Int)
    (HV : ∀ w, Calls Tryd.prog 14 #[dtv y m d] w fun e w' => e = .returned (.bool true) ∧ Below w.heap.size w w')
    (H1 : ∀ w, PT w → Calls Tryd.prog 15 #[dtv y m d] w fun e w' => e = .returned (numv (y / 100 - y / 400 - 2) 0) ∧ Below w.heap.size w w')
    (y1 : 1 ≤ y) (y2 : y ≤ 1000000000) (e1 : decide (m < 3) = false)
    (W : World) (ht : PT W) :
    Calls Tryd.prog 5 #[dtv y m d] W fun e w' => e = .returned (.bool true) ∧ Below W.heap.size W w' := by
  have S0 := Lib.hid (PSt.start ht)
  clear ht
  go_enter Tryd.func5, Tryd.ntmps5
  go_wp2_with fail
  refine (c13awake_any _ (S0.out.al _).t).mono ?_
  rintro e w1 ⟨rfl, hb1⟩
  have S1 := Lib.hid ((S0.out.al _).on hb1)
  have RD1 := Lib.hid (row_on (heap_alloc_new _ _) hb1)
  obtain ⟨cD0, cD1, cD2, gD0, gD1, gD2, zD⟩ := row3 RD1.out
  clear hb1
  go_wp2_with fail
  refine (HV _).mono ?_
  rintro e w2 ⟨rfl, hb2⟩
  have S2 := Lib.hid (S1.out.on hb2)
  have RD2 := Lib.hid (row_on RD1.out hb2)
  clear RD1
  clear cD0 cD1 cD2 gD0 gD1 gD2 zD
  obtain ⟨cD0, cD1, cD2, gD0, gD1, gD2, zD⟩ := row3 RD2.out
  clear hb2
  go_wp2_with fail
  refine (H1 _ S2.out.t).mono ?_
  rintro e w3 ⟨rfl, hb3⟩
  have S3 := Lib.hid (S2.out.on hb3)
  have RD3 := Lib.hid (row_on RD2.out hb3)
  clear RD2
  clear cD0 cD1 cD2 gD0 gD1 gD2 zD
  obtain ⟨cD0, cD1, cD2, gD0, gD1, gD2, zD⟩ := row3 RD3.out
  clear hb3
  go_wp2_with fail
  go_ret
  exact ⟨rfl, S3.out.b⟩
theorem walk (y m d : Int) (w0 : (Lit.int .i64 y).wf = true) (w1 : (Lit.int .i64 m).wf = true) (w2 : (Lit.int .i64 d).wf = true) (W : World) (ht0 : CTab W ∧ LTab W) :
    Calls Tryd.prog 5 #[dtv y m d] W fun e w' => e = .returned (.bool true) ∧ Below W.heap.size W w' := by
  have ht : PT W := ⟨ht0.1, ht0.2⟩
  have HV := fun w => svalid_any y m d w w0
  by_cases h : greg.vld y m d = true
  · rw [h] at HV
    have v := greg.vld_iff.1 h
    have H1 := fun w ht => odel_any y m d w ht
    have g : tE 2 y m d = 0 := (tE_at (c := 2) rfl h).1
    rw [od_diff g, g] at H1
    by_cases f : m < 3
    · rw [show cenY y m = y - 1 by unfold cenY; rw [if_pos f]] at H1
      exact walk_low y m d HV H1 v.1 v.2.1 (decide_eq_true f) W ht
    · rw [show cenY y m = y by unfold cenY; rw [if_neg f]] at H1
      exact walk_high y m d HV H1 v.1 v.2.1 (decide_eq_false f) W ht
  · have h' : greg.vld y m d = false := by simpa using h
    rw [h'] at HV
    exact walk_a y m d HV W ht

/-! ### the row's step -/
set_option maxRecDepth 100000 in
theorem lifted (os : Os) (started : os.Started) (H : Type) (enc : TypeId × Value → H) :
    ReturnsInHanded {} Tryd.checked os 5 .any (fun w args => (Rows.orthodoxDelaySpec.pre enc Tryd.prog Tryd.f5 [] false w args ∧ laidMetH Tryd.prog laidL w) ∧ sizedMet enc Tryd.prog Tryd.f5 (OpenSpec.ofChange Rows.orthodoxDelaySpec) false w args)
      (Rows.orthodoxDelaySpec.post enc Tryd.prog Tryd.f5 false true false false) := by
  refine returnsInHanded_of_change_and (C := Tryd.checked) (X := fun w _ => laidMetH Tryd.prog laidL w) (fun _ _ _ hh h => h.of_heap hh) own started (by kernel_rfl) Tryd.func5
    (ChangeSpec.witness_shaped (enc := enc) (C := Tryd.checked) (os := os) (X := fun w _ => laidMetH Tryd.prog laidL w) false (World.doorLaid Tryd.prog 400 os) #[.agg #[.int .i64 0, .int .i64 0, .int .i64 0]] 8 rfl (World.shaped_of_RefB (by kernel_rfl) (by kernel_rfl)) (by kernel_rfl) (by kernel_rfl) (by kernel_rfl) (door_met os _)) ?_
  intro W base args ds gs before hval0 hW _ _ hL _
  have hval : ∀ (j : Nat) t v, Tryd.f5.params[j]? = some t → args[j]? = some v → Value.okWide Tryd.prog W .any base t v := hval0
  have hW' := hW
  obtain ⟨p, q, hA0, hV, rfl, hfz, hnd⟩ := hW
  have hA : DataW.TrodAll enc Tryd.prog W 0 (fun _ => true) true Tryd.f5.params.toList args.toList ds p := hA0
  rw [Tryd.params5] at hA hval
  obtain ⟨v0, vs0, d0, ds0, p0, q0, hargs, rfl, rfl, h0, r0⟩ := trodAll_cons hA
  obtain ⟨rfl, rfl, rfl⟩ := trodAll_nil r0
  obtain rfl : args = #[v0] := by cases args; simp_all
  obtain ⟨rfl, rfl⟩ := trodVars_none hV
  obtain ⟨c0_0, c0_1, c0_2, y0_0, y0_1, y0_2, m0, rfl, rfl, rfl, hy0_0, hy0_1, hy0_2⟩ := open_agg3 Tryd.underlying24 (by kernel_rfl) (show Tryd.prog.cellsOf 24 = 3 by kernel_rfl) (hval 0 24 v0 rfl rfl) h0
  obtain ⟨f0_0, e0_0, rfl, w0_0⟩ := DataW.trod_int Tryd.underlying3 hy0_0
  simp at e0_0; subst e0_0
  obtain ⟨f0_1, e0_1, rfl, w0_1⟩ := DataW.trod_int Tryd.underlying3 hy0_1
  simp at e0_1; subst e0_1
  obtain ⟨f0_2, e0_2, rfl, w0_2⟩ := DataW.trod_int Tryd.underlying3 hy0_2
  simp at e0_2; subst e0_2
  clear hA0 hval0
  simp only [List.append_nil] at hW'
  have sr0 : ∀ (W' : World) (sp : Nat → Bool), DataW.Trod enc Tryd.prog W' 0 sp true 24 (.agg #[.int .i64 f0_0, .int .i64 f0_1, .int .i64 f0_2]) (.agg [.lit (.int .i64 f0_0), .lit (.int .i64 f0_1), .lit (.int .i64 f0_2)]) [] := fun W' sp =>
    shut_agg3 (y0 := (.lit (.int .i64 f0_0), [])) (y1 := (.lit (.int .i64 f0_1), [])) (y2 := (.lit (.int .i64 f0_2), [])) Tryd.underlying24 (by kernel_rfl) (show Tryd.prog.cellsOf 24 = 3 by kernel_rfl) ⟨1, by simp [DataW.trod, Tryd.underlying3, w0_0]⟩ ⟨1, by simp [DataW.trod, Tryd.underlying3, w0_1]⟩ ⟨1, by simp [DataW.trod, Tryd.underlying3, w0_2]⟩
  refine (walk f0_0 f0_1 f0_2 w0_0 w0_1 w0_2 W (laid_facts hL)).mono fun e W' ⟨he, bel⟩ => ?_
  subst he
  exact ⟨_, rfl, _, _, _, [], _, [], hW', trodAll_mk1 (shut_bool Tryd.underlying4 _), (trodAll_cons_mk (sr0 _ _) trodAll_mk0), rfl, bel.frame _, fun h => by cases h⟩

theorem over : Rows.orthodoxDelayRow.holds Tryd.pinned (OpenSpec.ofChange Rows.orthodoxDelaySpec) :=
  OpenClaim.holds_of_wide 5 Tryd.f5 rfl rfl rfl rfl rfl rfl rfl ⟨rfl, rfl, rfl, rfl, rfl⟩ rfl rfl rfl rfl rfl (by kernel_rfl) Tryd.func5 (by kernel_rfl)
    (of_decide_eq_true (by kernel_rfl)) (by unfold Func.isWrapper; first | (rw [if_pos (by decide +kernel)]; kernel_rfl) | (rw [if_neg (by decide +kernel)]; exact ⟨rfl, rfl⟩))
    (fun os started H enc _ => lifted os started H enc)

/-- The statement: the tied card. -/
theorem proved : Rows.OrthodoxDelayCardSaid :=
  Claim7.holds_tied_plain_at .later [] [.data, .data, .data, .data, .data] true (true, "bd555704cdfadddd03ed316e5a809b28249dbd0bd2b603a59f5f6bb600bfe636") false
    over (fun _ h => by cases h) (by kernel_rfl) (fun _ h => by cases h) orthodoxDelay_row_tie rfl ⟨rfl, rfl⟩ (by kernel_rfl) rfl
    (fun f fn hf hfn => by
      obtain rfl : f = 5 := Option.some.inj ((show Tryd.prog.funcNamed "computus/computuslaw13.OrthodoxDelay" = some 5 by kernel_rfl).symm.trans hf) |>.symm
      obtain rfl : fn = Tryd.f5 := (Option.some.inj (Tryd.func5.symm.trans hfn)).symm
      exact ⟨by kernel_rfl, fun j t ht => by
        rw [Tryd.params5] at ht
        have hm : t ∈ [24] := by simpa using Array.mem_of_getElem? ht
        have hall : ([24].all fun u => !Tryd.prog.wantsStandIn u) = true := by kernel_rfl
        exact (show Tryd.prog.wantsStandIn t = false by simpa using List.all_eq_true.1 hall t hm)⟩)
    (by kernel_rfl)
#print axioms proved
end Go.Proofs.YtnfeihbkemgecaaDoor.orthodoxDelay
