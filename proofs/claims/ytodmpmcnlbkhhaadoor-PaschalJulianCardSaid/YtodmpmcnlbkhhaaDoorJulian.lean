/- Proved: for all 64-bit integers year and other, the law PaschalJulian of package computuslaw09 (in the Julian calendar, two years have the paschal full moon on the same month and day exactly if they have the same golden number) returns true, and what was in memory is as it was. Condition: the tables of packages julian, gregorian and label (the lengths of the months, the groups of years, the beginnings of the lunations) read as the program's text lays them (the card ties them). -/
import Derived.Test.YtodmpmcnlbkhhaaDoorKp
import Derived.Test.YtodmpmcnlbkhhaaDoorVy
import Derived.WalkKit
import Derived.ProofKit
import Derived.OpenShut
import Derived.ShutString
import Derived.Lib.SmallJoins
import Derived.Deep.RegionHeld3
import Derived.LaidMore
import Derived.Stop.Joined
import Derived.SevenTiedAt
import Derived.Test.YtodmpmcnlbkhhaaDoorCards
import Derived.Test.YtodmpmcnlbkhhaaDoorTie
namespace Go.Proofs.YtodmpmcnlbkhhaaDoor.paschalJulian
open Go.ChangeShapes Go.WideShapes Go.ChangeAt Go.RowKit Go.Joins
open Go.ChangeMaps (open_string shut_string)
set_option linter.unusedVariables false      -- a walk need not use every fact

theorem walk_a (y z k : Int)
    (HA : ∀ w, Calls Tryd.prog 10 #[.int .i64 1, .int .i64 y] w fun e w' => e = .returned (.int .i64 k) ∧ w = w')
    (hk : (k != 0) = true)
    (W : World) (ht : PT W) :
    Calls Tryd.prog 6 #[.int .i64 y, .int .i64 z] W fun e w' => e = .returned (.bool true) ∧ Below W.heap.size W w' := by
  have S0 := Lib.hid (PSt.start ht)
  clear ht
  go_enter Tryd.func6, Tryd.ntmps6
  go_wp2_with fail
  refine (c9awake_any _ S0.out.t).mono ?_
  rintro e w1 ⟨rfl, hb1⟩
  have S1 := Lib.hid (S0.out.on hb1)
  clear hb1
  go_wp2_with fail
  refine (HA _).mono ?_
  rintro e wq ⟨rfl, rfl⟩
  go_wp2_with fail
  refine (c9awake_any _ S1.out.t).mono ?_
  rintro e w2 ⟨rfl, hb2⟩
  have S2 := Lib.hid (S1.out.on hb2)
  clear hb2
  go_wp2_with fail
  go_ret
  exact ⟨rfl, S2.out.b⟩
theorem walk_b (y z k : Int)
    (HA : ∀ w, Calls Tryd.prog 10 #[.int .i64 1, .int .i64 y] w fun e w' => e = .returned (.int .i64 0) ∧ w = w')
    (HB : ∀ w, Calls Tryd.prog 10 #[.int .i64 1, .int .i64 z] w fun e w' => e = .returned (.int .i64 k) ∧ w = w')
    (hk : (k != 0) = true)
    (W : World) (ht : PT W) :
    Calls Tryd.prog 6 #[.int .i64 y, .int .i64 z] W fun e w' => e = .returned (.bool true) ∧ Below W.heap.size W w' := by
  have S0 := Lib.hid (PSt.start ht)
  clear ht
  go_enter Tryd.func6, Tryd.ntmps6
  go_wp2_with fail
  refine (c9awake_any _ S0.out.t).mono ?_
  rintro e w1 ⟨rfl, hb1⟩
  have S1 := Lib.hid (S0.out.on hb1)
  clear hb1
  go_wp2_with fail
  refine (HA _).mono ?_
  rintro e wq ⟨rfl, rfl⟩
  go_wp2_with fail
  refine (HB _).mono ?_
  rintro e wq ⟨rfl, rfl⟩
  go_wp2_with fail
  refine (c9awake_any _ S1.out.t).mono ?_
  rintro e w2 ⟨rfl, hb2⟩
  have S2 := Lib.hid (S1.out.on hb2)
  clear hb2
  go_wp2_with fail
  go_ret
  exact ⟨rfl, S2.out.b⟩
set_option maxRecDepth 100000 in
set_option maxHeartbeats 1000000 in
theorem walk_ff (y z a b c d g h : Int)
    (HA : ∀ w, Calls Tryd.prog 10 #[.int .i64 1, .int .i64 y] w fun e w' => e = .returned (.int .i64 0) ∧ w = w')
    (HB : ∀ w, Calls Tryd.prog 10 #[.int .i64 1, .int .i64 z] w fun e w' => e = .returned (.int .i64 0) ∧ w = w')
    (H1 : ∀ w, PT w → Calls Tryd.prog 9 #[.int .i64 1, .int .i64 y] w fun e w' => e = .returned (datv y a b 0) ∧ Below w.heap.size w w')
    (H2 : ∀ w, PT w → Calls Tryd.prog 9 #[.int .i64 1, .int .i64 z] w fun e w' => e = .returned (datv z c d 0) ∧ Below w.heap.size w w')
    (HG : ∀ w, Calls Tryd.prog 21 #[.int .i64 y] w fun e w' => e = .returned (.int .i64 g) ∧ w = w')
    (HH : ∀ w, Calls Tryd.prog 21 #[.int .i64 z] w fun e w' => e = .returned (.int .i64 h) ∧ w = w')
    (e1 : (a == c) = false) (e3 : (g == h) = false)
    (W : World) (ht : PT W) :
    Calls Tryd.prog 6 #[.int .i64 y, .int .i64 z] W fun e w' => e = .returned (.bool true) ∧ Below W.heap.size W w' := by
  have S0 := Lib.hid (PSt.start ht)
  clear ht
  go_enter Tryd.func6, Tryd.ntmps6
  go_wp2_with fail
  refine (c9awake_any _ S0.out.t).mono ?_
  rintro e w1 ⟨rfl, hb1⟩
  have S1 := Lib.hid (S0.out.on hb1)
  clear hb1
  go_wp2_with fail
  refine (HA _).mono ?_
  rintro e wq ⟨rfl, rfl⟩
  go_wp2_with fail
  refine (HB _).mono ?_
  rintro e wq ⟨rfl, rfl⟩
  go_wp2_with fail
  refine (H1 _ S1.out.t).mono ?_
  rintro e w2 ⟨rfl, hb2⟩
  have S2 := Lib.hid (S1.out.on hb2)
  clear hb2
  go_wp2_with fail
  refine (H2 _ (S2.out.al _).t).mono ?_
  rintro e w3 ⟨rfl, hb3⟩
  have S3 := Lib.hid ((S2.out.al _).on hb3)
  have RA3 := Lib.hid (row_on (heap_alloc_new w2 (Obj.cells #[.int .i64 y, .int .i64 a, .int .i64 b] 23)) hb3)
  obtain ⟨cA0, cA1, cA2, gA0, gA1, gA2, zA⟩ := row3 RA3.out
  clear hb3
  have nAB := Nat.ne_of_lt zA
  have nBA := (Nat.ne_of_lt zA).symm
  clear H1 H2 HA HB
  go_wp2_with fail
  go_quiet ((go_at_call 21; first | exact quiet_same (HG _) | exact quiet_same (HH _)))
  go_wp2_with fail
  go_ret
  exact ⟨rfl, ((S3.out.al _).dn _).b⟩
set_option maxRecDepth 100000 in
set_option maxHeartbeats 1000000 in
theorem walk_tf (y z a b c d g h : Int)
    (HA : ∀ w, Calls Tryd.prog 10 #[.int .i64 1, .int .i64 y] w fun e w' => e = .returned (.int .i64 0) ∧ w = w')
    (HB : ∀ w, Calls Tryd.prog 10 #[.int .i64 1, .int .i64 z] w fun e w' => e = .returned (.int .i64 0) ∧ w = w')
    (H1 : ∀ w, PT w → Calls Tryd.prog 9 #[.int .i64 1, .int .i64 y] w fun e w' => e = .returned (datv y a b 0) ∧ Below w.heap.size w w')
    (H2 : ∀ w, PT w → Calls Tryd.prog 9 #[.int .i64 1, .int .i64 z] w fun e w' => e = .returned (datv z c d 0) ∧ Below w.heap.size w w')
    (HG : ∀ w, Calls Tryd.prog 21 #[.int .i64 y] w fun e w' => e = .returned (.int .i64 g) ∧ w = w')
    (HH : ∀ w, Calls Tryd.prog 21 #[.int .i64 z] w fun e w' => e = .returned (.int .i64 h) ∧ w = w')
    (e1 : (a == c) = true) (e2 : (b == d) = false) (e3 : (g == h) = false)
    (W : World) (ht : PT W) :
    Calls Tryd.prog 6 #[.int .i64 y, .int .i64 z] W fun e w' => e = .returned (.bool true) ∧ Below W.heap.size W w' := by
  have S0 := Lib.hid (PSt.start ht)
  clear ht
  go_enter Tryd.func6, Tryd.ntmps6
  go_wp2_with fail
  refine (c9awake_any _ S0.out.t).mono ?_
  rintro e w1 ⟨rfl, hb1⟩
  have S1 := Lib.hid (S0.out.on hb1)
  clear hb1
  go_wp2_with fail
  refine (HA _).mono ?_
  rintro e wq ⟨rfl, rfl⟩
  go_wp2_with fail
  refine (HB _).mono ?_
  rintro e wq ⟨rfl, rfl⟩
  go_wp2_with fail
  refine (H1 _ S1.out.t).mono ?_
  rintro e w2 ⟨rfl, hb2⟩
  have S2 := Lib.hid (S1.out.on hb2)
  clear hb2
  go_wp2_with fail
  refine (H2 _ (S2.out.al _).t).mono ?_
  rintro e w3 ⟨rfl, hb3⟩
  have S3 := Lib.hid ((S2.out.al _).on hb3)
  have RA3 := Lib.hid (row_on (heap_alloc_new w2 (Obj.cells #[.int .i64 y, .int .i64 a, .int .i64 b] 23)) hb3)
  obtain ⟨cA0, cA1, cA2, gA0, gA1, gA2, zA⟩ := row3 RA3.out
  clear hb3
  have nAB := Nat.ne_of_lt zA
  have nBA := (Nat.ne_of_lt zA).symm
  clear H1 H2 HA HB
  go_wp2_with fail
  go_quiet ((go_at_call 21; first | exact quiet_same (HG _) | exact quiet_same (HH _)))
  go_wp2_with fail
  go_ret
  exact ⟨rfl, ((S3.out.al _).dn _).b⟩
set_option maxRecDepth 100000 in
set_option maxHeartbeats 1000000 in
theorem walk_tt (y z a b c d g h : Int)
    (HA : ∀ w, Calls Tryd.prog 10 #[.int .i64 1, .int .i64 y] w fun e w' => e = .returned (.int .i64 0) ∧ w = w')
    (HB : ∀ w, Calls Tryd.prog 10 #[.int .i64 1, .int .i64 z] w fun e w' => e = .returned (.int .i64 0) ∧ w = w')
    (H1 : ∀ w, PT w → Calls Tryd.prog 9 #[.int .i64 1, .int .i64 y] w fun e w' => e = .returned (datv y a b 0) ∧ Below w.heap.size w w')
    (H2 : ∀ w, PT w → Calls Tryd.prog 9 #[.int .i64 1, .int .i64 z] w fun e w' => e = .returned (datv z c d 0) ∧ Below w.heap.size w w')
    (HG : ∀ w, Calls Tryd.prog 21 #[.int .i64 y] w fun e w' => e = .returned (.int .i64 g) ∧ w = w')
    (HH : ∀ w, Calls Tryd.prog 21 #[.int .i64 z] w fun e w' => e = .returned (.int .i64 h) ∧ w = w')
    (e1 : (a == c) = true) (e2 : (b == d) = true) (e3 : (g == h) = true)
    (W : World) (ht : PT W) :
    Calls Tryd.prog 6 #[.int .i64 y, .int .i64 z] W fun e w' => e = .returned (.bool true) ∧ Below W.heap.size W w' := by
  have S0 := Lib.hid (PSt.start ht)
  clear ht
  go_enter Tryd.func6, Tryd.ntmps6
  go_wp2_with fail
  refine (c9awake_any _ S0.out.t).mono ?_
  rintro e w1 ⟨rfl, hb1⟩
  have S1 := Lib.hid (S0.out.on hb1)
  clear hb1
  go_wp2_with fail
  refine (HA _).mono ?_
  rintro e wq ⟨rfl, rfl⟩
  go_wp2_with fail
  refine (HB _).mono ?_
  rintro e wq ⟨rfl, rfl⟩
  go_wp2_with fail
  refine (H1 _ S1.out.t).mono ?_
  rintro e w2 ⟨rfl, hb2⟩
  have S2 := Lib.hid (S1.out.on hb2)
  clear hb2
  go_wp2_with fail
  refine (H2 _ (S2.out.al _).t).mono ?_
  rintro e w3 ⟨rfl, hb3⟩
  have S3 := Lib.hid ((S2.out.al _).on hb3)
  have RA3 := Lib.hid (row_on (heap_alloc_new w2 (Obj.cells #[.int .i64 y, .int .i64 a, .int .i64 b] 23)) hb3)
  obtain ⟨cA0, cA1, cA2, gA0, gA1, gA2, zA⟩ := row3 RA3.out
  clear hb3
  have nAB := Nat.ne_of_lt zA
  have nBA := (Nat.ne_of_lt zA).symm
  clear H1 H2 HA HB
  go_wp2_with fail
  go_quiet ((go_at_call 21; first | exact quiet_same (HG _) | exact quiet_same (HH _)))
  go_wp2_with fail
  go_ret
  exact ⟨rfl, ((S3.out.al _).dn _).b⟩
theorem walk (y z : Int) (w0 : (Lit.int .i64 y).wf = true) (w1 : (Lit.int .i64 z).wf = true) (W : World) (ht0 : CTab W ∧ LTab W) :
    Calls Tryd.prog 6 #[.int .i64 y, .int .i64 z] W fun e w' => e = .returned (.bool true) ∧ Below W.heap.size W w' := by
  have ht : PT W := ⟨ht0.1, ht0.2⟩
  have HA := fun w => rfail_any 1 y w
  have HB := fun w => rfail_any 1 z w
  by_cases h1 : epE 1 y = 0
  · by_cases h2 : epE 1 z = 0
    · rw [h1] at HA
      rw [h2] at HB
      have H1 := fun w ht => pfu_any 1 y w wf1 ht
      have H2 := fun w ht => pfu_any 1 z w wf1 ht
      rw [(pu_ok h1).1, (pu_ok h1).2.1, (pu_ok h1).2.2, h1, lab_one] at H1
      rw [(pu_ok h2).1, (pu_ok h2).2.1, (pu_ok h2).2.2, h2, lab_one] at H2
      obtain ⟨y1, y2⟩ := epE_inY h1
      obtain ⟨z1, z2⟩ := epE_inY h2
      have HG := fun w => rgold_any y w y1 y2
      have HH := fun w => rgold_any z w z1 z2
      obtain ⟨g1, g2⟩ := gold_bd y
      obtain ⟨k1, k2⟩ := gold_bd z
      have hj := jul_same g1 g2 k1 k2
      cases e1 : (pfM (labG (gold y)) == pfM (labG (gold z)))
      · rw [e1, Bool.false_and] at hj
        exact walk_ff y z _ _ _ _ _ _ HA HB H1 H2 HG HH e1 hj.symm W ht
      · cases e2 : (pfD (labG (gold y)) == pfD (labG (gold z)))
        · rw [e2, Bool.and_false] at hj
          exact walk_tf y z _ _ _ _ _ _ HA HB H1 H2 HG HH e1 e2 hj.symm W ht
        · rw [e1, e2, Bool.and_true] at hj
          exact walk_tt y z _ _ _ _ _ _ HA HB H1 H2 HG HH e1 e2 hj.symm W ht
    · rw [h1] at HA
      exact walk_b y z _ HA HB (tE_ne h2) W ht
  · exact walk_a y z _ HA (tE_ne h1) W ht

/-! ### the row's step -/
set_option maxRecDepth 100000 in
theorem lifted (os : Os) (started : os.Started) (H : Type) (enc : TypeId × Value → H) :
    ReturnsInHanded {} Tryd.checked os 6 .any (fun w args => (Rows.paschalJulianSpec.pre enc Tryd.prog Tryd.f6 [] false w args ∧ laidMetH Tryd.prog laidL w) ∧ sizedMet enc Tryd.prog Tryd.f6 (OpenSpec.ofChange Rows.paschalJulianSpec) false w args)
      (Rows.paschalJulianSpec.post enc Tryd.prog Tryd.f6 false true false false) := by
  refine returnsInHanded_of_change_and (C := Tryd.checked) (X := fun w _ => laidMetH Tryd.prog laidL w) (fun _ _ _ hh h => h.of_heap hh) own started (by kernel_rfl) Tryd.func6
    (ChangeSpec.witness_shaped (enc := enc) (C := Tryd.checked) (os := os) (X := fun w _ => laidMetH Tryd.prog laidL w) false (World.doorLaid Tryd.prog 400 os) #[.int .i64 0, .int .i64 0] 8 rfl (World.shaped_of_RefB (by kernel_rfl) (by kernel_rfl)) (by kernel_rfl) (by kernel_rfl) (by kernel_rfl) (door_met os _)) ?_
  intro W base args ds gs before hval0 hW _ _ hL _
  have hval : ∀ (j : Nat) t v, Tryd.f6.params[j]? = some t → args[j]? = some v → Value.okWide Tryd.prog W .any base t v := hval0
  have hW' := hW
  obtain ⟨p, q, hA0, hV, rfl, hfz, hnd⟩ := hW
  have hA : DataW.TrodAll enc Tryd.prog W 0 (fun _ => true) true Tryd.f6.params.toList args.toList ds p := hA0
  rw [Tryd.params6] at hA hval
  obtain ⟨v0, vs0, d0, ds0, p0, q0, hargs, rfl, rfl, h0, r0⟩ := trodAll_cons hA
  obtain ⟨v1, vs1, d1, ds1, p1, q1, rfl, rfl, rfl, h1, r1⟩ := trodAll_cons r0
  obtain ⟨rfl, rfl, rfl⟩ := trodAll_nil r1
  obtain rfl : args = #[v0, v1] := by cases args; simp_all
  obtain ⟨rfl, rfl⟩ := trodVars_none hV
  obtain ⟨a0, rfl, rfl, rfl, w0⟩ := open_int Tryd.underlying3 (hval 0 3 v0 rfl rfl) h0
  obtain ⟨a1, rfl, rfl, rfl, w1⟩ := open_int Tryd.underlying3 (hval 1 3 v1 rfl rfl) h1
  clear hA0 hval0
  simp only [List.append_nil] at hW'
  refine (walk a0 a1 w0 w1 W (laid_facts hL)).mono fun e W' ⟨he, bel⟩ => ?_
  subst he
  exact ⟨_, rfl, _, _, _, [], _, [], hW', trodAll_mk1 (shut_bool Tryd.underlying4 _), (trodAll_cons_mk (shut_int Tryd.underlying3 w0) (trodAll_cons_mk (shut_int Tryd.underlying3 w1) trodAll_mk0)), rfl, bel.frame _, fun h => by cases h⟩

theorem over : Rows.paschalJulianRow.holds Tryd.pinned (OpenSpec.ofChange Rows.paschalJulianSpec) :=
  OpenClaim.holds_of_wide 6 Tryd.f6 rfl rfl rfl rfl rfl rfl rfl ⟨rfl, rfl, rfl, rfl, rfl⟩ rfl rfl rfl rfl rfl (by kernel_rfl) Tryd.func6 (by kernel_rfl)
    (of_decide_eq_true (by kernel_rfl)) (by unfold Func.isWrapper; first | (rw [if_pos (by decide +kernel)]; kernel_rfl) | (rw [if_neg (by decide +kernel)]; exact ⟨rfl, rfl⟩))
    (fun os started H enc _ => lifted os started H enc)

/-- The statement: the tied card. -/
theorem proved : Rows.PaschalJulianCardSaid :=
  Claim7.holds_tied_plain_at .later [] [.data, .data, .data, .data, .data] true (true, "1237d3f1e50856818fa86864392605a27e6a3b74ca523ef2395e1d47a8fcbeee") false
    over (fun _ h => by cases h) (by kernel_rfl) (fun _ h => by cases h) paschalJulian_row_tie rfl ⟨rfl, rfl⟩ (by kernel_rfl) rfl
    (fun f fn hf hfn => by
      obtain rfl : f = 6 := Option.some.inj ((show Tryd.prog.funcNamed "computus/computuslaw09.PaschalJulian" = some 6 by kernel_rfl).symm.trans hf) |>.symm
      obtain rfl : fn = Tryd.f6 := (Option.some.inj (Tryd.func6.symm.trans hfn)).symm
      exact ⟨by kernel_rfl, fun j t ht => by
        rw [Tryd.params6] at ht
        have hm : t ∈ [3, 3] := by simpa using Array.mem_of_getElem? ht
        have hall : ([3, 3].all fun u => !Tryd.prog.wantsStandIn u) = true := by kernel_rfl
        exact (show Tryd.prog.wantsStandIn t = false by simpa using List.all_eq_true.1 hall t hm)⟩)
    (by kernel_rfl)
#print axioms proved
end Go.Proofs.YtodmpmcnlbkhhaaDoor.paschalJulian
