/- Proved: for every 64-bit integer year, the law OrthodoxGap of package computuslaw13 (the gap is a multiple of 7, and from 0 to 42 for the years from 1583 to 2399) returns true, and what was in memory is as it was. Condition: the tables of packages julian, gregorian and label (the lengths of the months, the groups of years, the beginnings of the lunations) read as the program's text lays them (the card ties them). -/
import Derived.Test.YtnfeihbkemgecaaDoorKq
import Derived.Test.YtnfeihbkemgecaaDoorVy
import Derived.WalkKit
import Derived.ProofKit
import Derived.OpenShut
import Derived.ShutString
import Derived.Lib.SmallJoins
import Derived.LaidMore
import Derived.Stop.Joined
import Derived.SevenTiedAt
import Derived.Test.YtnfeihbkemgecaaDoorCards
import Derived.Test.YtnfeihbkemgecaaDoorTie
namespace Go.Proofs.YtnfeihbkemgecaaDoor.orthodoxGap
open Go.ChangeShapes Go.WideShapes Go.ChangeAt Go.RowKit Go.Joins
open Go.ChangeMaps (open_string shut_string)
set_option linter.unusedVariables false      -- a walk need not use every fact

theorem walk_a (y : Int)
    (HG : ∀ w, Calls Tryd.prog 12 #[.int .i64 y] w fun e w' => e = .returned (.bool false) ∧ w = w')
    (W : World) (ht : PT W) :
    Calls Tryd.prog 4 #[.int .i64 y] W fun e w' => e = .returned (.bool true) ∧ Below W.heap.size W w' := by
  have S0 := Lib.hid (PSt.start ht)
  clear ht
  go_enter Tryd.func4, Tryd.ntmps4
  go_wp2_with fail
  refine (c13awake_any _ S0.out.t).mono ?_
  rintro e w1 ⟨rfl, hb1⟩
  have S1 := Lib.hid (S0.out.on hb1)
  clear hb1
  go_wp2_with fail
  refine (HG _).mono ?_
  rintro e wq ⟨rfl, rfl⟩
  go_wp2_with fail
  refine (c13awake_any _ S1.out.t).mono ?_
  rintro e w2 ⟨rfl, hb2⟩
  have S2 := Lib.hid (S1.out.on hb2)
  clear hb2
  go_wp2_with fail
  go_ret
  exact ⟨rfl, S2.out.b⟩
set_option maxRecDepth 100000 in
set_option maxHeartbeats 1000000 in
theorem walk_far (y n : Int)
    (HG : ∀ w, Calls Tryd.prog 12 #[.int .i64 y] w fun e w' => e = .returned (.bool true) ∧ w = w')
    (H1 : ∀ w, PT w → Calls Tryd.prog 13 #[.int .i64 y] w fun e w' => e = .returned (numv n 0) ∧ Below w.heap.size w w')
    (n1 : -365250000033 ≤ n) (n2 : n ≤ 365250000033) (e1 : (n.tmod 7 != 0) = false)
    (e2 : decide (2399 < y) = true)
    (W : World) (ht : PT W) :
    Calls Tryd.prog 4 #[.int .i64 y] W fun e w' => e = .returned (.bool true) ∧ Below W.heap.size W w' := by
  have S0 := Lib.hid (PSt.start ht)
  clear ht
  go_enter Tryd.func4, Tryd.ntmps4
  go_wp2_with fail
  refine (c13awake_any _ S0.out.t).mono ?_
  rintro e w1 ⟨rfl, hb1⟩
  have S1 := Lib.hid (S0.out.on hb1)
  clear hb1
  go_wp2_with fail
  refine (HG _).mono ?_
  rintro e wq ⟨rfl, rfl⟩
  go_wp2_with fail
  refine (H1 _ S1.out.t).mono ?_
  rintro e w2 ⟨rfl, hb2⟩
  have S2 := Lib.hid (S1.out.on hb2)
  clear hb2
  go_wp2_with fail
  go_ret
  exact ⟨rfl, S2.out.b⟩
set_option maxRecDepth 100000 in
set_option maxHeartbeats 1000000 in
theorem walk_near (y n : Int)
    (HG : ∀ w, Calls Tryd.prog 12 #[.int .i64 y] w fun e w' => e = .returned (.bool true) ∧ w = w')
    (H1 : ∀ w, PT w → Calls Tryd.prog 13 #[.int .i64 y] w fun e w' => e = .returned (numv n 0) ∧ Below w.heap.size w w')
    (n1 : -365250000033 ≤ n) (n2 : n ≤ 365250000033) (e1 : (n.tmod 7 != 0) = false)
    (e2 : decide (2399 < y) = false) (e3 : decide (0 ≤ n) = true) (e4 : decide (n ≤ 42) = true)
    (W : World) (ht : PT W) :
    Calls Tryd.prog 4 #[.int .i64 y] W fun e w' => e = .returned (.bool true) ∧ Below W.heap.size W w' := by
  have S0 := Lib.hid (PSt.start ht)
  clear ht
  go_enter Tryd.func4, Tryd.ntmps4
  go_wp2_with fail
  refine (c13awake_any _ S0.out.t).mono ?_
  rintro e w1 ⟨rfl, hb1⟩
  have S1 := Lib.hid (S0.out.on hb1)
  clear hb1
  go_wp2_with fail
  refine (HG _).mono ?_
  rintro e wq ⟨rfl, rfl⟩
  go_wp2_with fail
  refine (H1 _ S1.out.t).mono ?_
  rintro e w2 ⟨rfl, hb2⟩
  have S2 := Lib.hid (S1.out.on hb2)
  clear hb2
  go_wp2_with fail
  go_ret
  exact ⟨rfl, S2.out.b⟩
theorem walk (y : Int) (w0 : (Lit.int .i64 y).wf = true) (W : World) (ht0 : CTab W ∧ LTab W) :
    Calls Tryd.prog 4 #[.int .i64 y] W fun e w' => e = .returned (.bool true) ∧ Below W.heap.size W w' := by
  have ht : PT W := ⟨ht0.1, ht0.2⟩
  have HG := fun w => rgre_any y w
  by_cases h : inG y = true
  · have g : epE 2 y = 0 := by rw [epE_two, if_pos h]
    have H1 := fun w ht => ogap_any y w ht
    rw [h] at HG
    rw [g] at H1
    have b := og_bd g
    have e1 : ((ogN y).tmod 7 != 0) = false := by
      have : (ogN y).tmod 7 = 0 := Int.tmod_eq_zero_of_dvd (Int.dvd_of_emod_eq_zero (og_week g))
      rw [this]; rfl
    by_cases f : 2399 < y
    · exact walk_far y _ HG H1 b.1 b.2 e1 (decide_eq_true f) W ht
    · have c := og_42 (inG_iff.1 h).1 (by omega : y ≤ 2399)
      exact walk_near y _ HG H1 b.1 b.2 e1 (decide_eq_false f) (decide_eq_true c.1) (decide_eq_true c.2) W ht
  · have h' : inG y = false := by simpa using h
    rw [h'] at HG
    exact walk_a y HG W ht

/-! ### the row's step -/
set_option maxRecDepth 100000 in
theorem lifted (os : Os) (started : os.Started) (H : Type) (enc : TypeId × Value → H) :
    ReturnsInHanded {} Tryd.checked os 4 .any (fun w args => (Rows.orthodoxGapSpec.pre enc Tryd.prog Tryd.f4 [] false w args ∧ laidMetH Tryd.prog laidL w) ∧ sizedMet enc Tryd.prog Tryd.f4 (OpenSpec.ofChange Rows.orthodoxGapSpec) false w args)
      (Rows.orthodoxGapSpec.post enc Tryd.prog Tryd.f4 false true false false) := by
  refine returnsInHanded_of_change_and (C := Tryd.checked) (X := fun w _ => laidMetH Tryd.prog laidL w) (fun _ _ _ hh h => h.of_heap hh) own started (by kernel_rfl) Tryd.func4
    (ChangeSpec.witness_shaped (enc := enc) (C := Tryd.checked) (os := os) (X := fun w _ => laidMetH Tryd.prog laidL w) false (World.doorLaid Tryd.prog 400 os) #[.int .i64 0] 8 rfl (World.shaped_of_RefB (by kernel_rfl) (by kernel_rfl)) (by kernel_rfl) (by kernel_rfl) (by kernel_rfl) (door_met os _)) ?_
  intro W base args ds gs before hval0 hW _ _ hL _
  have hval : ∀ (j : Nat) t v, Tryd.f4.params[j]? = some t → args[j]? = some v → Value.okWide Tryd.prog W .any base t v := hval0
  have hW' := hW
  obtain ⟨p, q, hA0, hV, rfl, hfz, hnd⟩ := hW
  have hA : DataW.TrodAll enc Tryd.prog W 0 (fun _ => true) true Tryd.f4.params.toList args.toList ds p := hA0
  rw [Tryd.params4] at hA hval
  obtain ⟨v0, vs0, d0, ds0, p0, q0, hargs, rfl, rfl, h0, r0⟩ := trodAll_cons hA
  obtain ⟨rfl, rfl, rfl⟩ := trodAll_nil r0
  obtain rfl : args = #[v0] := by cases args; simp_all
  obtain ⟨rfl, rfl⟩ := trodVars_none hV
  obtain ⟨a0, rfl, rfl, rfl, w0⟩ := open_int Tryd.underlying3 (hval 0 3 v0 rfl rfl) h0
  clear hA0 hval0
  simp only [List.append_nil] at hW'
  refine (walk a0 w0 W (laid_facts hL)).mono fun e W' ⟨he, bel⟩ => ?_
  subst he
  exact ⟨_, rfl, _, _, _, [], _, [], hW', trodAll_mk1 (shut_bool Tryd.underlying4 _), (trodAll_cons_mk (shut_int Tryd.underlying3 w0) trodAll_mk0), rfl, bel.frame _, fun h => by cases h⟩

theorem over : Rows.orthodoxGapRow.holds Tryd.pinned (OpenSpec.ofChange Rows.orthodoxGapSpec) :=
  OpenClaim.holds_of_wide 4 Tryd.f4 rfl rfl rfl rfl rfl rfl rfl ⟨rfl, rfl, rfl, rfl, rfl⟩ rfl rfl rfl rfl rfl (by kernel_rfl) Tryd.func4 (by kernel_rfl)
    (of_decide_eq_true (by kernel_rfl)) (by unfold Func.isWrapper; first | (rw [if_pos (by decide +kernel)]; kernel_rfl) | (rw [if_neg (by decide +kernel)]; exact ⟨rfl, rfl⟩))
    (fun os started H enc _ => lifted os started H enc)

/-- The statement: the tied card. -/
theorem proved : Rows.OrthodoxGapCardSaid :=
  Claim7.holds_tied_plain_at .later [] [.data, .data, .data, .data, .data] true (true, "bd555704cdfadddd03ed316e5a809b28249dbd0bd2b603a59f5f6bb600bfe636") false
    over (fun _ h => by cases h) (by kernel_rfl) (fun _ h => by cases h) orthodoxGap_row_tie rfl ⟨rfl, rfl⟩ (by kernel_rfl) rfl
    (fun f fn hf hfn => by
      obtain rfl : f = 4 := Option.some.inj ((show Tryd.prog.funcNamed "computus/computuslaw13.OrthodoxGap" = some 4 by kernel_rfl).symm.trans hf) |>.symm
      obtain rfl : fn = Tryd.f4 := (Option.some.inj (Tryd.func4.symm.trans hfn)).symm
      exact ⟨by kernel_rfl, fun j t ht => by
        rw [Tryd.params4] at ht
        have hm : t ∈ [3] := by simpa using Array.mem_of_getElem? ht
        have hall : ([3].all fun u => !Tryd.prog.wantsStandIn u) = true := by kernel_rfl
        exact (show Tryd.prog.wantsStandIn t = false by simpa using List.all_eq_true.1 hall t hm)⟩)
    (by kernel_rfl)
#print axioms proved
end Go.Proofs.YtnfeihbkemgecaaDoor.orthodoxGap
