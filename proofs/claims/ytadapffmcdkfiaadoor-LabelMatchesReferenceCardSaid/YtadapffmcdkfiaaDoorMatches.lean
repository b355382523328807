/- Proved: for all 64-bit integers month, day and label, the law LabelMatchesReference of package computuslaw08 (each function of package label answers as its reference does) returns true, and what was in memory is as it was. Condition: the two tables of package label (the lengths of the months, the beginnings of the lunations) read as the program's text lays them (the card ties them). -/
import Derived.Test.YtadapffmcdkfiaaDoorLk
import Derived.Test.YtadapffmcdkfiaaDoorLl
import Derived.Test.YtadapffmcdkfiaaDoorVy
import Derived.WalkKit
import Derived.ProofKit
import Derived.OpenShut
import Derived.ShutString
import Derived.Lib.SmallJoins
import Derived.LaidMore
import Derived.Stop.Joined
import Derived.SevenTiedAt
import Derived.Test.YtadapffmcdkfiaaDoorCards
import Derived.Test.YtadapffmcdkfiaaDoorTie
namespace Go.Proofs.YtadapffmcdkfiaaDoor.labelMatchesReference
open Go.ChangeShapes Go.WideShapes Go.ChangeAt Go.RowKit Go.Joins
open Go.ChangeMaps (open_string shut_string)
set_option linter.unusedVariables false      -- a walk need not use every fact

set_option maxHeartbeats 400000 in
theorem walk_mid (m d l : Int) (b : Bool) (l1 : 1 ≤ l) (l2 : l ≤ 31)
    (HB : ∀ w, LTab w → Calls Tryd.prog 14 #[.int .i64 m, .int .i64 d, .int .i64 l] w fun e w' => e = .returned (.bool b) ∧ Below w.heap.size w w')
    (HR : ∀ w, Calls Tryd.prog 15 #[.int .i64 m, .int .i64 d, .int .i64 l] w fun e w' => e = .returned (.bool b) ∧ Below w.heap.size w w')
    (W : World) (ht : LTab W) :
    Calls Tryd.prog 3 #[.int .i64 m, .int .i64 d, .int .i64 l] W fun e w' => e = .returned (.bool true) ∧ Below W.heap.size W w' := by
  have HB' := Lib.hid HB
  clear HB
  have HR' := Lib.hid HR
  clear HR
  have HP := Lib.hid (fun w ht => lpos_any m d w ht)
  have HQ := Lib.hid (fun w => rpos_any m d w)
  have HO := Lib.hid (fun w ht => lon_any m d w ht)
  have HN := Lib.hid (fun w => ron_any m d w)
  generalize lunM m d = k at *
  generalize posM m d = p at *
  generalize okD m d = ok at *
  generalize onD m d = xs at *
  cases ok
  all_goals
    cases b
    all_goals
      have S0 := Lib.hid (Below.refl W.heap.size W)
      have T0 := Lib.hid ht
      clear ht
      go_enter Tryd.func3, Tryd.ntmps3
      go_wp2_with fail
      refine (c8awake_any _ T0.out).mono ?_
      rintro e w1 ⟨rfl, hb1⟩
      have S1 := Lib.hid (below_on S0.out hb1)
      have T1 := Lib.hid (T0.out.on hb1)
      clear hb1
      go_wp2_with fail
      refine (HP.out _ T1.out).mono ?_
      rintro e w2 ⟨rfl, hb2⟩
      have S2 := Lib.hid (below_on S1.out hb2)
      have T2 := Lib.hid (T1.out.on hb2)
      clear hb2
      go_wp2_with fail
      refine (HQ.out _).mono ?_
      rintro e w3 ⟨rfl, hb3⟩
      have S3 := Lib.hid (below_on S2.out hb3)
      have T3 := Lib.hid (T2.out.on hb3)
      clear hb3
      go_wp2_with fail
      refine (HO.out _ T3.out).mono ?_
      rintro e w4 ⟨va, rfl, hvva, hb4⟩
      have S4 := Lib.hid (below_on S3.out hb4)
      have T4 := Lib.hid (T3.out.on hb4)
      clear hb4
      have Vva_4 := Lib.hid hvva
      clear hvva
      go_wp2_with fail
      refine (HN.out _).mono ?_
      rintro e w5 ⟨vb, rfl, hvvb, hb5⟩
      have S5 := Lib.hid (below_on S4.out hb5)
      have T5 := Lib.hid (T4.out.on hb5)
      have Vva_5 := Lib.hid (Vva_4.out.on hb5)
      clear hb5
      have Vvb_5 := Lib.hid hvvb
      clear hvvb
      go_wp2_with fail
      refine (nums_yes va vb xs _ Vva_5.out Vvb_5.out).mono ?_
      rintro e w6 ⟨rfl, hb6⟩
      have S6 := Lib.hid (below_on S5.out hb6)
      have T6 := Lib.hid (T5.out.on hb6)
      clear hb6
      go_wp2_with fail
      refine (HB'.out _ T6.out).mono ?_
      rintro e w7 ⟨rfl, hb7⟩
      have S7 := Lib.hid (below_on S6.out hb7)
      have T7 := Lib.hid (T6.out.on hb7)
      clear hb7
      go_wp2_with fail
      refine (HR'.out _).mono ?_
      rintro e w8 ⟨rfl, hb8⟩
      have S8 := Lib.hid (below_on S7.out hb8)
      have T8 := Lib.hid (T7.out.on hb8)
      clear hb8
      go_wp2_with fail
      go_ret
      exact ⟨rfl, S8.out⟩
set_option maxHeartbeats 400000 in
theorem walk_lo (m d l : Int) (b : Bool) (l1 : l < 1) (hb : b = false)
    (HB : ∀ w, LTab w → Calls Tryd.prog 14 #[.int .i64 m, .int .i64 d, .int .i64 l] w fun e w' => e = .returned (.bool b) ∧ Below w.heap.size w w')
    (W : World) (ht : LTab W) :
    Calls Tryd.prog 3 #[.int .i64 m, .int .i64 d, .int .i64 l] W fun e w' => e = .returned (.bool true) ∧ Below W.heap.size W w' := by
  have HB' := Lib.hid HB
  clear HB
  have HP := Lib.hid (fun w ht => lpos_any m d w ht)
  have HQ := Lib.hid (fun w => rpos_any m d w)
  have HO := Lib.hid (fun w ht => lon_any m d w ht)
  have HN := Lib.hid (fun w => ron_any m d w)
  generalize lunM m d = k at *
  generalize posM m d = p at *
  generalize okD m d = ok at *
  generalize onD m d = xs at *
  subst hb
  cases ok
  all_goals
    have S0 := Lib.hid (Below.refl W.heap.size W)
    have T0 := Lib.hid ht
    clear ht
    go_enter Tryd.func3, Tryd.ntmps3
    go_wp2_with fail
    refine (c8awake_any _ T0.out).mono ?_
    rintro e w1 ⟨rfl, hb1⟩
    have S1 := Lib.hid (below_on S0.out hb1)
    have T1 := Lib.hid (T0.out.on hb1)
    clear hb1
    go_wp2_with fail
    refine (HP.out _ T1.out).mono ?_
    rintro e w2 ⟨rfl, hb2⟩
    have S2 := Lib.hid (below_on S1.out hb2)
    have T2 := Lib.hid (T1.out.on hb2)
    clear hb2
    go_wp2_with fail
    refine (HQ.out _).mono ?_
    rintro e w3 ⟨rfl, hb3⟩
    have S3 := Lib.hid (below_on S2.out hb3)
    have T3 := Lib.hid (T2.out.on hb3)
    clear hb3
    go_wp2_with fail
    refine (HO.out _ T3.out).mono ?_
    rintro e w4 ⟨va, rfl, hvva, hb4⟩
    have S4 := Lib.hid (below_on S3.out hb4)
    have T4 := Lib.hid (T3.out.on hb4)
    clear hb4
    have Vva_4 := Lib.hid hvva
    clear hvva
    go_wp2_with fail
    refine (HN.out _).mono ?_
    rintro e w5 ⟨vb, rfl, hvvb, hb5⟩
    have S5 := Lib.hid (below_on S4.out hb5)
    have T5 := Lib.hid (T4.out.on hb5)
    have Vva_5 := Lib.hid (Vva_4.out.on hb5)
    clear hb5
    have Vvb_5 := Lib.hid hvvb
    clear hvvb
    go_wp2_with fail
    refine (nums_yes va vb xs _ Vva_5.out Vvb_5.out).mono ?_
    rintro e w6 ⟨rfl, hb6⟩
    have S6 := Lib.hid (below_on S5.out hb6)
    have T6 := Lib.hid (T5.out.on hb6)
    clear hb6
    go_wp2_with fail
    refine (HB'.out _ T6.out).mono ?_
    rintro e w7 ⟨rfl, hb7⟩
    have S7 := Lib.hid (below_on S6.out hb7)
    have T7 := Lib.hid (T6.out.on hb7)
    clear hb7
    go_wp2_with fail
    go_ret
    exact ⟨rfl, S7.out⟩
set_option maxHeartbeats 400000 in
theorem walk_hi (m d l : Int) (b : Bool) (l1 : 31 < l) (hb : b = false)
    (HB : ∀ w, LTab w → Calls Tryd.prog 14 #[.int .i64 m, .int .i64 d, .int .i64 l] w fun e w' => e = .returned (.bool b) ∧ Below w.heap.size w w')
    (W : World) (ht : LTab W) :
    Calls Tryd.prog 3 #[.int .i64 m, .int .i64 d, .int .i64 l] W fun e w' => e = .returned (.bool true) ∧ Below W.heap.size W w' := by
  have HB' := Lib.hid HB
  clear HB
  have HP := Lib.hid (fun w ht => lpos_any m d w ht)
  have HQ := Lib.hid (fun w => rpos_any m d w)
  have HO := Lib.hid (fun w ht => lon_any m d w ht)
  have HN := Lib.hid (fun w => ron_any m d w)
  generalize lunM m d = k at *
  generalize posM m d = p at *
  generalize okD m d = ok at *
  generalize onD m d = xs at *
  subst hb
  have e1 : decide (1 ≤ l) = true := decide_eq_true (by omega)
  have e2 : decide (l ≤ 31) = false := decide_eq_false (by omega)
  cases ok
  all_goals
    have S0 := Lib.hid (Below.refl W.heap.size W)
    have T0 := Lib.hid ht
    clear ht
    go_enter Tryd.func3, Tryd.ntmps3
    go_wp2_with fail
    refine (c8awake_any _ T0.out).mono ?_
    rintro e w1 ⟨rfl, hb1⟩
    have S1 := Lib.hid (below_on S0.out hb1)
    have T1 := Lib.hid (T0.out.on hb1)
    clear hb1
    go_wp2_with fail
    refine (HP.out _ T1.out).mono ?_
    rintro e w2 ⟨rfl, hb2⟩
    have S2 := Lib.hid (below_on S1.out hb2)
    have T2 := Lib.hid (T1.out.on hb2)
    clear hb2
    go_wp2_with fail
    refine (HQ.out _).mono ?_
    rintro e w3 ⟨rfl, hb3⟩
    have S3 := Lib.hid (below_on S2.out hb3)
    have T3 := Lib.hid (T2.out.on hb3)
    clear hb3
    go_wp2_with fail
    refine (HO.out _ T3.out).mono ?_
    rintro e w4 ⟨va, rfl, hvva, hb4⟩
    have S4 := Lib.hid (below_on S3.out hb4)
    have T4 := Lib.hid (T3.out.on hb4)
    clear hb4
    have Vva_4 := Lib.hid hvva
    clear hvva
    go_wp2_with fail
    refine (HN.out _).mono ?_
    rintro e w5 ⟨vb, rfl, hvvb, hb5⟩
    have S5 := Lib.hid (below_on S4.out hb5)
    have T5 := Lib.hid (T4.out.on hb5)
    have Vva_5 := Lib.hid (Vva_4.out.on hb5)
    clear hb5
    have Vvb_5 := Lib.hid hvvb
    clear hvvb
    go_wp2_with fail
    refine (nums_yes va vb xs _ Vva_5.out Vvb_5.out).mono ?_
    rintro e w6 ⟨rfl, hb6⟩
    have S6 := Lib.hid (below_on S5.out hb6)
    have T6 := Lib.hid (T5.out.on hb6)
    clear hb6
    go_wp2_with fail
    refine (HB'.out _ T6.out).mono ?_
    rintro e w7 ⟨rfl, hb7⟩
    have S7 := Lib.hid (below_on S6.out hb7)
    have T7 := Lib.hid (T6.out.on hb7)
    clear hb7
    go_wp2_with fail
    go_ret
    exact ⟨rfl, S7.out⟩
theorem walk (m d l : Int) (w0 : (Lit.int .i64 m).wf = true) (w1 : (Lit.int .i64 d).wf = true) (w2 : (Lit.int .i64 l).wf = true) (W : World) (ht : LTab W) :
    Calls Tryd.prog 3 #[.int .i64 m, .int .i64 d, .int .i64 l] W fun e w' => e = .returned (.bool true) ∧ Below W.heap.size W w' := by
  by_cases h1 : l < 1
  · exact walk_lo m d l false h1 rfl (lbears_is m d l false (bears_out (Or.inl h1))) W ht
  · by_cases h2 : 31 < l
    · exact walk_hi m d l false h2 rfl (lbears_is m d l false (bears_out (Or.inr h2))) W ht
    · exact walk_mid m d l (bears m d l) (by omega) (by omega) (fun w ht => lbears_any m d l w ht) (fun w => rbears_any m d l w) W ht

/-! ### the row's step -/
set_option maxRecDepth 100000 in
theorem lifted (os : Os) (started : os.Started) (H : Type) (enc : TypeId × Value → H) :
    ReturnsInHanded {} Tryd.checked os 3 .any (fun w args => (Rows.labelMatchesReferenceSpec.pre enc Tryd.prog Tryd.f3 [] false w args ∧ laidMetH Tryd.prog laidL w) ∧ sizedMet enc Tryd.prog Tryd.f3 (OpenSpec.ofChange Rows.labelMatchesReferenceSpec) false w args)
      (Rows.labelMatchesReferenceSpec.post enc Tryd.prog Tryd.f3 false true false false) := by
  refine returnsInHanded_of_change_and (C := Tryd.checked) (X := fun w _ => laidMetH Tryd.prog laidL w) (fun _ _ _ hh h => h.of_heap hh) own started (by kernel_rfl) Tryd.func3
    (ChangeSpec.witness_shaped (enc := enc) (C := Tryd.checked) (os := os) (X := fun w _ => laidMetH Tryd.prog laidL w) false (World.doorLaid Tryd.prog 400 os) #[.int .i64 0, .int .i64 0, .int .i64 0] 8 rfl (World.shaped_of_RefB (by kernel_rfl) (by kernel_rfl)) (by kernel_rfl) (by kernel_rfl) (by kernel_rfl) (door_met os _)) ?_
  intro W base args ds gs before hval0 hW _ _ hL _
  have hval : ∀ (j : Nat) t v, Tryd.f3.params[j]? = some t → args[j]? = some v → Value.okWide Tryd.prog W .any base t v := hval0
  have hW' := hW
  obtain ⟨p, q, hA0, hV, rfl, hfz, hnd⟩ := hW
  have hA : DataW.TrodAll enc Tryd.prog W 0 (fun _ => true) true Tryd.f3.params.toList args.toList ds p := hA0
  rw [Tryd.params3] at hA hval
  obtain ⟨v0, vs0, d0, ds0, p0, q0, hargs, rfl, rfl, h0, r0⟩ := trodAll_cons hA
  obtain ⟨v1, vs1, d1, ds1, p1, q1, rfl, rfl, rfl, h1, r1⟩ := trodAll_cons r0
  obtain ⟨v2, vs2, d2, ds2, p2, q2, rfl, rfl, rfl, h2, r2⟩ := trodAll_cons r1
  obtain ⟨rfl, rfl, rfl⟩ := trodAll_nil r2
  obtain rfl : args = #[v0, v1, v2] := by cases args; simp_all
  obtain ⟨rfl, rfl⟩ := trodVars_none hV
  obtain ⟨a0, rfl, rfl, rfl, w0⟩ := open_int Tryd.underlying3 (hval 0 3 v0 rfl rfl) h0
  obtain ⟨a1, rfl, rfl, rfl, w1⟩ := open_int Tryd.underlying3 (hval 1 3 v1 rfl rfl) h1
  obtain ⟨a2, rfl, rfl, rfl, w2⟩ := open_int Tryd.underlying3 (hval 2 3 v2 rfl rfl) h2
  clear hA0 hval0
  simp only [List.append_nil] at hW'
  refine (walk a0 a1 a2 w0 w1 w2 W (laid_facts hL)).mono fun e W' ⟨he, bel⟩ => ?_
  subst he
  exact ⟨_, rfl, _, _, _, [], _, [], hW', trodAll_mk1 (shut_bool Tryd.underlying4 _), (trodAll_cons_mk (shut_int Tryd.underlying3 w0) (trodAll_cons_mk (shut_int Tryd.underlying3 w1) (trodAll_cons_mk (shut_int Tryd.underlying3 w2) trodAll_mk0))), rfl, bel.frame _, fun h => by cases h⟩

theorem over : Rows.labelMatchesReferenceRow.holds Tryd.pinned (OpenSpec.ofChange Rows.labelMatchesReferenceSpec) :=
  OpenClaim.holds_of_wide 3 Tryd.f3 rfl rfl rfl rfl rfl rfl rfl ⟨rfl, rfl, rfl, rfl, rfl⟩ rfl rfl rfl rfl rfl (by kernel_rfl) Tryd.func3 (by kernel_rfl)
    (of_decide_eq_true (by kernel_rfl)) (by unfold Func.isWrapper; first | (rw [if_pos (by decide +kernel)]; kernel_rfl) | (rw [if_neg (by decide +kernel)]; exact ⟨rfl, rfl⟩))
    (fun os started H enc _ => lifted os started H enc)

/-- The statement: the tied card. -/
theorem proved : Rows.LabelMatchesReferenceCardSaid :=
  Claim7.holds_tied_plain_at .later [] [.data, .data] true (true, "f6ffa58ec8ad8553dd60e95785ec31bbba28e412efade22a3295923f5fa1b12a") false
    over (fun _ h => by cases h) (by kernel_rfl) (fun _ h => by cases h) labelMatchesReference_row_tie rfl ⟨rfl, rfl⟩ (by kernel_rfl) rfl
    (fun f fn hf hfn => by
      obtain rfl : f = 3 := Option.some.inj ((show Tryd.prog.funcNamed "computus/computuslaw08.LabelMatchesReference" = some 3 by kernel_rfl).symm.trans hf) |>.symm
      obtain rfl : fn = Tryd.f3 := (Option.some.inj (Tryd.func3.symm.trans hfn)).symm
      exact ⟨by kernel_rfl, fun j t ht => by
        rw [Tryd.params3] at ht
        have hm : t ∈ [3, 3, 3] := by simpa using Array.mem_of_getElem? ht
        have hall : ([3, 3, 3].all fun u => !Tryd.prog.wantsStandIn u) = true := by kernel_rfl
        exact (show Tryd.prog.wantsStandIn t = false by simpa using List.all_eq_true.1 hall t hm)⟩)
    (by kernel_rfl)
#print axioms proved
end Go.Proofs.YtadapffmcdkfiaaDoor.labelMatchesReference
