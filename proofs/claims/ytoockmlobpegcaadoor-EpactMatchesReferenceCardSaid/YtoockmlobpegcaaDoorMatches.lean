/- Proved: for all 64-bit integers calendar, year and label, the law EpactMatchesReference of package computuslaw07 (each function of package epact answers as its reference does) returns true, and what was in memory is as it was. Condition: the listed tables of the library read as the program's text lays them (the card ties them; the proof reads none of them). -/
import Derived.Test.YtoockmlobpegcaaDoorEe
import Derived.Test.YtoockmlobpegcaaDoorVy
import Derived.WalkKit
import Derived.ProofKit
import Derived.OpenShut
import Derived.ShutString
import Derived.Lib.SmallJoins
import Derived.LaidMore
import Derived.Stop.Joined
import Derived.SevenTiedAt
import Derived.Test.YtoockmlobpegcaaDoorCards
import Derived.Test.YtoockmlobpegcaaDoorTie
namespace Go.Proofs.YtoockmlobpegcaaDoor.epactMatchesReference
open Go.ChangeShapes Go.WideShapes Go.ChangeAt Go.RowKit Go.Joins
open Go.ChangeMaps (open_string shut_string)
set_option linter.unusedVariables false      -- a walk need not use every fact

theorem walk_err (c y l k : Int) (s : ByteArray) (hk : (k != 0) = true)
    (HO : ∀ w, Calls Tryd.prog 9 #[.int .i64 c, .int .i64 y] w fun e w' => e = .returned (numv 0 k) ∧ Below w.heap.size w w')
    (HL : ∀ w, Calls Tryd.prog 10 #[.int .i64 c, .int .i64 y] w fun e w' => e = .returned (numv 0 k) ∧ Below w.heap.size w w')
    (HF : ∀ w, Calls Tryd.prog 11 #[.int .i64 c, .int .i64 y] w fun e w' => e = .returned (.int .i64 k) ∧ w = w')
    (HN : ∀ w, Calls Tryd.prog 12 #[.int .i64 l] w fun e w' => e = .returned (.string s) ∧ w = w')
    (HR : ∀ w, Calls Tryd.prog 13 #[.int .i64 l] w fun e w' => e = .returned (.string s) ∧ Below w.heap.size w w')
    (W : World) :
    Calls Tryd.prog 3 #[.int .i64 c, .int .i64 y, .int .i64 l] W fun e w' => e = .returned (.bool true) ∧ Below W.heap.size W w' := by
  have S0 := Lib.hid (Below.refl W.heap.size W)
  go_enter Tryd.func3, Tryd.ntmps3
  go_wp2_with fail
  refine (c7awake_any _).mono ?_
  rintro e w1 ⟨rfl, hb1⟩
  have S1 := Lib.hid (below_on S0.out hb1)
  clear hb1
  go_wp2_with fail
  refine (HO _).mono ?_
  rintro e w2 ⟨rfl, hb2⟩
  have S2 := Lib.hid (below_on S1.out hb2)
  clear hb2
  go_wp2_with fail
  refine (HL _).mono ?_
  rintro e w3 ⟨rfl, hb3⟩
  have S3 := Lib.hid (below_on S2.out hb3)
  clear hb3
  go_wp2_with fail
  refine (HF _).mono ?_
  rintro e wq ⟨rfl, rfl⟩
  go_wp2_with fail
  refine (HN _).mono ?_
  rintro e wq ⟨rfl, rfl⟩
  go_wp2_with fail
  refine (HR _).mono ?_
  rintro e w4 ⟨rfl, hb4⟩
  have S4 := Lib.hid (below_on S3.out hb4)
  clear hb4
  go_wp2_with fail
  go_ret
  exact ⟨rfl, S4.out⟩
theorem walk_ok (c y l a b : Int) (s : ByteArray) 
    (HO : ∀ w, Calls Tryd.prog 9 #[.int .i64 c, .int .i64 y] w fun e w' => e = .returned (numv a 0) ∧ Below w.heap.size w w')
    (HL : ∀ w, Calls Tryd.prog 10 #[.int .i64 c, .int .i64 y] w fun e w' => e = .returned (numv b 0) ∧ Below w.heap.size w w')
    (HF : ∀ w, Calls Tryd.prog 11 #[.int .i64 c, .int .i64 y] w fun e w' => e = .returned (.int .i64 0) ∧ w = w')
    (HN : ∀ w, Calls Tryd.prog 12 #[.int .i64 l] w fun e w' => e = .returned (.string s) ∧ w = w')
    (HR : ∀ w, Calls Tryd.prog 13 #[.int .i64 l] w fun e w' => e = .returned (.string s) ∧ Below w.heap.size w w')
    (RO : ∀ w, Calls Tryd.prog 14 #[.int .i64 c, .int .i64 y] w fun e w' => e = .returned (.int .i64 a) ∧ w = w')
    (RL : ∀ w, Calls Tryd.prog 15 #[.int .i64 c, .int .i64 y] w fun e w' => e = .returned (.int .i64 b) ∧ w = w')
    (W : World) :
    Calls Tryd.prog 3 #[.int .i64 c, .int .i64 y, .int .i64 l] W fun e w' => e = .returned (.bool true) ∧ Below W.heap.size W w' := by
  have S0 := Lib.hid (Below.refl W.heap.size W)
  go_enter Tryd.func3, Tryd.ntmps3
  go_wp2_with fail
  refine (c7awake_any _).mono ?_
  rintro e w1 ⟨rfl, hb1⟩
  have S1 := Lib.hid (below_on S0.out hb1)
  clear hb1
  go_wp2_with fail
  refine (HO _).mono ?_
  rintro e w2 ⟨rfl, hb2⟩
  have S2 := Lib.hid (below_on S1.out hb2)
  clear hb2
  go_wp2_with fail
  refine (HL _).mono ?_
  rintro e w3 ⟨rfl, hb3⟩
  have S3 := Lib.hid (below_on S2.out hb3)
  clear hb3
  go_wp2_with fail
  refine (HF _).mono ?_
  rintro e wq ⟨rfl, rfl⟩
  go_wp2_with fail
  refine (HN _).mono ?_
  rintro e wq ⟨rfl, rfl⟩
  go_wp2_with fail
  refine (HR _).mono ?_
  rintro e w4 ⟨rfl, hb4⟩
  have S4 := Lib.hid (below_on S3.out hb4)
  clear hb4
  go_wp2_with fail
  refine (RO _).mono ?_
  rintro e wq ⟨rfl, rfl⟩
  go_wp2_with fail
  refine (RL _).mono ?_
  rintro e wq ⟨rfl, rfl⟩
  go_wp2_with fail
  go_ret
  exact ⟨rfl, S4.out⟩
theorem walk (c y l : Int) (w0 : (Lit.int .i64 c).wf = true) (w1 : (Lit.int .i64 y).wf = true) (w2 : (Lit.int .i64 l).wf = true) (W : World) (_ : True) :
    Calls Tryd.prog 3 #[.int .i64 c, .int .i64 y, .int .i64 l] W fun e w' => e = .returned (.bool true) ∧ Below W.heap.size W w' := by
  have HO := fun w => eOf_any c y w w0
  have HL := fun w => eLab_any c y w w0
  have HF := fun w => rfail_any c y w
  have HN := fun w => nam_any l w
  have HR := fun w => rnam_any l w
  by_cases h : epE c y = 0
  · obtain ⟨e1, e2⟩ := epN_at h
    have RO := fun w => rofe_any c y w h
    have RL := fun w => rlabe_any c y w h
    rw [e1, h] at HO
    rw [e2, h] at HL
    rw [h] at HF
    exact walk_ok c y l _ _ _ HO HL HF HN HR RO RL W
  · obtain ⟨e1, e2⟩ := epN_no h
    rw [e1] at HO
    rw [e2] at HL
    exact walk_err c y l _ _ (by rw [bne_iff_ne]; exact h) HO HL HF HN HR W

/-! ### the row's step -/
set_option maxRecDepth 100000 in
theorem lifted (os : Os) (started : os.Started) (H : Type) (enc : TypeId × Value → H) :
    ReturnsInHanded {} Tryd.checked os 3 .any (fun w args => (Rows.epactMatchesReferenceSpec.pre enc Tryd.prog Tryd.f3 [] false w args ∧ laidMetH Tryd.prog laidL w) ∧ sizedMet enc Tryd.prog Tryd.f3 (OpenSpec.ofChange Rows.epactMatchesReferenceSpec) false w args)
      (Rows.epactMatchesReferenceSpec.post enc Tryd.prog Tryd.f3 false true false false) := by
  refine returnsInHanded_of_change_and (C := Tryd.checked) (X := fun w _ => laidMetH Tryd.prog laidL w) (fun _ _ _ hh h => h.of_heap hh) own started (by kernel_rfl) Tryd.func3
    (ChangeSpec.witness_shaped (enc := enc) (C := Tryd.checked) (os := os) (X := fun w _ => laidMetH Tryd.prog laidL w) false (World.doorLaid Tryd.prog 400 os) #[.int .i64 0, .int .i64 0, .int .i64 0] 8 rfl (World.shaped_of_RefB (by kernel_rfl) (by kernel_rfl)) (by kernel_rfl) (by kernel_rfl) (by kernel_rfl) (door_met os _)) ?_
  intro W base args ds gs before hval0 hW _ _ hL _
  have hval : ∀ (j : Nat) t v, Tryd.f3.params[j]? = some t → args[j]? = some v → Value.okWide Tryd.prog W .any base t v := hval0
  have hW' := hW
  obtain ⟨p, q, hA0, hV, rfl, hfz, hnd⟩ := hW
  have hA : DataW.TrodAll enc Tryd.prog W 0 (fun _ => true) true Tryd.f3.params.toList args.toList ds p := hA0
  rw [Tryd.params3] at hA hval
  obtain ⟨v0, vs0, d0, ds0, p0, q0, hargs, rfl, rfl, h0, r0⟩ := trodAll_cons hA
  obtain ⟨v1, vs1, d1, ds1, p1, q1, rfl, rfl, rfl, h1, r1⟩ := trodAll_cons r0
  obtain ⟨v2, vs2, d2, ds2, p2, q2, rfl, rfl, rfl, h2, r2⟩ := trodAll_cons r1
  obtain ⟨rfl, rfl, rfl⟩ := trodAll_nil r2
  obtain rfl : args = #[v0, v1, v2] := by cases args; simp_all
  obtain ⟨rfl, rfl⟩ := trodVars_none hV
  obtain ⟨a0, rfl, rfl, rfl, w0⟩ := open_int Tryd.underlying3 (hval 0 3 v0 rfl rfl) h0
  obtain ⟨a1, rfl, rfl, rfl, w1⟩ := open_int Tryd.underlying3 (hval 1 3 v1 rfl rfl) h1
  obtain ⟨a2, rfl, rfl, rfl, w2⟩ := open_int Tryd.underlying3 (hval 2 3 v2 rfl rfl) h2
  clear hA0 hval0
  simp only [List.append_nil] at hW'
  refine (walk a0 a1 a2 w0 w1 w2 W (laid_facts hL)).mono fun e W' ⟨he, bel⟩ => ?_
  subst he
  exact ⟨_, rfl, _, _, _, [], _, [], hW', trodAll_mk1 (shut_bool Tryd.underlying4 _), (trodAll_cons_mk (shut_int Tryd.underlying3 w0) (trodAll_cons_mk (shut_int Tryd.underlying3 w1) (trodAll_cons_mk (shut_int Tryd.underlying3 w2) trodAll_mk0))), rfl, bel.frame _, fun h => by cases h⟩

theorem over : Rows.epactMatchesReferenceRow.holds Tryd.pinned (OpenSpec.ofChange Rows.epactMatchesReferenceSpec) :=
  OpenClaim.holds_of_wide 3 Tryd.f3 rfl rfl rfl rfl rfl rfl rfl ⟨rfl, rfl, rfl, rfl, rfl⟩ rfl rfl rfl rfl rfl (by kernel_rfl) Tryd.func3 (by kernel_rfl)
    (of_decide_eq_true (by kernel_rfl)) (by unfold Func.isWrapper; first | (rw [if_pos (by decide +kernel)]; kernel_rfl) | (rw [if_neg (by decide +kernel)]; exact ⟨rfl, rfl⟩))
    (fun os started H enc _ => lifted os started H enc)

/-- The statement: the tied card. -/
theorem proved : Rows.EpactMatchesReferenceCardSaid :=
  Claim7.holds_tied_plain_at .later [] [.data, .data, .data] true (true, "b963811442bab6dbbb09f52966fa8716103917afb5f51ddd846ef8c60cacc619") false
    over (fun _ h => by cases h) (by kernel_rfl) (fun _ h => by cases h) epactMatchesReference_row_tie rfl ⟨rfl, rfl⟩ (by kernel_rfl) rfl
    (fun f fn hf hfn => by
      obtain rfl : f = 3 := Option.some.inj ((show Tryd.prog.funcNamed "computus/computuslaw07.EpactMatchesReference" = some 3 by kernel_rfl).symm.trans hf) |>.symm
      obtain rfl : fn = Tryd.f3 := (Option.some.inj (Tryd.func3.symm.trans hfn)).symm
      exact ⟨by kernel_rfl, fun j t ht => by
        rw [Tryd.params3] at ht
        have hm : t ∈ [3, 3, 3] := by simpa using Array.mem_of_getElem? ht
        have hall : ([3, 3, 3].all fun u => !Tryd.prog.wantsStandIn u) = true := by kernel_rfl
        exact (show Tryd.prog.wantsStandIn t = false by simpa using List.all_eq_true.1 hall t hm)⟩)
    (by kernel_rfl)
#print axioms proved
end Go.Proofs.YtoockmlobpegcaaDoor.epactMatchesReference
