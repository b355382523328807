/- Proved: for all 64-bit integers a and b, the law EpactNames of package computuslaw07 (different labels have different names, and nothing else has a name) returns true, and what was in memory is as it was. Condition: the listed tables of the library read as the program's text lays them (the card ties them; the proof reads none of them). -/
import Derived.Test.YtoockmlobpegcaaDoorEe
import Derived.Test.YtoockmlobpegcaaDoorVy
import Derived.WalkKit
import Derived.ProofKit
import Derived.OpenShut
import Derived.ShutString
import Derived.Lib.SmallJoins
import Derived.LaidMore
import Derived.Stop.Joined
import Derived.SevenTiedAt
import Derived.Test.YtoockmlobpegcaaDoorCards
import Derived.Test.YtoockmlobpegcaaDoorTie
namespace Go.Proofs.YtoockmlobpegcaaDoor.epactNames
open Go.ChangeShapes Go.WideShapes Go.ChangeAt Go.RowKit Go.Joins
open Go.ChangeMaps (open_string shut_string)
set_option linter.unusedVariables false      -- a walk need not use every fact

theorem walk_lo (a b : Int) (r : ByteArray) (h : a < 1)
    (N1 : ∀ w, Calls Tryd.prog 12 #[.int .i64 a] w fun e w' => e = .returned (.string ⟨#[]⟩) ∧ w = w')
    (N2 : ∀ w, Calls Tryd.prog 12 #[.int .i64 b] w fun e w' => e = .returned (.string r) ∧ w = w')
    (W : World) :
    Calls Tryd.prog 7 #[.int .i64 a, .int .i64 b] W fun e w' => e = .returned (.bool true) ∧ Below W.heap.size W w' := by
  have S0 := Lib.hid (Below.refl W.heap.size W)
  go_enter Tryd.func7, Tryd.ntmps7
  go_wp2_with fail
  refine (c7awake_any _).mono ?_
  rintro e w1 ⟨rfl, hb1⟩
  have S1 := Lib.hid (below_on S0.out hb1)
  clear hb1
  go_wp2_with fail
  refine (N1 _).mono ?_
  rintro e wq ⟨rfl, rfl⟩
  go_wp2_with fail
  refine (N2 _).mono ?_
  rintro e wq ⟨rfl, rfl⟩
  go_wp2_with fail
  go_ret
  exact ⟨rfl, S1.out⟩
theorem walk_hi (a b : Int) (r : ByteArray) (h1 : ¬ a < 1) (h : 31 < a) (h2 : decide (a ≤ 31) = false)
    (N1 : ∀ w, Calls Tryd.prog 12 #[.int .i64 a] w fun e w' => e = .returned (.string ⟨#[]⟩) ∧ w = w')
    (N2 : ∀ w, Calls Tryd.prog 12 #[.int .i64 b] w fun e w' => e = .returned (.string r) ∧ w = w')
    (W : World) :
    Calls Tryd.prog 7 #[.int .i64 a, .int .i64 b] W fun e w' => e = .returned (.bool true) ∧ Below W.heap.size W w' := by
  have S0 := Lib.hid (Below.refl W.heap.size W)
  go_enter Tryd.func7, Tryd.ntmps7
  go_wp2_with fail
  refine (c7awake_any _).mono ?_
  rintro e w1 ⟨rfl, hb1⟩
  have S1 := Lib.hid (below_on S0.out hb1)
  clear hb1
  go_wp2_with fail
  refine (N1 _).mono ?_
  rintro e wq ⟨rfl, rfl⟩
  go_wp2_with fail
  refine (N2 _).mono ?_
  rintro e wq ⟨rfl, rfl⟩
  go_wp2_with fail
  go_ret
  exact ⟨rfl, S1.out⟩
theorem walk_ne (a b : Int) (s r : ByteArray) (h1 : 1 ≤ a) (h2 : a ≤ 31) (hs : s.toList.isEmpty = false) (hx : (s.toList == r.toList) = false)
    (N1 : ∀ w, Calls Tryd.prog 12 #[.int .i64 a] w fun e w' => e = .returned (.string s) ∧ w = w')
    (N2 : ∀ w, Calls Tryd.prog 12 #[.int .i64 b] w fun e w' => e = .returned (.string r) ∧ w = w')
    (W : World) :
    Calls Tryd.prog 7 #[.int .i64 a, .int .i64 b] W fun e w' => e = .returned (.bool true) ∧ Below W.heap.size W w' := by
  have S0 := Lib.hid (Below.refl W.heap.size W)
  go_enter Tryd.func7, Tryd.ntmps7
  go_wp2_with fail
  refine (c7awake_any _).mono ?_
  rintro e w1 ⟨rfl, hb1⟩
  have S1 := Lib.hid (below_on S0.out hb1)
  clear hb1
  go_wp2_with fail
  refine (N1 _).mono ?_
  rintro e wq ⟨rfl, rfl⟩
  go_wp2_with fail
  refine (N2 _).mono ?_
  rintro e wq ⟨rfl, rfl⟩
  go_wp2_with fail
  go_ret
  exact ⟨rfl, S1.out⟩
theorem walk_eq (a : Int) (s : ByteArray) (h1 : 1 ≤ a) (h2 : a ≤ 31) (hs : s.toList.isEmpty = false)
    (N1 : ∀ w, Calls Tryd.prog 12 #[.int .i64 a] w fun e w' => e = .returned (.string s) ∧ w = w')
    (W : World) :
    Calls Tryd.prog 7 #[.int .i64 a, .int .i64 a] W fun e w' => e = .returned (.bool true) ∧ Below W.heap.size W w' := by
  have S0 := Lib.hid (Below.refl W.heap.size W)
  go_enter Tryd.func7, Tryd.ntmps7
  go_wp2_with fail
  refine (c7awake_any _).mono ?_
  rintro e w1 ⟨rfl, hb1⟩
  have S1 := Lib.hid (below_on S0.out hb1)
  clear hb1
  go_wp2_with fail
  refine (N1 _).mono ?_
  rintro e wq ⟨rfl, rfl⟩
  go_wp2_with fail
  refine (N1 _).mono ?_
  rintro e wq ⟨rfl, rfl⟩
  go_wp2_with fail
  go_ret
  exact ⟨rfl, S1.out⟩
theorem walk (a b : Int) (w0 : (Lit.int .i64 a).wf = true) (w1 : (Lit.int .i64 b).wf = true) (W : World) (_ : True) :
    Calls Tryd.prog 7 #[.int .i64 a, .int .i64 b] W fun e w' => e = .returned (.bool true) ∧ Below W.heap.size W w' := by
  have N1 := fun w => nam_any a w
  have N2 := fun w => nam_any b w
  by_cases h1 : a < 1
  · rw [lnm_out (Or.inl h1)] at N1; exact walk_lo a b _ h1 N1 N2 W
  · by_cases h2 : 31 < a
    · rw [lnm_out (Or.inr h2)] at N1; exact walk_hi a b _ h1 h2 (decide_eq_false (by omega)) N1 N2 W
    · have hs := lnm_some (a := a) (by omega) (by omega)
      by_cases e : a = b
      · subst e; exact walk_eq a _ (by omega) (by omega) hs N1 W
      · refine walk_ne a b _ _ (by omega) (by omega) hs ?_ N1 N2 W
        by_cases hb : b < 1 ∨ 31 < b
        · rw [lnm_out hb]
          cases hq : ((lnm a).toList == (⟨#[]⟩ : ByteArray).toList) with
          | false => rfl
          | true => rw [bytes_ext hq, ByteArray.toList_eq] at hs; exact absurd hs (by decide)
        · rw [lnm_beq (by omega) (by omega) (by omega) (by omega)]; exact decide_eq_false e

/-! ### the row's step -/
set_option maxRecDepth 100000 in
theorem lifted (os : Os) (started : os.Started) (H : Type) (enc : TypeId × Value → H) :
    ReturnsInHanded {} Tryd.checked os 7 .any (fun w args => (Rows.epactNamesSpec.pre enc Tryd.prog Tryd.f7 [] false w args ∧ laidMetH Tryd.prog laidL w) ∧ sizedMet enc Tryd.prog Tryd.f7 (OpenSpec.ofChange Rows.epactNamesSpec) false w args)
      (Rows.epactNamesSpec.post enc Tryd.prog Tryd.f7 false true false false) := by
  refine returnsInHanded_of_change_and (C := Tryd.checked) (X := fun w _ => laidMetH Tryd.prog laidL w) (fun _ _ _ hh h => h.of_heap hh) own started (by kernel_rfl) Tryd.func7
    (ChangeSpec.witness_shaped (enc := enc) (C := Tryd.checked) (os := os) (X := fun w _ => laidMetH Tryd.prog laidL w) false (World.doorLaid Tryd.prog 400 os) #[.int .i64 0, .int .i64 0] 8 rfl (World.shaped_of_RefB (by kernel_rfl) (by kernel_rfl)) (by kernel_rfl) (by kernel_rfl) (by kernel_rfl) (door_met os _)) ?_
  intro W base args ds gs before hval0 hW _ _ hL _
  have hval : ∀ (j : Nat) t v, Tryd.f7.params[j]? = some t → args[j]? = some v → Value.okWide Tryd.prog W .any base t v := hval0
  have hW' := hW
  obtain ⟨p, q, hA0, hV, rfl, hfz, hnd⟩ := hW
  have hA : DataW.TrodAll enc Tryd.prog W 0 (fun _ => true) true Tryd.f7.params.toList args.toList ds p := hA0
  rw [Tryd.params7] at hA hval
  obtain ⟨v0, vs0, d0, ds0, p0, q0, hargs, rfl, rfl, h0, r0⟩ := trodAll_cons hA
  obtain ⟨v1, vs1, d1, ds1, p1, q1, rfl, rfl, rfl, h1, r1⟩ := trodAll_cons r0
  obtain ⟨rfl, rfl, rfl⟩ := trodAll_nil r1
  obtain rfl : args = #[v0, v1] := by cases args; simp_all
  obtain ⟨rfl, rfl⟩ := trodVars_none hV
  obtain ⟨a0, rfl, rfl, rfl, w0⟩ := open_int Tryd.underlying3 (hval 0 3 v0 rfl rfl) h0
  obtain ⟨a1, rfl, rfl, rfl, w1⟩ := open_int Tryd.underlying3 (hval 1 3 v1 rfl rfl) h1
  clear hA0 hval0
  simp only [List.append_nil] at hW'
  refine (walk a0 a1 w0 w1 W (laid_facts hL)).mono fun e W' ⟨he, bel⟩ => ?_
  subst he
  exact ⟨_, rfl, _, _, _, [], _, [], hW', trodAll_mk1 (shut_bool Tryd.underlying4 _), (trodAll_cons_mk (shut_int Tryd.underlying3 w0) (trodAll_cons_mk (shut_int Tryd.underlying3 w1) trodAll_mk0)), rfl, bel.frame _, fun h => by cases h⟩

theorem over : Rows.epactNamesRow.holds Tryd.pinned (OpenSpec.ofChange Rows.epactNamesSpec) :=
  OpenClaim.holds_of_wide 7 Tryd.f7 rfl rfl rfl rfl rfl rfl rfl ⟨rfl, rfl, rfl, rfl, rfl⟩ rfl rfl rfl rfl rfl (by kernel_rfl) Tryd.func7 (by kernel_rfl)
    (of_decide_eq_true (by kernel_rfl)) (by unfold Func.isWrapper; first | (rw [if_pos (by decide +kernel)]; kernel_rfl) | (rw [if_neg (by decide +kernel)]; exact ⟨rfl, rfl⟩))
    (fun os started H enc _ => lifted os started H enc)

/-- The statement: the tied card. -/
theorem proved : Rows.EpactNamesCardSaid :=
  Claim7.holds_tied_plain_at .later [] [.data, .data, .data] true (true, "b963811442bab6dbbb09f52966fa8716103917afb5f51ddd846ef8c60cacc619") false
    over (fun _ h => by cases h) (by kernel_rfl) (fun _ h => by cases h) epactNames_row_tie rfl ⟨rfl, rfl⟩ (by kernel_rfl) rfl
    (fun f fn hf hfn => by
      obtain rfl : f = 7 := Option.some.inj ((show Tryd.prog.funcNamed "computus/computuslaw07.EpactNames" = some 7 by kernel_rfl).symm.trans hf) |>.symm
      obtain rfl : fn = Tryd.f7 := (Option.some.inj (Tryd.func7.symm.trans hfn)).symm
      exact ⟨by kernel_rfl, fun j t ht => by
        rw [Tryd.params7] at ht
        have hm : t ∈ [3, 3] := by simpa using Array.mem_of_getElem? ht
        have hall : ([3, 3].all fun u => !Tryd.prog.wantsStandIn u) = true := by kernel_rfl
        exact (show Tryd.prog.wantsStandIn t = false by simpa using List.all_eq_true.1 hall t hm)⟩)
    (by kernel_rfl)
#print axioms proved
end Go.Proofs.YtoockmlobpegcaaDoor.epactNames
