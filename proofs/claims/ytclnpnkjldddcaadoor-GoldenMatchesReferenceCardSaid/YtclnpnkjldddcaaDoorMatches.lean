/- Proved: for all 64-bit integers year and calendar, the law GoldenMatchesReference of package computuslaw06 (each function of package golden answers as its reference does) returns true, and what was in memory is as it was. Condition: the tables of months and groups read as the program's text lays them (the card ties them). -/
import Derived.Test.YtclnpnkjldddcaaDoorDe
import Derived.Test.YtclnpnkjldddcaaDoorVy
import Derived.WalkKit
import Derived.ProofKit
import Derived.OpenShut
import Derived.ShutString
import Derived.Lib.SmallJoins
import Derived.LaidMore
import Derived.Stop.Joined
import Derived.SevenTiedAt
import Derived.Test.YtclnpnkjldddcaaDoorCards
import Derived.Test.YtclnpnkjldddcaaDoorTie
namespace Go.Proofs.YtclnpnkjldddcaaDoor.goldenMatchesReference
open Go.ChangeShapes Go.WideShapes Go.ChangeAt Go.RowKit Go.Joins
open Go.ChangeMaps (open_string shut_string)
set_option linter.unusedVariables false      -- a walk need not use every fact

theorem walk_out (y c a b k : Int) 
    (H1 : ∀ w, Calls Tryd.prog 9 #[.int .i64 y] w fun e w' => e = .returned (numv 0 1) ∧ Below w.heap.size w w')
    (H2 : ∀ w, Calls Tryd.prog 10 #[.int .i64 y] w fun e w' => e = .returned (numv 0 1) ∧ Below w.heap.size w w')
    (H3 : ∀ w, Calls Tryd.prog 11 #[.int .i64 y] w fun e w' => e = .returned (numv 0 1) ∧ Below w.heap.size w w')
    (H4 : ∀ w, Calls Tryd.prog 12 #[.int .i64 y] w fun e w' => e = .returned (numv 0 1) ∧ Below w.heap.size w w')
    (HA : ∀ w, CTab w → Calls Tryd.prog 13 #[.int .i64 c, .int .i64 y] w fun e w' => e = .returned (letv a b k) ∧ Below w.heap.size w w')
    (HB : ∀ w, CTab w → Calls Tryd.prog 14 #[.int .i64 c, .int .i64 y] w fun e w' => e = .returned (letv a b k) ∧ Below w.heap.size w w')
    (HI : ∀ w, Calls Tryd.prog 15 #[.int .i64 y] w fun e w' => e = .returned (.bool false) ∧ w = w')
    (HG : ∀ w, Calls Tryd.prog 16 #[.int .i64 y] w fun e w' => e = .returned (.bool false) ∧ w = w')
    (W : World) (ht : CTab W) :
    Calls Tryd.prog 3 #[.int .i64 y, .int .i64 c] W fun e w' => e = .returned (.bool true) ∧ Below W.heap.size W w' := by
  have S0 := Lib.hid (St.start ht)
  clear ht
  go_enter Tryd.func3, Tryd.ntmps3
  go_wp2_with fail
  refine (c6awake_any _ S0.out.t).mono ?_
  rintro e w1 ⟨rfl, hb1⟩
  have S1 := Lib.hid (S0.out.on hb1)
  clear hb1
  go_wp2_with fail
  refine (H1 _).mono ?_
  rintro e w2 ⟨rfl, hb2⟩
  have S2 := Lib.hid (S1.out.on hb2)
  clear hb2
  go_wp2_with fail
  refine (H2 _).mono ?_
  rintro e w3 ⟨rfl, hb3⟩
  have S3 := Lib.hid (S2.out.on hb3)
  clear hb3
  go_wp2_with fail
  refine (H3 _).mono ?_
  rintro e w4 ⟨rfl, hb4⟩
  have S4 := Lib.hid (S3.out.on hb4)
  clear hb4
  go_wp2_with fail
  refine (H4 _).mono ?_
  rintro e w5 ⟨rfl, hb5⟩
  have S5 := Lib.hid (S4.out.on hb5)
  clear hb5
  go_wp2_with fail
  refine (HA _ S5.out.t).mono ?_
  rintro e w6 ⟨rfl, hb6⟩
  have S6 := Lib.hid (S5.out.on hb6)
  clear hb6
  go_wp2_with fail
  refine (HB _ S6.out.t).mono ?_
  rintro e w7 ⟨rfl, hb7⟩
  have S7 := Lib.hid (S6.out.on hb7)
  clear hb7
  go_wp2_with fail
  refine (HI _).mono ?_
  rintro e wq ⟨rfl, rfl⟩
  go_wp2_with fail
  refine (HG _).mono ?_
  rintro e wq ⟨rfl, rfl⟩
  go_wp2_with fail
  refine (is_no _ _).mono ?_
  rintro e wq ⟨rfl, rfl⟩
  go_wp2_with fail
  refine (is_no _ _).mono ?_
  rintro e wq ⟨rfl, rfl⟩
  go_wp2_with fail
  refine (is_no _ _).mono ?_
  rintro e wq ⟨rfl, rfl⟩
  go_wp2_with fail
  refine (is_no _ _).mono ?_
  rintro e wq ⟨rfl, rfl⟩
  go_wp2_with fail
  go_ret
  exact ⟨rfl, S7.out.b⟩
theorem walk_jul (y c a b k g n s l : Int) 
    (H1 : ∀ w, Calls Tryd.prog 9 #[.int .i64 y] w fun e w' => e = .returned (numv g 0) ∧ Below w.heap.size w w')
    (H2 : ∀ w, Calls Tryd.prog 10 #[.int .i64 y] w fun e w' => e = .returned (numv n 0) ∧ Below w.heap.size w w')
    (H3 : ∀ w, Calls Tryd.prog 11 #[.int .i64 y] w fun e w' => e = .returned (numv 0 1) ∧ Below w.heap.size w w')
    (H4 : ∀ w, Calls Tryd.prog 12 #[.int .i64 y] w fun e w' => e = .returned (numv 0 1) ∧ Below w.heap.size w w')
    (HA : ∀ w, CTab w → Calls Tryd.prog 13 #[.int .i64 c, .int .i64 y] w fun e w' => e = .returned (letv a b k) ∧ Below w.heap.size w w')
    (HB : ∀ w, CTab w → Calls Tryd.prog 14 #[.int .i64 c, .int .i64 y] w fun e w' => e = .returned (letv a b k) ∧ Below w.heap.size w w')
    (HI : ∀ w, Calls Tryd.prog 15 #[.int .i64 y] w fun e w' => e = .returned (.bool true) ∧ w = w')
    (HG : ∀ w, Calls Tryd.prog 16 #[.int .i64 y] w fun e w' => e = .returned (.bool false) ∧ w = w')
    (R1 : ∀ w, Calls Tryd.prog 18 #[.int .i64 y] w fun e w' => e = .returned (.int .i64 g) ∧ w = w')
    (R2 : ∀ w, Calls Tryd.prog 19 #[.int .i64 y] w fun e w' => e = .returned (.int .i64 n) ∧ w = w')
    (R3 : ∀ w, Calls Tryd.prog 20 #[.int .i64 y] w fun e w' => e = .returned (.int .i64 s) ∧ w = w')
    (R4 : ∀ w, Calls Tryd.prog 21 #[.int .i64 y] w fun e w' => e = .returned (.int .i64 l) ∧ w = w')
    (W : World) (ht : CTab W) :
    Calls Tryd.prog 3 #[.int .i64 y, .int .i64 c] W fun e w' => e = .returned (.bool true) ∧ Below W.heap.size W w' := by
  have S0 := Lib.hid (St.start ht)
  clear ht
  go_enter Tryd.func3, Tryd.ntmps3
  go_wp2_with fail
  refine (c6awake_any _ S0.out.t).mono ?_
  rintro e w1 ⟨rfl, hb1⟩
  have S1 := Lib.hid (S0.out.on hb1)
  clear hb1
  go_wp2_with fail
  refine (H1 _).mono ?_
  rintro e w2 ⟨rfl, hb2⟩
  have S2 := Lib.hid (S1.out.on hb2)
  clear hb2
  go_wp2_with fail
  refine (H2 _).mono ?_
  rintro e w3 ⟨rfl, hb3⟩
  have S3 := Lib.hid (S2.out.on hb3)
  clear hb3
  go_wp2_with fail
  refine (H3 _).mono ?_
  rintro e w4 ⟨rfl, hb4⟩
  have S4 := Lib.hid (S3.out.on hb4)
  clear hb4
  go_wp2_with fail
  refine (H4 _).mono ?_
  rintro e w5 ⟨rfl, hb5⟩
  have S5 := Lib.hid (S4.out.on hb5)
  clear hb5
  go_wp2_with fail
  refine (HA _ S5.out.t).mono ?_
  rintro e w6 ⟨rfl, hb6⟩
  have S6 := Lib.hid (S5.out.on hb6)
  clear hb6
  go_wp2_with fail
  refine (HB _ S6.out.t).mono ?_
  rintro e w7 ⟨rfl, hb7⟩
  have S7 := Lib.hid (S6.out.on hb7)
  clear hb7
  go_wp2_with fail
  refine (HI _).mono ?_
  rintro e wq ⟨rfl, rfl⟩
  go_wp2_with fail
  refine (HG _).mono ?_
  rintro e wq ⟨rfl, rfl⟩
  go_wp2_with fail
  refine (R1 _).mono ?_
  rintro e wq ⟨rfl, rfl⟩
  go_wp2_with fail
  refine (is_yes _ _).mono ?_
  rintro e wq ⟨rfl, rfl⟩
  go_wp2_with fail
  refine (R2 _).mono ?_
  rintro e wq ⟨rfl, rfl⟩
  go_wp2_with fail
  refine (is_yes _ _).mono ?_
  rintro e wq ⟨rfl, rfl⟩
  go_wp2_with fail
  refine (R3 _).mono ?_
  rintro e wq ⟨rfl, rfl⟩
  go_wp2_with fail
  refine (is_no _ _).mono ?_
  rintro e wq ⟨rfl, rfl⟩
  go_wp2_with fail
  refine (R4 _).mono ?_
  rintro e wq ⟨rfl, rfl⟩
  go_wp2_with fail
  refine (is_no _ _).mono ?_
  rintro e wq ⟨rfl, rfl⟩
  go_wp2_with fail
  go_ret
  exact ⟨rfl, S7.out.b⟩
theorem walk_greg (y c a b k g n s l : Int) 
    (H1 : ∀ w, Calls Tryd.prog 9 #[.int .i64 y] w fun e w' => e = .returned (numv g 0) ∧ Below w.heap.size w w')
    (H2 : ∀ w, Calls Tryd.prog 10 #[.int .i64 y] w fun e w' => e = .returned (numv n 0) ∧ Below w.heap.size w w')
    (H3 : ∀ w, Calls Tryd.prog 11 #[.int .i64 y] w fun e w' => e = .returned (numv s 0) ∧ Below w.heap.size w w')
    (H4 : ∀ w, Calls Tryd.prog 12 #[.int .i64 y] w fun e w' => e = .returned (numv l 0) ∧ Below w.heap.size w w')
    (HA : ∀ w, CTab w → Calls Tryd.prog 13 #[.int .i64 c, .int .i64 y] w fun e w' => e = .returned (letv a b k) ∧ Below w.heap.size w w')
    (HB : ∀ w, CTab w → Calls Tryd.prog 14 #[.int .i64 c, .int .i64 y] w fun e w' => e = .returned (letv a b k) ∧ Below w.heap.size w w')
    (HI : ∀ w, Calls Tryd.prog 15 #[.int .i64 y] w fun e w' => e = .returned (.bool true) ∧ w = w')
    (HG : ∀ w, Calls Tryd.prog 16 #[.int .i64 y] w fun e w' => e = .returned (.bool true) ∧ w = w')
    (R1 : ∀ w, Calls Tryd.prog 18 #[.int .i64 y] w fun e w' => e = .returned (.int .i64 g) ∧ w = w')
    (R2 : ∀ w, Calls Tryd.prog 19 #[.int .i64 y] w fun e w' => e = .returned (.int .i64 n) ∧ w = w')
    (R3 : ∀ w, Calls Tryd.prog 20 #[.int .i64 y] w fun e w' => e = .returned (.int .i64 s) ∧ w = w')
    (R4 : ∀ w, Calls Tryd.prog 21 #[.int .i64 y] w fun e w' => e = .returned (.int .i64 l) ∧ w = w')
    (W : World) (ht : CTab W) :
    Calls Tryd.prog 3 #[.int .i64 y, .int .i64 c] W fun e w' => e = .returned (.bool true) ∧ Below W.heap.size W w' := by
  have S0 := Lib.hid (St.start ht)
  clear ht
  go_enter Tryd.func3, Tryd.ntmps3
  go_wp2_with fail
  refine (c6awake_any _ S0.out.t).mono ?_
  rintro e w1 ⟨rfl, hb1⟩
  have S1 := Lib.hid (S0.out.on hb1)
  clear hb1
  go_wp2_with fail
  refine (H1 _).mono ?_
  rintro e w2 ⟨rfl, hb2⟩
  have S2 := Lib.hid (S1.out.on hb2)
  clear hb2
  go_wp2_with fail
  refine (H2 _).mono ?_
  rintro e w3 ⟨rfl, hb3⟩
  have S3 := Lib.hid (S2.out.on hb3)
  clear hb3
  go_wp2_with fail
  refine (H3 _).mono ?_
  rintro e w4 ⟨rfl, hb4⟩
  have S4 := Lib.hid (S3.out.on hb4)
  clear hb4
  go_wp2_with fail
  refine (H4 _).mono ?_
  rintro e w5 ⟨rfl, hb5⟩
  have S5 := Lib.hid (S4.out.on hb5)
  clear hb5
  go_wp2_with fail
  refine (HA _ S5.out.t).mono ?_
  rintro e w6 ⟨rfl, hb6⟩
  have S6 := Lib.hid (S5.out.on hb6)
  clear hb6
  go_wp2_with fail
  refine (HB _ S6.out.t).mono ?_
  rintro e w7 ⟨rfl, hb7⟩
  have S7 := Lib.hid (S6.out.on hb7)
  clear hb7
  go_wp2_with fail
  refine (HI _).mono ?_
  rintro e wq ⟨rfl, rfl⟩
  go_wp2_with fail
  refine (HG _).mono ?_
  rintro e wq ⟨rfl, rfl⟩
  go_wp2_with fail
  refine (R1 _).mono ?_
  rintro e wq ⟨rfl, rfl⟩
  go_wp2_with fail
  refine (is_yes _ _).mono ?_
  rintro e wq ⟨rfl, rfl⟩
  go_wp2_with fail
  refine (R2 _).mono ?_
  rintro e wq ⟨rfl, rfl⟩
  go_wp2_with fail
  refine (is_yes _ _).mono ?_
  rintro e wq ⟨rfl, rfl⟩
  go_wp2_with fail
  refine (R3 _).mono ?_
  rintro e wq ⟨rfl, rfl⟩
  go_wp2_with fail
  refine (is_yes _ _).mono ?_
  rintro e wq ⟨rfl, rfl⟩
  go_wp2_with fail
  refine (R4 _).mono ?_
  rintro e wq ⟨rfl, rfl⟩
  go_wp2_with fail
  refine (is_yes _ _).mono ?_
  rintro e wq ⟨rfl, rfl⟩
  go_wp2_with fail
  go_ret
  exact ⟨rfl, S7.out.b⟩
theorem walk (y c : Int) (w0 : (Lit.int .i64 y).wf = true) (w1 : (Lit.int .i64 c).wf = true) (W : World) (ht : CTab W) :
    Calls Tryd.prog 3 #[.int .i64 y, .int .i64 c] W fun e w' => e = .returned (.bool true) ∧ Below W.heap.size W w' := by
  have H1 := fun w => ggold_any y w
  have H2 := fun w => gcent_any y w
  have H3 := fun w => gsolr_any y w
  have H4 := fun w => glunr_any y w
  have HA := fun w ht => glet_any c y w ht
  have HB := fun w ht => rlet_any c y w ht
  have HI := fun w => rin_any y w
  have HG := fun w => rgre_any y w
  cases h : inY y
  · have hg : inG y = false := by
      cases hg : inG y with
      | false => rfl
      | true => have := inG_iff.1 hg; rw [inY_iff.2 (by omega)] at h; cases h
    rw [h] at H1 H2 HI
    rw [hg] at H3 H4 HG
    exact walk_out y c _ _ _ H1 H2 H3 H4 HA HB HI HG W ht
  · obtain ⟨h1, h2⟩ := inY_iff.1 h
    rw [h] at H1 H2 HI
    have R1 := fun w => rgold_any y w h1 h2
    have R2 := fun w => rcent_any y w h1 h2
    have R3 := fun w => rsolr_any y w h1 h2
    have R4 := fun w => rlunr_any y w h1 h2
    cases hg : inG y
    · rw [hg] at H3 H4 HG
      exact walk_jul y c _ _ _ _ _ _ _ H1 H2 H3 H4 HA HB HI HG R1 R2 R3 R4 W ht
    · rw [hg] at H3 H4 HG
      exact walk_greg y c _ _ _ _ _ _ _ H1 H2 H3 H4 HA HB HI HG R1 R2 R3 R4 W ht

/-! ### the row's step -/
set_option maxRecDepth 100000 in
theorem lifted (os : Os) (started : os.Started) (H : Type) (enc : TypeId × Value → H) :
    ReturnsInHanded {} Tryd.checked os 3 .any (fun w args => (Rows.goldenMatchesReferenceSpec.pre enc Tryd.prog Tryd.f3 [] false w args ∧ laidMetH Tryd.prog laidL w) ∧ sizedMet enc Tryd.prog Tryd.f3 (OpenSpec.ofChange Rows.goldenMatchesReferenceSpec) false w args)
      (Rows.goldenMatchesReferenceSpec.post enc Tryd.prog Tryd.f3 false true false false) := by
  refine returnsInHanded_of_change_and (C := Tryd.checked) (X := fun w _ => laidMetH Tryd.prog laidL w) (fun _ _ _ hh h => h.of_heap hh) own started (by kernel_rfl) Tryd.func3
    (ChangeSpec.witness_shaped (enc := enc) (C := Tryd.checked) (os := os) (X := fun w _ => laidMetH Tryd.prog laidL w) false (World.doorLaid Tryd.prog 400 os) #[.int .i64 0, .int .i64 0] 8 rfl (World.shaped_of_RefB (by kernel_rfl) (by kernel_rfl)) (by kernel_rfl) (by kernel_rfl) (by kernel_rfl) (door_met os _)) ?_
  intro W base args ds gs before hval0 hW _ _ hL _
  have hval : ∀ (j : Nat) t v, Tryd.f3.params[j]? = some t → args[j]? = some v → Value.okWide Tryd.prog W .any base t v := hval0
  have hW' := hW
  obtain ⟨p, q, hA0, hV, rfl, hfz, hnd⟩ := hW
  have hA : DataW.TrodAll enc Tryd.prog W 0 (fun _ => true) true Tryd.f3.params.toList args.toList ds p := hA0
  rw [Tryd.params3] at hA hval
  obtain ⟨v0, vs0, d0, ds0, p0, q0, hargs, rfl, rfl, h0, r0⟩ := trodAll_cons hA
  obtain ⟨v1, vs1, d1, ds1, p1, q1, rfl, rfl, rfl, h1, r1⟩ := trodAll_cons r0
  obtain ⟨rfl, rfl, rfl⟩ := trodAll_nil r1
  obtain rfl : args = #[v0, v1] := by cases args; simp_all
  obtain ⟨rfl, rfl⟩ := trodVars_none hV
  obtain ⟨a0, rfl, rfl, rfl, w0⟩ := open_int Tryd.underlying3 (hval 0 3 v0 rfl rfl) h0
  obtain ⟨a1, rfl, rfl, rfl, w1⟩ := open_int Tryd.underlying3 (hval 1 3 v1 rfl rfl) h1
  clear hA0 hval0
  simp only [List.append_nil] at hW'
  refine (walk a0 a1 w0 w1 W (laid_facts hL)).mono fun e W' ⟨he, bel⟩ => ?_
  subst he
  exact ⟨_, rfl, _, _, _, [], _, [], hW', trodAll_mk1 (shut_bool Tryd.underlying4 _), (trodAll_cons_mk (shut_int Tryd.underlying3 w0) (trodAll_cons_mk (shut_int Tryd.underlying3 w1) trodAll_mk0)), rfl, bel.frame _, fun h => by cases h⟩

theorem over : Rows.goldenMatchesReferenceRow.holds Tryd.pinned (OpenSpec.ofChange Rows.goldenMatchesReferenceSpec) :=
  OpenClaim.holds_of_wide 3 Tryd.f3 rfl rfl rfl rfl rfl rfl rfl ⟨rfl, rfl, rfl, rfl, rfl⟩ rfl rfl rfl rfl rfl (by kernel_rfl) Tryd.func3 (by kernel_rfl)
    (of_decide_eq_true (by kernel_rfl)) (by unfold Func.isWrapper; first | (rw [if_pos (by decide +kernel)]; kernel_rfl) | (rw [if_neg (by decide +kernel)]; exact ⟨rfl, rfl⟩))
    (fun os started H enc _ => lifted os started H enc)

/-- The statement: the tied card. -/
theorem proved : Rows.GoldenMatchesReferenceCardSaid :=
  Claim7.holds_tied_plain_at .later [] [.data, .data, .data] true (true, "bff6ddbdc39f65526b6d7b9580cc599cc37756fb6942dc449d115ae4e50ae4ed") false
    over (fun _ h => by cases h) (by kernel_rfl) (fun _ h => by cases h) goldenMatchesReference_row_tie rfl ⟨rfl, rfl⟩ (by kernel_rfl) rfl
    (fun f fn hf hfn => by
      obtain rfl : f = 3 := Option.some.inj ((show Tryd.prog.funcNamed "computus/computuslaw06.GoldenMatchesReference" = some 3 by kernel_rfl).symm.trans hf) |>.symm
      obtain rfl : fn = Tryd.f3 := (Option.some.inj (Tryd.func3.symm.trans hfn)).symm
      exact ⟨by kernel_rfl, fun j t ht => by
        rw [Tryd.params3] at ht
        have hm : t ∈ [3, 3] := by simpa using Array.mem_of_getElem? ht
        have hall : ([3, 3].all fun u => !Tryd.prog.wantsStandIn u) = true := by kernel_rfl
        exact (show Tryd.prog.wantsStandIn t = false by simpa using List.all_eq_true.1 hall t hm)⟩)
    (by kernel_rfl)
#print axioms proved
end Go.Proofs.YtclnpnkjldddcaaDoor.goldenMatchesReference
