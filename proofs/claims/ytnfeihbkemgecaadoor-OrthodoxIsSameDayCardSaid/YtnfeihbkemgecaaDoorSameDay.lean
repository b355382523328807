/- Proved: for every 64-bit integer year, the law OrthodoxIsSameDay of package computuslaw13 (the Gregorian date of Orthodox Easter is a Sunday, and the same day as Easter of the Julian calendar) returns true, and what was in memory is as it was. Condition: the tables of packages julian, gregorian and label (the lengths of the months, the groups of years, the beginnings of the lunations) read as the program's text lays them (the card ties them). -/
import Derived.Test.YtnfeihbkemgecaaDoorKq
import Derived.Test.YtnfeihbkemgecaaDoorVy
import Derived.WalkKit
import Derived.ProofKit
import Derived.OpenShut
import Derived.ShutString
import Derived.Lib.SmallJoins
import Derived.LaidMore
import Derived.Stop.Joined
import Derived.SevenTiedAt
import Derived.Test.YtnfeihbkemgecaaDoorCards
import Derived.Test.YtnfeihbkemgecaaDoorTie
namespace Go.Proofs.YtnfeihbkemgecaaDoor.orthodoxIsSameDay
open Go.ChangeShapes Go.WideShapes Go.ChangeAt Go.RowKit Go.Joins
open Go.ChangeMaps (open_string shut_string)
set_option linter.unusedVariables false      -- a walk need not use every fact

set_option maxRecDepth 100000 in
set_option maxHeartbeats 1000000 in
theorem walk_no (y k : Int)
    (H1 : ∀ w, PT w → Calls Tryd.prog 8 #[.int .i64 y] w fun e w' => e = .returned (datv 0 0 0 k) ∧ Below w.heap.size w w')
    (hk : (k != 0) = true)
    (W : World) (ht : PT W) :
    Calls Tryd.prog 3 #[.int .i64 y] W fun e w' => e = .returned (.bool true) ∧ Below W.heap.size W w' := by
  have S0 := Lib.hid (PSt.start ht)
  clear ht
  go_enter Tryd.func3, Tryd.ntmps3
  go_wp2_with fail
  refine (c13awake_any _ S0.out.t).mono ?_
  rintro e w1 ⟨rfl, hb1⟩
  have S1 := Lib.hid (S0.out.on hb1)
  clear hb1
  go_wp2_with fail
  refine (H1 _ S1.out.t).mono ?_
  rintro e w2 ⟨rfl, hb2⟩
  have S2 := Lib.hid (S1.out.on hb2)
  clear hb2
  go_wp2_with fail
  go_ret
  exact ⟨rfl, (S2.out.al _).b⟩
set_option maxRecDepth 100000 in
set_option maxHeartbeats 1000000 in
theorem walk_ok (y a b c n : Int)
    (H1 : ∀ w, PT w → Calls Tryd.prog 8 #[.int .i64 y] w fun e w' => e = .returned (datv a b c 0) ∧ Below w.heap.size w w')
    (H2 : ∀ w, PT w → Calls Tryd.prog 9 #[.int .i64 1, .int .i64 y] w fun e w' => e = .returned (numv n 0) ∧ Below w.heap.size w w')
    (H3 : ∀ w, Calls Tryd.prog 10 #[dtv a b c] w fun e w' => e = .returned (numv n 0) ∧ Below w.heap.size w w')
    (HO : ∀ w, Calls Tryd.prog 11 #[.int .i64 n] w fun e w' => e = .returned (.int .i64 0) ∧ w = w')
    (W : World) (ht : PT W) :
    Calls Tryd.prog 3 #[.int .i64 y] W fun e w' => e = .returned (.bool true) ∧ Below W.heap.size W w' := by
  have S0 := Lib.hid (PSt.start ht)
  clear ht
  go_enter Tryd.func3, Tryd.ntmps3
  go_wp2_with fail
  refine (c13awake_any _ S0.out.t).mono ?_
  rintro e w1 ⟨rfl, hb1⟩
  have S1 := Lib.hid (S0.out.on hb1)
  clear hb1
  go_wp2_with fail
  refine (H1 _ S1.out.t).mono ?_
  rintro e w2 ⟨rfl, hb2⟩
  have S2 := Lib.hid (S1.out.on hb2)
  clear hb2
  go_wp2_with fail
  refine (H2 _ (S2.out.al _).t).mono ?_
  rintro e w3 ⟨rfl, hb3⟩
  have S3 := Lib.hid ((S2.out.al _).on hb3)
  have RD3 := Lib.hid (row_on (heap_alloc_new _ _) hb3)
  obtain ⟨cD0, cD1, cD2, gD0, gD1, gD2, zD⟩ := row3 RD3.out
  clear hb3
  go_wp2_with fail
  refine (H3 _).mono ?_
  rintro e w4 ⟨rfl, hb4⟩
  have S4 := Lib.hid (S3.out.on hb4)
  have RD4 := Lib.hid (row_on RD3.out hb4)
  clear RD3
  clear cD0 cD1 cD2 gD0 gD1 gD2 zD
  obtain ⟨cD0, cD1, cD2, gD0, gD1, gD2, zD⟩ := row3 RD4.out
  clear hb4
  go_wp2_with fail
  refine (HO _).mono ?_
  rintro e wq ⟨rfl, rfl⟩
  go_wp2_with fail
  go_ret
  exact ⟨rfl, S4.out.b⟩
theorem walk (y : Int) (w0 : (Lit.int .i64 y).wf = true) (W : World) (ht0 : CTab W ∧ LTab W) :
    Calls Tryd.prog 3 #[.int .i64 y] W fun e w' => e = .returned (.bool true) ∧ Below W.heap.size W w' := by
  have ht : PT W := ⟨ht0.1, ht0.2⟩
  have H1 := fun w ht => odate_any y w ht
  by_cases h : oxE y = 0
  · rw [h] at H1
    obtain ⟨g, _⟩ := ox_ok h
    have H2 := fun w ht => pday_any 1 y w wf1 ht
    rw [(ed_ok g).1, g] at H2
    have H3 : ∀ w, Calls Tryd.prog 10 #[dtv (oxY y) (oxM y) (oxD y)] w fun e w' => e = .returned (numv (tN 2 (oxY y) (oxM y) (oxD y)) (tE 2 (oxY y) (oxM y) (oxD y))) ∧ Below w.heap.size w w' := fun w => sday_all _ _ _ w
    rw [(ox_num h).1, (ox_num h).2] at H3
    have a0 := eaN_bd g
    have HO := fun w => rof_any (eaN 1 y) w (inR_iff.2 (by omega))
    rw [eaN_mod] at HO
    exact walk_ok y _ _ _ _ H1 H2 H3 HO W ht
  · rw [(ox_bad h).1, (ox_bad h).2.1, (ox_bad h).2.2] at H1
    exact walk_no y _ H1 (tE_ne h) W ht

/-! ### the row's step -/
set_option maxRecDepth 100000 in
theorem lifted (os : Os) (started : os.Started) (H : Type) (enc : TypeId × Value → H) :
    ReturnsInHanded {} Tryd.checked os 3 .any (fun w args => (Rows.orthodoxIsSameDaySpec.pre enc Tryd.prog Tryd.f3 [] false w args ∧ laidMetH Tryd.prog laidL w) ∧ sizedMet enc Tryd.prog Tryd.f3 (OpenSpec.ofChange Rows.orthodoxIsSameDaySpec) false w args)
      (Rows.orthodoxIsSameDaySpec.post enc Tryd.prog Tryd.f3 false true false false) := by
  refine returnsInHanded_of_change_and (C := Tryd.checked) (X := fun w _ => laidMetH Tryd.prog laidL w) (fun _ _ _ hh h => h.of_heap hh) own started (by kernel_rfl) Tryd.func3
    (ChangeSpec.witness_shaped (enc := enc) (C := Tryd.checked) (os := os) (X := fun w _ => laidMetH Tryd.prog laidL w) false (World.doorLaid Tryd.prog 400 os) #[.int .i64 0] 8 rfl (World.shaped_of_RefB (by kernel_rfl) (by kernel_rfl)) (by kernel_rfl) (by kernel_rfl) (by kernel_rfl) (door_met os _)) ?_
  intro W base args ds gs before hval0 hW _ _ hL _
  have hval : ∀ (j : Nat) t v, Tryd.f3.params[j]? = some t → args[j]? = some v → Value.okWide Tryd.prog W .any base t v := hval0
  have hW' := hW
  obtain ⟨p, q, hA0, hV, rfl, hfz, hnd⟩ := hW
  have hA : DataW.TrodAll enc Tryd.prog W 0 (fun _ => true) true Tryd.f3.params.toList args.toList ds p := hA0
  rw [Tryd.params3] at hA hval
  obtain ⟨v0, vs0, d0, ds0, p0, q0, hargs, rfl, rfl, h0, r0⟩ := trodAll_cons hA
  obtain ⟨rfl, rfl, rfl⟩ := trodAll_nil r0
  obtain rfl : args = #[v0] := by cases args; simp_all
  obtain ⟨rfl, rfl⟩ := trodVars_none hV
  obtain ⟨a0, rfl, rfl, rfl, w0⟩ := open_int Tryd.underlying3 (hval 0 3 v0 rfl rfl) h0
  clear hA0 hval0
  simp only [List.append_nil] at hW'
  refine (walk a0 w0 W (laid_facts hL)).mono fun e W' ⟨he, bel⟩ => ?_
  subst he
  exact ⟨_, rfl, _, _, _, [], _, [], hW', trodAll_mk1 (shut_bool Tryd.underlying4 _), (trodAll_cons_mk (shut_int Tryd.underlying3 w0) trodAll_mk0), rfl, bel.frame _, fun h => by cases h⟩

theorem over : Rows.orthodoxIsSameDayRow.holds Tryd.pinned (OpenSpec.ofChange Rows.orthodoxIsSameDaySpec) :=
  OpenClaim.holds_of_wide 3 Tryd.f3 rfl rfl rfl rfl rfl rfl rfl ⟨rfl, rfl, rfl, rfl, rfl⟩ rfl rfl rfl rfl rfl (by kernel_rfl) Tryd.func3 (by kernel_rfl)
    (of_decide_eq_true (by kernel_rfl)) (by unfold Func.isWrapper; first | (rw [if_pos (by decide +kernel)]; kernel_rfl) | (rw [if_neg (by decide +kernel)]; exact ⟨rfl, rfl⟩))
    (fun os started H enc _ => lifted os started H enc)

/-- The statement: the tied card. -/
theorem proved : Rows.OrthodoxIsSameDayCardSaid :=
  Claim7.holds_tied_plain_at .later [] [.data, .data, .data, .data, .data] true (true, "bd555704cdfadddd03ed316e5a809b28249dbd0bd2b603a59f5f6bb600bfe636") false
    over (fun _ h => by cases h) (by kernel_rfl) (fun _ h => by cases h) orthodoxIsSameDay_row_tie rfl ⟨rfl, rfl⟩ (by kernel_rfl) rfl
    (fun f fn hf hfn => by
      obtain rfl : f = 3 := Option.some.inj ((show Tryd.prog.funcNamed "computus/computuslaw13.OrthodoxIsSameDay" = some 3 by kernel_rfl).symm.trans hf) |>.symm
      obtain rfl : fn = Tryd.f3 := (Option.some.inj (Tryd.func3.symm.trans hfn)).symm
      exact ⟨by kernel_rfl, fun j t ht => by
        rw [Tryd.params3] at ht
        have hm : t ∈ [3] := by simpa using Array.mem_of_getElem? ht
        have hall : ([3].all fun u => !Tryd.prog.wantsStandIn u) = true := by kernel_rfl
        exact (show Tryd.prog.wantsStandIn t = false by simpa using List.all_eq_true.1 hall t hm)⟩)
    (by kernel_rfl)
#print axioms proved
end Go.Proofs.YtnfeihbkemgecaaDoor.orthodoxIsSameDay
