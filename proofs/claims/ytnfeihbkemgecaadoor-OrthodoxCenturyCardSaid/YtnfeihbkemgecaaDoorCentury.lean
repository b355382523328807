/- Proved: for every byte, the law OrthodoxCentury of package computuslaw13 (from 1900 to 2099 Orthodox Easter is from 4 April to 8 May of the Gregorian calendar, in the month of Western Easter or later) returns true, and what was in memory is as it was. Condition: the tables of packages julian, gregorian and label (the lengths of the months, the groups of years, the beginnings of the lunations) read as the program's text lays them (the card ties them). -/
import Derived.Test.YtnfeihbkemgecaaDoorKq
import Derived.Test.YtnfeihbkemgecaaDoorVy
import Derived.WalkKit
import Derived.ProofKit
import Derived.OpenShut
import Derived.ShutString
import Derived.Lib.SmallJoins
import Derived.LaidMore
import Derived.Stop.Joined
import Derived.SevenTiedAt
import Derived.Test.YtnfeihbkemgecaaDoorCards
import Derived.Test.YtnfeihbkemgecaaDoorTie
namespace Go.Proofs.YtnfeihbkemgecaaDoor.orthodoxCentury
open Go.ChangeShapes Go.WideShapes Go.ChangeAt Go.RowKit Go.Joins
open Go.ChangeMaps (open_string shut_string)
set_option linter.unusedVariables false      -- a walk need not use every fact

set_option maxRecDepth 100000 in
set_option maxHeartbeats 1000000 in
theorem walk_4 (u a b c g p q : Int)
    (hu : 0 ≤ u) (hu2 : u ≤ 255)
    (H1 : ∀ w, PT w → Calls Tryd.prog 8 #[.int .i64 (1900 + u % 200)] w fun e w' => e = .returned (datv a 4 c 0) ∧ Below w.heap.size w w')
    (H2 : ∀ w, PT w → Calls Tryd.prog 13 #[.int .i64 (1900 + u % 200)] w fun e w' => e = .returned (numv g 0) ∧ Below w.heap.size w w')
    (H3 : ∀ w, PT w → Calls Tryd.prog 16 #[.int .i64 2, .int .i64 (1900 + u % 200)] w fun e w' => e = .returned (datv b p q 0) ∧ Below w.heap.size w w')
    (c1 : decide (4 ≤ c) = true) (p1 : decide (p ≤ 4) = true)
    (g1 : decide (0 ≤ g) = true) (g2 : decide (g ≤ 35) = true)
    (W : World) (ht : PT W) :
    Calls Tryd.prog 6 #[.int .u8 u] W fun e w' => e = .returned (.bool true) ∧ Below W.heap.size W w' := by
  have S0 := Lib.hid (PSt.start ht)
  clear ht
  go_enter Tryd.func6, Tryd.ntmps6
  go_wp2_with fail
  refine (c13awake_any _ S0.out.t).mono ?_
  rintro e w1 ⟨rfl, hb1⟩
  have S1 := Lib.hid (S0.out.on hb1)
  clear hb1
  go_wp2_with fail
  refine (H1 _ S1.out.t).mono ?_
  rintro e w2 ⟨rfl, hb2⟩
  have S2 := Lib.hid (S1.out.on hb2)
  clear hb2
  go_wp2_with fail
  refine (H2 _ (S2.out.al _).t).mono ?_
  rintro e w3 ⟨rfl, hb3⟩
  have S3 := Lib.hid ((S2.out.al _).on hb3)
  have RD3 := Lib.hid (row_on (heap_alloc_new _ _) hb3)
  obtain ⟨cD0, cD1, cD2, gD0, gD1, gD2, zD⟩ := row3 RD3.out
  clear hb3
  go_wp2_with fail
  refine (H3 _ S3.out.t).mono ?_
  rintro e w4 ⟨rfl, hb4⟩
  have S4 := Lib.hid (S3.out.on hb4)
  have RD4 := Lib.hid (row_on RD3.out hb4)
  clear RD3
  clear cD0 cD1 cD2 gD0 gD1 gD2 zD
  obtain ⟨cD0, cD1, cD2, gD0, gD1, gD2, zD⟩ := row3 RD4.out
  clear hb4
  have nDX := Nat.ne_of_lt zD
  have nXD := (Nat.ne_of_lt zD).symm
  go_wp2_with fail
  go_ret
  exact ⟨rfl, (S4.out.al _).b⟩
set_option maxRecDepth 100000 in
set_option maxHeartbeats 1000000 in
theorem walk_5 (u a b c g p q : Int)
    (hu : 0 ≤ u) (hu2 : u ≤ 255)
    (H1 : ∀ w, PT w → Calls Tryd.prog 8 #[.int .i64 (1900 + u % 200)] w fun e w' => e = .returned (datv a 5 c 0) ∧ Below w.heap.size w w')
    (H2 : ∀ w, PT w → Calls Tryd.prog 13 #[.int .i64 (1900 + u % 200)] w fun e w' => e = .returned (numv g 0) ∧ Below w.heap.size w w')
    (H3 : ∀ w, PT w → Calls Tryd.prog 16 #[.int .i64 2, .int .i64 (1900 + u % 200)] w fun e w' => e = .returned (datv b p q 0) ∧ Below w.heap.size w w')
    (c1 : decide (c ≤ 8) = true) (p1 : decide (p ≤ 5) = true)
    (g1 : decide (0 ≤ g) = true) (g2 : decide (g ≤ 35) = true)
    (W : World) (ht : PT W) :
    Calls Tryd.prog 6 #[.int .u8 u] W fun e w' => e = .returned (.bool true) ∧ Below W.heap.size W w' := by
  have S0 := Lib.hid (PSt.start ht)
  clear ht
  go_enter Tryd.func6, Tryd.ntmps6
  go_wp2_with fail
  refine (c13awake_any _ S0.out.t).mono ?_
  rintro e w1 ⟨rfl, hb1⟩
  have S1 := Lib.hid (S0.out.on hb1)
  clear hb1
  go_wp2_with fail
  refine (H1 _ S1.out.t).mono ?_
  rintro e w2 ⟨rfl, hb2⟩
  have S2 := Lib.hid (S1.out.on hb2)
  clear hb2
  go_wp2_with fail
  refine (H2 _ (S2.out.al _).t).mono ?_
  rintro e w3 ⟨rfl, hb3⟩
  have S3 := Lib.hid ((S2.out.al _).on hb3)
  have RD3 := Lib.hid (row_on (heap_alloc_new _ _) hb3)
  obtain ⟨cD0, cD1, cD2, gD0, gD1, gD2, zD⟩ := row3 RD3.out
  clear hb3
  go_wp2_with fail
  refine (H3 _ S3.out.t).mono ?_
  rintro e w4 ⟨rfl, hb4⟩
  have S4 := Lib.hid (S3.out.on hb4)
  have RD4 := Lib.hid (row_on RD3.out hb4)
  clear RD3
  clear cD0 cD1 cD2 gD0 gD1 gD2 zD
  obtain ⟨cD0, cD1, cD2, gD0, gD1, gD2, zD⟩ := row3 RD4.out
  clear hb4
  have nDX := Nat.ne_of_lt zD
  have nXD := (Nat.ne_of_lt zD).symm
  go_wp2_with fail
  go_ret
  exact ⟨rfl, (S4.out.al _).b⟩
theorem walk (u : Int) (w0 : (Lit.int .u8 u).wf = true) (W : World) (ht0 : CTab W ∧ LTab W) :
    Calls Tryd.prog 6 #[.int .u8 u] W fun e w' => e = .returned (.bool true) ∧ Below W.heap.size W w' := by
  have ht : PT W := ⟨ht0.1, ht0.2⟩
  obtain ⟨hu, hu2⟩ := bounds_u8 w0
  have k1 : 1900 ≤ 1900 + u % 200 := by omega
  have k2 : 1900 + u % 200 ≤ 2099 := by omega
  have H1 := fun w ht => odate_any (1900 + u % 200) w ht
  have H2 := fun w ht => ogap_any (1900 + u % 200) w ht
  have H3 := fun w ht => pdate_any 2 (1900 + u % 200) w wf2 ht
  have g : epE 2 (1900 + u % 200) = 0 := by rw [epE_two, if_pos (inG_iff.2 (by omega))]
  rw [g] at H2
  rw [(ed_ok g).2.1, (ed_ok g).2.2.1, (ed_ok g).2.2.2, g] at H3
  obtain ⟨e1, e2, e3⟩ := ox_cent k1 k2
  have b := og_35 k1 k2
  rw [e1, e2] at H1
  have p4 : marM (eaO 2 (1900 + u % 200)) ≤ 4 := by unfold marM; split <;> decide
  rcases e3 with ⟨m, c1, _⟩ | ⟨m, _, c2⟩
  · rw [m] at H1
    exact walk_4 u _ _ _ _ _ _ hu hu2 H1 H2 H3 (decide_eq_true c1) (decide_eq_true p4) (decide_eq_true b.1) (decide_eq_true b.2) W ht
  · rw [m] at H1
    exact walk_5 u _ _ _ _ _ _ hu hu2 H1 H2 H3 (decide_eq_true c2) (decide_eq_true (by omega)) (decide_eq_true b.1) (decide_eq_true b.2) W ht

/-! ### the row's step -/
set_option maxRecDepth 100000 in
theorem lifted (os : Os) (started : os.Started) (H : Type) (enc : TypeId × Value → H) :
    ReturnsInHanded {} Tryd.checked os 6 .any (fun w args => (Rows.orthodoxCenturySpec.pre enc Tryd.prog Tryd.f6 [] false w args ∧ laidMetH Tryd.prog laidL w) ∧ sizedMet enc Tryd.prog Tryd.f6 (OpenSpec.ofChange Rows.orthodoxCenturySpec) false w args)
      (Rows.orthodoxCenturySpec.post enc Tryd.prog Tryd.f6 false true false false) := by
  refine returnsInHanded_of_change_and (C := Tryd.checked) (X := fun w _ => laidMetH Tryd.prog laidL w) (fun _ _ _ hh h => h.of_heap hh) own started (by kernel_rfl) Tryd.func6
    (ChangeSpec.witness_shaped (enc := enc) (C := Tryd.checked) (os := os) (X := fun w _ => laidMetH Tryd.prog laidL w) false (World.doorLaid Tryd.prog 400 os) #[.int .u8 0] 8 rfl (World.shaped_of_RefB (by kernel_rfl) (by kernel_rfl)) (by kernel_rfl) (by kernel_rfl) (by kernel_rfl) (door_met os _)) ?_
  intro W base args ds gs before hval0 hW _ _ hL _
  have hval : ∀ (j : Nat) t v, Tryd.f6.params[j]? = some t → args[j]? = some v → Value.okWide Tryd.prog W .any base t v := hval0
  have hW' := hW
  obtain ⟨p, q, hA0, hV, rfl, hfz, hnd⟩ := hW
  have hA : DataW.TrodAll enc Tryd.prog W 0 (fun _ => true) true Tryd.f6.params.toList args.toList ds p := hA0
  rw [Tryd.params6] at hA hval
  obtain ⟨v0, vs0, d0, ds0, p0, q0, hargs, rfl, rfl, h0, r0⟩ := trodAll_cons hA
  obtain ⟨rfl, rfl, rfl⟩ := trodAll_nil r0
  obtain rfl : args = #[v0] := by cases args; simp_all
  obtain ⟨rfl, rfl⟩ := trodVars_none hV
  obtain ⟨a0, rfl, rfl, rfl, w0⟩ := open_int Tryd.underlying5 (hval 0 5 v0 rfl rfl) h0
  clear hA0 hval0
  simp only [List.append_nil] at hW'
  refine (walk a0 w0 W (laid_facts hL)).mono fun e W' ⟨he, bel⟩ => ?_
  subst he
  exact ⟨_, rfl, _, _, _, [], _, [], hW', trodAll_mk1 (shut_bool Tryd.underlying4 _), (trodAll_cons_mk (shut_int Tryd.underlying5 w0) trodAll_mk0), rfl, bel.frame _, fun h => by cases h⟩

theorem over : Rows.orthodoxCenturyRow.holds Tryd.pinned (OpenSpec.ofChange Rows.orthodoxCenturySpec) :=
  OpenClaim.holds_of_wide 6 Tryd.f6 rfl rfl rfl rfl rfl rfl rfl ⟨rfl, rfl, rfl, rfl, rfl⟩ rfl rfl rfl rfl rfl (by kernel_rfl) Tryd.func6 (by kernel_rfl)
    (of_decide_eq_true (by kernel_rfl)) (by unfold Func.isWrapper; first | (rw [if_pos (by decide +kernel)]; kernel_rfl) | (rw [if_neg (by decide +kernel)]; exact ⟨rfl, rfl⟩))
    (fun os started H enc _ => lifted os started H enc)

/-- The statement: the tied card. -/
theorem proved : Rows.OrthodoxCenturyCardSaid :=
  Claim7.holds_tied_plain_at .later [] [.data, .data, .data, .data, .data] true (true, "bd555704cdfadddd03ed316e5a809b28249dbd0bd2b603a59f5f6bb600bfe636") false
    over (fun _ h => by cases h) (by kernel_rfl) (fun _ h => by cases h) orthodoxCentury_row_tie rfl ⟨rfl, rfl⟩ (by kernel_rfl) rfl
    (fun f fn hf hfn => by
      obtain rfl : f = 6 := Option.some.inj ((show Tryd.prog.funcNamed "computus/computuslaw13.OrthodoxCentury" = some 6 by kernel_rfl).symm.trans hf) |>.symm
      obtain rfl : fn = Tryd.f6 := (Option.some.inj (Tryd.func6.symm.trans hfn)).symm
      exact ⟨by kernel_rfl, fun j t ht => by
        rw [Tryd.params6] at ht
        have hm : t ∈ [5] := by simpa using Array.mem_of_getElem? ht
        have hall : ([5].all fun u => !Tryd.prog.wantsStandIn u) = true := by kernel_rfl
        exact (show Tryd.prog.wantsStandIn t = false by simpa using List.all_eq_true.1 hall t hm)⟩)
    (by kernel_rfl)
#print axioms proved
end Go.Proofs.YtnfeihbkemgecaaDoor.orthodoxCentury
