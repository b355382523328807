/- Proved: for every byte calendar and every 64-bit integer year, the law EasterIsSunday of package computuslaw10 (Easter is a Sunday from 22 March to 25 April, from one to seven days after the paschal full moon) returns true, and what was in memory is as it was. Condition: the tables of packages julian, gregorian and label (the lengths of the months, the groups of years, the beginnings of the lunations) read as the program's text lays them (the card ties them). -/
import Derived.Test.YtenapnmbdilabaaGreatDoorKs
import Derived.Test.YtenapnmbdilabaaGreatDoorVy
import Derived.WalkKit
import Derived.ProofKit
import Derived.OpenShut
import Derived.ShutString
import Derived.Lib.SmallJoins
import Derived.Deep.RegionHeld3
import Derived.LaidMore
import Derived.Stop.Joined
import Derived.SevenTiedAt
import Derived.Test.YtenapnmbdilabaaGreatDoorCards
import Derived.Test.YtenapnmbdilabaaGreatDoorTie
namespace Go.Proofs.YtenapnmbdilabaaGreatDoor.easterIsSunday
open Go.ChangeShapes Go.WideShapes Go.ChangeAt Go.RowKit Go.Joins
open Go.ChangeMaps (open_string shut_string)
set_option linter.unusedVariables false      -- a walk need not use every fact

theorem walk_a (u y k : Int)
    (hu : 0 ≤ u) (hu2 : u ≤ 255)
    (HA : ∀ w, Calls Tryz.prog 8 #[.int .i64 (1 + u % 2), .int .i64 y] w fun e w' => e = .returned (.int .i64 k) ∧ w = w')
    (hk : (k != 0) = true)
    (W : World) (ht : PT W) :
    Calls Tryz.prog 4 #[.int .u8 u, .int .i64 y] W fun e w' => e = .returned (.bool true) ∧ Below W.heap.size W w' := by
  have S0 := Lib.hid (PSt.start ht)
  clear ht
  go_enter Tryz.func4, Tryz.ntmps4
  go_wp2_with fail
  refine (c10awake_any _ S0.out.t).mono ?_
  rintro e w1 ⟨rfl, hb1⟩
  have S1 := Lib.hid (S0.out.on hb1)
  clear hb1
  go_wp2_with fail
  refine (HA _).mono ?_
  rintro e wq ⟨rfl, rfl⟩
  go_wp2_with fail
  refine (c10awake_any _ S1.out.t).mono ?_
  rintro e w2 ⟨rfl, hb2⟩
  have S2 := Lib.hid (S1.out.on hb2)
  clear hb2
  go_wp2_with fail
  go_ret
  exact ⟨rfl, S2.out.b⟩
set_option maxRecDepth 100000 in
set_option maxHeartbeats 1000000 in
theorem walk_n (u y n a b p q o f : Int)
    (hu : 0 ≤ u) (hu2 : u ≤ 255)
    (HA : ∀ w, Calls Tryz.prog 8 #[.int .i64 (1 + u % 2), .int .i64 y] w fun e w' => e = .returned (.int .i64 0) ∧ w = w')
    (H1 : ∀ w, PT w → Calls Tryz.prog 6 #[.int .i64 (1 + u % 2), .int .i64 y] w fun e w' => e = .returned (numv n 0) ∧ Below w.heap.size w w')
    (H2 : ∀ w, PT w → Calls Tryz.prog 7 #[.int .i64 (1 + u % 2), .int .i64 y] w fun e w' => e = .returned (datv y a b 0) ∧ Below w.heap.size w w')
    (H3 : ∀ w, PT w → Calls Tryz.prog 14 #[.int .i64 (1 + u % 2), .int .i64 y] w fun e w' => e = .returned (dtv y p q) ∧ Below w.heap.size w w')
    (H4 : ∀ w, PT w → Calls Tryz.prog 13 #[.int .i64 (1 + u % 2), dtv y p q] w fun e w' => e = .returned (numv o 0) ∧ Below w.heap.size w w')
    (H5 : ∀ w, PT w → Calls Tryz.prog 13 #[.int .i64 (1 + u % 2), dtv y 3 22] w fun e w' => e = .returned (numv f 0) ∧ Below w.heap.size w w')
    (H6 : ∀ w, PT w → Calls Tryz.prog 13 #[.int .i64 (1 + u % 2), dtv y a b] w fun e w' => e = .returned (numv n 0) ∧ Below w.heap.size w w')
    (HO : ∀ w, Calls Tryz.prog 15 #[.int .i64 n] w fun e w' => e = .returned (.int .i64 0) ∧ w = w')
    (o1 : -1 ≤ o) (o2 : o ≤ 365250000100) (f1 : -1 ≤ f) (f2 : f ≤ 365250000100) (h1 : o < n) (h2 : n ≤ o + 7) (h3 : f ≤ n) (h4 : n ≤ f + 34)
    (W : World) (ht : PT W) :
    Calls Tryz.prog 4 #[.int .u8 u, .int .i64 y] W fun e w' => e = .returned (.bool true) ∧ Below W.heap.size W w' := by
  have e1 : decide (o < n) = true := decide_eq_true h1
  have e2 : decide (n ≤ o + 7) = true := decide_eq_true h2
  have e3 : decide (f ≤ n) = true := decide_eq_true h3
  have e4 : decide (n ≤ f + 34) = true := decide_eq_true h4
  have S0 := Lib.hid (PSt.start ht)
  clear ht
  go_enter Tryz.func4, Tryz.ntmps4
  go_wp2_with fail
  refine (c10awake_any _ S0.out.t).mono ?_
  rintro e w1 ⟨rfl, hb1⟩
  have S1 := Lib.hid (S0.out.on hb1)
  clear hb1
  go_wp2_with fail
  refine (HA _).mono ?_
  rintro e wq ⟨rfl, rfl⟩
  go_wp2_with fail
  refine (H1 _ S1.out.t).mono ?_
  rintro e w2 ⟨rfl, hb2⟩
  have S2 := Lib.hid (S1.out.on hb2)
  clear hb2
  go_wp2_with fail
  refine (H2 _ S2.out.t).mono ?_
  rintro e w3 ⟨rfl, hb3⟩
  have S3 := Lib.hid (S2.out.on hb3)
  clear hb3
  go_wp2_with fail
  refine (H3 _ (S3.out.al _).t).mono ?_
  rintro e w4 ⟨rfl, hb4⟩
  have S4 := Lib.hid ((S3.out.al _).on hb4)
  have RX4 := Lib.hid (row_on (heap_alloc_new _ _) hb4)
  obtain ⟨cX0, cX1, cX2, gX0, gX1, gX2, zX⟩ := row3 RX4.out
  clear hb4
  go_wp2_with fail
  refine (H4 _ S4.out.t).mono ?_
  rintro e w5 ⟨rfl, hb5⟩
  have S5 := Lib.hid (S4.out.on hb5)
  have RX5 := Lib.hid (row_on RX4.out hb5)
  clear RX4
  clear cX0 cX1 cX2 gX0 gX1 gX2 zX
  obtain ⟨cX0, cX1, cX2, gX0, gX1, gX2, zX⟩ := row3 RX5.out
  clear hb5
  go_wp2_with fail
  refine (H5 _ S5.out.t).mono ?_
  rintro e w6 ⟨rfl, hb6⟩
  have S6 := Lib.hid (S5.out.on hb6)
  have RX6 := Lib.hid (row_on RX5.out hb6)
  clear RX5
  clear cX0 cX1 cX2 gX0 gX1 gX2 zX
  obtain ⟨cX0, cX1, cX2, gX0, gX1, gX2, zX⟩ := row3 RX6.out
  clear hb6
  go_wp2_with fail
  refine (H6 _ S6.out.t).mono ?_
  rintro e w7 ⟨rfl, hb7⟩
  have S7 := Lib.hid (S6.out.on hb7)
  have RX7 := Lib.hid (row_on RX6.out hb7)
  clear RX6
  clear cX0 cX1 cX2 gX0 gX1 gX2 zX
  obtain ⟨cX0, cX1, cX2, gX0, gX1, gX2, zX⟩ := row3 RX7.out
  clear hb7
  go_wp2_with fail
  refine (HO _).mono ?_
  rintro e wq ⟨rfl, rfl⟩
  go_wp2_with fail
  go_ret
  exact ⟨rfl, S7.out.b⟩
theorem walk (u y : Int) (w0 : (Lit.int .u8 u).wf = true) (w1 : (Lit.int .i64 y).wf = true) (W : World) (ht0 : CTab W ∧ LTab W) :
    Calls Tryz.prog 4 #[.int .u8 u, .int .i64 y] W fun e w' => e = .returned (.bool true) ∧ Below W.heap.size W w' := by
  have ht : PT W := ⟨ht0.1, ht0.2⟩
  obtain ⟨hu, hu2⟩ := bounds_u8 w0
  obtain ⟨hw, hc⟩ := wfU u
  have HA := fun w => rfail_any (1 + u % 2) y w
  by_cases h : epE (1 + u % 2) y = 0
  · obtain ⟨y1, y2⟩ := epE_inY h
    rw [h] at HA
    obtain ⟨l1, l2⟩ := lab_bd (1 + u % 2) y
    have g1 := (off_all l1 l2).1
    have g2 := eaO_off (1 + u % 2) y
    have g3 := eaO_bd (1 + u % 2) y
    obtain ⟨n1, n2⟩ := marN_bd hc y1 y2
    have H1 := fun w ht => pday_any (1 + u % 2) y w hw ht
    rw [(ed_ok h).1, h] at H1
    have H2 := fun w ht => pdate_any (1 + u % 2) y w hw ht
    rw [(ed_ok h).2.1, (ed_ok h).2.2.1, (ed_ok h).2.2.2, h] at H2
    have H3 := fun w ht => r9fu_any (1 + u % 2) y w h ht
    have H4 := fun w (ht : PT w) => r5day_any y (pfM (lab (1 + u % 2) y)) (pfD (lab (1 + u % 2) y)) w (1 + u % 2) ht.c
    obtain ⟨t1, t2⟩ := mar_to hc y1 y2 (k := off (lab (1 + u % 2) y)) (by omega) (by omega)
    rw [show tE (1 + u % 2) y (pfM (lab (1 + u % 2) y)) (pfD (lab (1 + u % 2) y)) = 0 from t1, show tN (1 + u % 2) y (pfM (lab (1 + u % 2) y)) (pfD (lab (1 + u % 2) y)) = marN (1 + u % 2) y + off (lab (1 + u % 2) y) from t2] at H4
    have H5 := fun w (ht : PT w) => r5day_any y 3 22 w (1 + u % 2) ht.c
    obtain ⟨t3, t4⟩ := mar_to hc y1 y2 (k := 1) (by omega) (by omega)
    rw [show tE (1 + u % 2) y 3 22 = 0 from t3, show tN (1 + u % 2) y 3 22 = marN (1 + u % 2) y + 1 from t4] at H5
    have H6 := fun w (ht : PT w) => r5day_any y (marM (eaO (1 + u % 2) y)) (marD (eaO (1 + u % 2) y)) w (1 + u % 2) ht.c
    rw [(ea_to h).1, (ea_to h).2] at H6
    have a0 := eaN_bd h
    have HO := fun w => rof_any (eaN (1 + u % 2) y) w (inR_iff.2 (by omega))
    rw [eaN_mod] at HO
    exact walk_n u y _ _ _ _ _ _ _ hu hu2 HA H1 H2 H3 H4 H5 H6 HO (by omega) (by omega) (by omega) (by omega) (by unfold eaN; omega) (by unfold eaN; omega) (by unfold eaN; omega) (by unfold eaN; omega) W ht
  · exact walk_a u y _ hu hu2 HA (tE_ne h) W ht

/-! ### the row's step -/
set_option maxRecDepth 100000 in
theorem lifted (os : Os) (started : os.Started) (H : Type) (enc : TypeId × Value → H) :
    ReturnsInHanded {} Tryz.checked os 4 .any (fun w args => (Rows.easterIsSundaySpec.pre enc Tryz.prog Tryz.f4 [] false w args ∧ laidMetH Tryz.prog laidL w) ∧ sizedMet enc Tryz.prog Tryz.f4 (OpenSpec.ofChange Rows.easterIsSundaySpec) false w args)
      (Rows.easterIsSundaySpec.post enc Tryz.prog Tryz.f4 false true false false) := by
  refine returnsInHanded_of_change_and (C := Tryz.checked) (X := fun w _ => laidMetH Tryz.prog laidL w) (fun _ _ _ hh h => h.of_heap hh) own started (by kernel_rfl) Tryz.func4
    (ChangeSpec.witness_shaped (enc := enc) (C := Tryz.checked) (os := os) (X := fun w _ => laidMetH Tryz.prog laidL w) false (World.doorLaid Tryz.prog 400 os) #[.int .u8 0, .int .i64 0] 8 rfl (World.shaped_of_RefB (by kernel_rfl) (by kernel_rfl)) (by kernel_rfl) (by kernel_rfl) (by kernel_rfl) (door_met os _)) ?_
  intro W base args ds gs before hval0 hW _ _ hL _
  have hval : ∀ (j : Nat) t v, Tryz.f4.params[j]? = some t → args[j]? = some v → Value.okWide Tryz.prog W .any base t v := hval0
  have hW' := hW
  obtain ⟨p, q, hA0, hV, rfl, hfz, hnd⟩ := hW
  have hA : DataW.TrodAll enc Tryz.prog W 0 (fun _ => true) true Tryz.f4.params.toList args.toList ds p := hA0
  rw [Tryz.params4] at hA hval
  obtain ⟨v0, vs0, d0, ds0, p0, q0, hargs, rfl, rfl, h0, r0⟩ := trodAll_cons hA
  obtain ⟨v1, vs1, d1, ds1, p1, q1, rfl, rfl, rfl, h1, r1⟩ := trodAll_cons r0
  obtain ⟨rfl, rfl, rfl⟩ := trodAll_nil r1
  obtain rfl : args = #[v0, v1] := by cases args; simp_all
  obtain ⟨rfl, rfl⟩ := trodVars_none hV
  obtain ⟨a0, rfl, rfl, rfl, w0⟩ := open_int Tryz.underlying5 (hval 0 5 v0 rfl rfl) h0
  obtain ⟨a1, rfl, rfl, rfl, w1⟩ := open_int Tryz.underlying3 (hval 1 3 v1 rfl rfl) h1
  clear hA0 hval0
  simp only [List.append_nil] at hW'
  refine (walk a0 a1 w0 w1 W (laid_facts hL)).mono fun e W' ⟨he, bel⟩ => ?_
  subst he
  exact ⟨_, rfl, _, _, _, [], _, [], hW', trodAll_mk1 (shut_bool Tryz.underlying4 _), (trodAll_cons_mk (shut_int Tryz.underlying5 w0) (trodAll_cons_mk (shut_int Tryz.underlying3 w1) trodAll_mk0)), rfl, bel.frame _, fun h => by cases h⟩

theorem over : Rows.easterIsSundayRow.holds Tryz.pinned (OpenSpec.ofChange Rows.easterIsSundaySpec) :=
  OpenClaim.holds_of_wide 4 Tryz.f4 rfl rfl rfl rfl rfl rfl rfl ⟨rfl, rfl, rfl, rfl, rfl⟩ rfl rfl rfl rfl rfl (by kernel_rfl) Tryz.func4 (by kernel_rfl)
    (of_decide_eq_true (by kernel_rfl)) (by unfold Func.isWrapper; first | (rw [if_pos (by decide +kernel)]; kernel_rfl) | (rw [if_neg (by decide +kernel)]; exact ⟨rfl, rfl⟩))
    (fun os started H enc _ => lifted os started H enc)

/-- The statement: the tied card. -/
theorem proved : Rows.EasterIsSundayCardSaid :=
  Claim7.holds_tied_plain_at .later [] [.data, .data, .data, .data, .data] true (true, "d79797b27c65588c44ccf8ffa0dcf0902f280e6afa535837cb6ef581da2bfdb7") false
    over (fun _ h => by cases h) (by kernel_rfl) (fun _ h => by cases h) easterIsSunday_row_tie rfl ⟨rfl, rfl⟩ (by kernel_rfl) rfl
    (fun f fn hf hfn => by
      obtain rfl : f = 4 := Option.some.inj ((show Tryz.prog.funcNamed "computus/computuslaw10.EasterIsSunday" = some 4 by kernel_rfl).symm.trans hf) |>.symm
      obtain rfl : fn = Tryz.f4 := (Option.some.inj (Tryz.func4.symm.trans hfn)).symm
      exact ⟨by kernel_rfl, fun j t ht => by
        rw [Tryz.params4] at ht
        have hm : t ∈ [5, 3] := by simpa using Array.mem_of_getElem? ht
        have hall : ([5, 3].all fun u => !Tryz.prog.wantsStandIn u) = true := by kernel_rfl
        exact (show Tryz.prog.wantsStandIn t = false by simpa using List.all_eq_true.1 hall t hm)⟩)
    (by kernel_rfl)
#print axioms proved
end Go.Proofs.YtenapnmbdilabaaGreatDoor.easterIsSunday
