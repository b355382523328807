/- Proved: for every date, the law GregorianCycle of package computuslaw03 (after 400 years the same dates recur 146,097 days later, on the same day of the week) returns true, and what was in memory is as it was. Condition: the two tables of package gregorian (the lengths of the months, the groups of years) read as the program's text lays them (the card ties them). -/
import Derived.Test.YthhegcjmlpekbaaDoorGg
import Derived.Test.YthhegcjmlpekbaaDoorGy
import Derived.WalkKit
import Derived.ProofKit
import Derived.OpenShut
import Derived.ShutString
import Derived.Lib.SmallJoins
import Derived.LaidMore
import Derived.Stop.Joined
import Derived.SevenTiedAt
import Derived.Test.YthhegcjmlpekbaaDoorCards
import Derived.Test.YthhegcjmlpekbaaDoorTie
namespace Go.Proofs.YthhegcjmlpekbaaDoor.gregorianCycle
open Go.ChangeShapes Go.WideShapes Go.ChangeAt Go.RowKit Go.Joins
open Go.ChangeMaps (open_string shut_string)
set_option linter.unusedVariables false      -- a walk need not use every fact

theorem cyc (y m d : Int) (y1 : 1 ≤ y) : greg.num (y + 400) m d = greg.num y m d + 146097 ∧ greg.lp (y + 400) = greg.lp y := by
  have hl : glp (y + 400) = glp y := by
    rw [Bool.eq_iff_iff, glp_iff, glp_iff]; omega
  refine ⟨?_, hl⟩
  show gfst (y + 400) + cum (glp (y + 400)) m + d - 1 = gfst y + cum (glp y) m + d - 1 + 146097
  rw [hl]
  have : gfst (y + 400) = gfst y + 146097 := by unfold gfst; omega
  omega

theorem walk_out (y m d : Int) (h : greg.vld y m d = false) (hy : inR y = true) (W : World) (ht : GTab W) :
    Calls Tryd.prog 7 #[.agg #[.int .i64 y, .int .i64 m, .int .i64 d]] W fun e w' => e = .returned (.bool true) ∧ Below W.heap.size W w' := by
  have Hv := fun w => svalid_any y m d w hy
  simp only [h] at Hv
  have Ht := Lib.hid (ht.al (Obj.cells #[Value.int IntKind.i64 y, Value.int IntKind.i64 m, Value.int IntKind.i64 d] 23))
  clear ht h hy
  go_enter Tryd.func7, Tryd.ntmps7
  go_wp2_with fail
  refine (gawake_any _ Ht.out).mono ?_
  rintro e w1 ⟨rfl, hb1⟩
  have Ht1 := Lib.hid (Ht.out.on hb1)
  obtain ⟨hc1, hf1⟩ := bcell hb1
  have Hb1 := Lib.hid (below_al1 hb1)
  have hz1 : W.heap.size < w1.heap.size := by have := hb1.size; simp at this; omega
  clear hb1
  go_wp2_with fail
  refine (Hv _).mono ?_
  rintro e w2 ⟨rfl, hb2⟩
  have Ht2 := Lib.hid (Ht1.out.on hb2)
  have Hb2 := Lib.hid (below_on Hb1.out hb2)
  clear hb2
  go_wp2_with fail
  refine (gawake_any _ Ht2.out).mono ?_
  rintro e w3 ⟨rfl, hb3⟩
  go_wp2_with fail
  go_ret
  exact ⟨rfl, below_on Hb2.out hb3⟩

theorem walk_late (y m d : Int) (h : greg.vld y m d = true) (hl : 999999600 < y) (hy : inR y = true) (W : World) (ht : GTab W) :
    Calls Tryd.prog 7 #[.agg #[.int .i64 y, .int .i64 m, .int .i64 d]] W fun e w' => e = .returned (.bool true) ∧ Below W.heap.size W w' := by
  have Hv := fun w => svalid_any y m d w hy
  simp only [h] at Hv
  have Ht := Lib.hid (ht.al (Obj.cells #[Value.int IntKind.i64 y, Value.int IntKind.i64 m, Value.int IntKind.i64 d] 23))
  clear ht h hy
  go_enter Tryd.func7, Tryd.ntmps7
  go_wp2_with fail
  refine (gawake_any _ Ht.out).mono ?_
  rintro e w1 ⟨rfl, hb1⟩
  have Ht1 := Lib.hid (Ht.out.on hb1)
  obtain ⟨hc1, hf1⟩ := bcell hb1
  have Hb1 := Lib.hid (below_al1 hb1)
  have hz1 : W.heap.size < w1.heap.size := by have := hb1.size; simp at this; omega
  clear hb1
  go_wp2_with fail
  refine (Hv _).mono ?_
  rintro e w2 ⟨rfl, hb2⟩
  have Ht2 := Lib.hid (Ht1.out.on hb2)
  obtain ⟨hc2, hf2⟩ := bcell hb2
  have Hb2 := Lib.hid (below_on Hb1.out hb2)
  have hz2 : W.heap.size < w2.heap.size := by have := hb2.size; omega
  clear hb2
  go_wp2_with fail
  refine (gawake_any _ Ht2.out).mono ?_
  rintro e w3 ⟨rfl, hb3⟩
  go_wp2_with fail
  go_ret
  exact ⟨rfl, below_on Hb2.out hb3⟩

theorem walk_yes (y m d R : Int) (y2 : y ≤ 999999600) (r1 : 1 ≤ R) (r2 : R ≤ 400000000000) (y1 : 1 ≤ y)
    (Hv : ∀ w, Calls Tryd.prog 22 #[.agg #[.int .i64 y, .int .i64 m, .int .i64 d]] w fun e w' => e = .returned (.bool true) ∧ Below w.heap.size w w')
    (Ha : ∀ w, GTab w → Calls Tryd.prog 10 #[.agg #[.int .i64 y, .int .i64 m, .int .i64 d]] w fun e w' => e = .returned (.tuple #[.int .i64 R, .int .i64 0]) ∧ Below w.heap.size w w')
    (Hb : ∀ w, GTab w → Calls Tryd.prog 10 #[.agg #[.int .i64 (y + 400), .int .i64 m, .int .i64 d]] w fun e w' => e = .returned (.tuple #[.int .i64 (R + 146097), .int .i64 0]) ∧ Below w.heap.size w w')
    (W : World) (ht : GTab W) :
    Calls Tryd.prog 7 #[.agg #[.int .i64 y, .int .i64 m, .int .i64 d]] W fun e w' => e = .returned (.bool true) ∧ Below W.heap.size W w' := by
  have Ht := Lib.hid (ht.al (Obj.cells #[Value.int IntKind.i64 y, Value.int IntKind.i64 m, Value.int IntKind.i64 d] 23))
  have HK := Lib.hid (And.intro ht.heap ht.heap2)
  clear ht
  go_enter Tryd.func7, Tryd.ntmps7
  go_wp2_with fail
  refine (gawake_any _ Ht.out).mono ?_
  rintro e w1 ⟨rfl, hb1⟩
  have Ht1 := Lib.hid (Ht.out.on hb1)
  obtain ⟨hc1, hf1⟩ := bcell hb1
  have Hb1 := Lib.hid (below_al1 hb1)
  have hz1 : W.heap.size < w1.heap.size := by have := hb1.size; simp at this; omega
  clear hb1
  go_wp2_with fail
  refine (Hv _).mono ?_
  rintro e w2 ⟨rfl, hb2⟩
  have Ht2 := Lib.hid (Ht1.out.on hb2)
  obtain ⟨hc2, hf2⟩ := bcell hb2
  have Hb2 := Lib.hid (below_on Hb1.out hb2)
  have hz2 : W.heap.size < w2.heap.size := by have := hb2.size; omega
  clear hb2
  go_wp2_with fail
  refine (Ha _ Ht2.out).mono ?_
  rintro e w3 ⟨rfl, hb3⟩
  have Ht3 := Lib.hid (Ht2.out.on hb3)
  obtain ⟨hc3, hf3⟩ := bcell hb3
  have Hb3 := Lib.hid (below_on Hb2.out hb3)
  have hz3 : W.heap.size < w3.heap.size := by have := hb3.size; omega
  clear hb3
  have hd : (R + 146097 - R == 146097) = true := by rw [beq_iff_eq]; omega
  have Ht4 := Lib.hid (Ht3.out.below ((Below.refl W.heap.size w3).setCell (p := ⟨W.heap.size, 0, none⟩) (Nat.le_refl _) (.int .i64 (y + 400))) HK.out.1 HK.out.2)
  have Hb4 := Lib.hid (Hb3.out.setCell (p := ⟨W.heap.size, 0, none⟩) (Nat.le_refl _) (.int .i64 (y + 400)))
  go_wp2_with fail
  refine (Hb _ Ht4.out).mono ?_
  rintro e w5 ⟨rfl, hb5⟩
  have B := Lib.hid (below_on Hb4.out hb5)
  clear hb5
  go_wp2_with fail
  go_ret
  exact ⟨ret_bool (by rw [beq_iff_eq]; omega), B.out⟩

theorem walk (y m d : Int) (w1 : (Lit.int .i64 y).wf = true) (w2 : (Lit.int .i64 m).wf = true) (w3 : (Lit.int .i64 d).wf = true) (W : World) (ht : GTab W) :
    Calls Tryd.prog 7 #[.agg #[.int .i64 y, .int .i64 m, .int .i64 d]] W fun e w' => e = .returned (.bool true) ∧ Below W.heap.size W w' := by
  have hy : inR y = true := inR_iff.2 (bounds_i64 w1)
  cases hv : greg.vld y m d
  · exact walk_out y m d hv hy W ht
  · by_cases hl : 999999600 < y
    · exact walk_late y m d hv hl hy W ht
    · have h := greg.vld_iff.1 hv
      have hr := greg.num_range hv
      rw [show greg.fst 1 = 1 by decide, show greg.fst 1000000001 = 365242500001 by decide] at hr
      obtain ⟨hc, hlp⟩ := cyc y m d h.1
      have hv' : greg.vld (y + 400) m d = true := greg.vld_iff.2 ⟨by omega, by omega, h.2.2.1, by rw [hlp]; exact h.2.2.2⟩
      refine walk_yes y m d (greg.num y m d) (by omega) hr.1 (by omega) h.1 (fun w => ?_) (fun w ht => gday_at y m d w ht hv) (fun w ht => ?_) W ht
      · have := svalid_any y m d w hy; rw [hv] at this; exact this
      · rw [← hc]; exact gday_at (y + 400) m d w ht hv'

/-! ### the row's step -/
set_option maxRecDepth 100000 in
theorem lifted (os : Os) (started : os.Started) (H : Type) (enc : TypeId × Value → H) :
    ReturnsInHanded {} Tryd.checked os 7 .any (fun w args => (Rows.gregorianCycleSpec.pre enc Tryd.prog Tryd.f7 [] false w args ∧ laidMetH Tryd.prog laidL w) ∧ sizedMet enc Tryd.prog Tryd.f7 (OpenSpec.ofChange Rows.gregorianCycleSpec) false w args)
      (Rows.gregorianCycleSpec.post enc Tryd.prog Tryd.f7 false true false false) := by
  refine returnsInHanded_of_change_and (C := Tryd.checked) (X := fun w _ => laidMetH Tryd.prog laidL w) (fun _ _ _ hh h => h.of_heap hh) own started (by kernel_rfl) Tryd.func7
    (ChangeSpec.witness_shaped (enc := enc) (C := Tryd.checked) (os := os) (X := fun w _ => laidMetH Tryd.prog laidL w) false (World.doorLaid Tryd.prog 400 os) #[.agg #[.int .i64 0, .int .i64 0, .int .i64 0]] 8 rfl (World.shaped_of_RefB (by kernel_rfl) (by kernel_rfl)) (by kernel_rfl) (by kernel_rfl) (by kernel_rfl) (door_met os _)) ?_
  intro W base args ds gs before hval0 hW _ _ hL _
  have hval : ∀ (j : Nat) t v, Tryd.f7.params[j]? = some t → args[j]? = some v → Value.okWide Tryd.prog W .any base t v := hval0
  have hW' := hW
  obtain ⟨p, q, hA0, hV, rfl, hfz, hnd⟩ := hW
  have hA : DataW.TrodAll enc Tryd.prog W 0 (fun _ => true) true Tryd.f7.params.toList args.toList ds p := hA0
  rw [Tryd.params7] at hA hval
  obtain ⟨v0, vs0, d0, ds0, p0, q0, hargs, rfl, rfl, h0, r0⟩ := trodAll_cons hA
  obtain ⟨rfl, rfl, rfl⟩ := trodAll_nil r0
  obtain rfl : args = #[v0] := by cases args; simp_all
  obtain ⟨rfl, rfl⟩ := trodVars_none hV
  obtain ⟨c0_0, c0_1, c0_2, y0_0, y0_1, y0_2, m0, rfl, rfl, rfl, hy0_0, hy0_1, hy0_2⟩ := open_agg3 Tryd.underlying23 (by kernel_rfl) (show Tryd.prog.cellsOf 23 = 3 by kernel_rfl) (hval 0 23 v0 rfl rfl) h0
  obtain ⟨f0_0, e0_0, rfl, w0_0⟩ := DataW.trod_int Tryd.underlying3 hy0_0
  simp at e0_0; subst e0_0
  obtain ⟨f0_1, e0_1, rfl, w0_1⟩ := DataW.trod_int Tryd.underlying3 hy0_1
  simp at e0_1; subst e0_1
  obtain ⟨f0_2, e0_2, rfl, w0_2⟩ := DataW.trod_int Tryd.underlying3 hy0_2
  simp at e0_2; subst e0_2
  clear hA0 hval0
  simp only [List.append_nil] at hW'
  have sr0 : ∀ (W' : World) (sp : Nat → Bool), DataW.Trod enc Tryd.prog W' 0 sp true 23 (.agg #[.int .i64 f0_0, .int .i64 f0_1, .int .i64 f0_2]) (.agg [.lit (.int .i64 f0_0), .lit (.int .i64 f0_1), .lit (.int .i64 f0_2)]) [] := fun W' sp =>
    shut_agg3 (y0 := (.lit (.int .i64 f0_0), [])) (y1 := (.lit (.int .i64 f0_1), [])) (y2 := (.lit (.int .i64 f0_2), [])) Tryd.underlying23 (by kernel_rfl) (show Tryd.prog.cellsOf 23 = 3 by kernel_rfl) ⟨1, by simp [DataW.trod, Tryd.underlying3, w0_0]⟩ ⟨1, by simp [DataW.trod, Tryd.underlying3, w0_1]⟩ ⟨1, by simp [DataW.trod, Tryd.underlying3, w0_2]⟩
  refine (walk f0_0 f0_1 f0_2 w0_0 w0_1 w0_2 W (laid_facts hL)).mono fun e W' ⟨he, bel⟩ => ?_
  subst he
  exact ⟨_, rfl, _, _, _, [], _, [], hW', trodAll_mk1 (shut_bool Tryd.underlying4 _), (trodAll_cons_mk (sr0 _ _) trodAll_mk0), rfl, bel.frame _, fun h => by cases h⟩

theorem over : Rows.gregorianCycleRow.holds Tryd.pinned (OpenSpec.ofChange Rows.gregorianCycleSpec) :=
  OpenClaim.holds_of_wide 7 Tryd.f7 rfl rfl rfl rfl rfl rfl rfl ⟨rfl, rfl, rfl, rfl, rfl⟩ rfl rfl rfl rfl rfl (by kernel_rfl) Tryd.func7 (by kernel_rfl)
    (of_decide_eq_true (by kernel_rfl)) (by unfold Func.isWrapper; first | (rw [if_pos (by decide +kernel)]; kernel_rfl) | (rw [if_neg (by decide +kernel)]; exact ⟨rfl, rfl⟩))
    (fun os started H enc _ => lifted os started H enc)

/-- The statement: the tied card. -/
theorem proved : Rows.GregorianCycleCardSaid :=
  Claim7.holds_tied_plain_at .later [] [.data, .data] true (true, "f0b50a9b265c7a874b3dcaf894b38aaf9df5174e93eb85ea897d4d7a5fe01351") false
    over (fun _ h => by cases h) (by kernel_rfl) (fun _ h => by cases h) gregorianCycle_row_tie rfl ⟨rfl, rfl⟩ (by kernel_rfl) rfl
    (fun f fn hf hfn => by
      obtain rfl : f = 7 := Option.some.inj ((show Tryd.prog.funcNamed "computus/computuslaw03.GregorianCycle" = some 7 by kernel_rfl).symm.trans hf) |>.symm
      obtain rfl : fn = Tryd.f7 := (Option.some.inj (Tryd.func7.symm.trans hfn)).symm
      exact ⟨by kernel_rfl, fun j t ht => by
        rw [Tryd.params7] at ht
        have hm : t ∈ [23] := by simpa using Array.mem_of_getElem? ht
        have hall : ([23].all fun u => !Tryd.prog.wantsStandIn u) = true := by kernel_rfl
        exact (show Tryd.prog.wantsStandIn t = false by simpa using List.all_eq_true.1 hall t hm)⟩)
    (by kernel_rfl)
#print axioms proved
end Go.Proofs.YthhegcjmlpekbaaDoor.gregorianCycle
