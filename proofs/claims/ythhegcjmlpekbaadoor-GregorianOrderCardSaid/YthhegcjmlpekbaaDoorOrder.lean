/- Proved: for every two dates, the law GregorianOrder of package computuslaw03 (valid dates are ordered like their numbers) returns true, and what was in memory is as it was. Condition: the two tables of package gregorian (the lengths of the months, the groups of years) read as the program's text lays them (the card ties them). -/
import Derived.Test.YthhegcjmlpekbaaDoorGg
import Derived.Test.YthhegcjmlpekbaaDoorGy
import Derived.WalkKit
import Derived.ProofKit
import Derived.OpenShut
import Derived.ShutString
import Derived.Lib.SmallJoins
import Derived.LaidMore
import Derived.Stop.Joined
import Derived.SevenTiedAt
import Derived.Test.YthhegcjmlpekbaaDoorCards
import Derived.Test.YthhegcjmlpekbaaDoorTie
namespace Go.Proofs.YthhegcjmlpekbaaDoor.gregorianOrder
open Go.ChangeShapes Go.WideShapes Go.ChangeAt Go.RowKit Go.Joins
open Go.ChangeMaps (open_string shut_string)
set_option linter.unusedVariables false      -- a walk need not use every fact

theorem walk_out1 (y m d y' m' d' : Int) (h : greg.vld y m d = false) (hy : inR y = true) (W : World) (ht : GTab W) :
    Calls Tryd.prog 6 #[.agg #[.int .i64 y, .int .i64 m, .int .i64 d], .agg #[.int .i64 y', .int .i64 m', .int .i64 d']] W fun e w' => e = .returned (.bool true) ∧ Below W.heap.size W w' := by
  have Hv := fun w => svalid_any y m d w hy
  simp only [h] at Hv
  have Ht := Lib.hid ((ht.al (Obj.cells #[Value.int IntKind.i64 y, Value.int IntKind.i64 m, Value.int IntKind.i64 d] 23)).al (Obj.cells #[Value.int IntKind.i64 y', Value.int IntKind.i64 m', Value.int IntKind.i64 d'] 23))
  clear ht h hy
  go_enter Tryd.func6, Tryd.ntmps6
  go_wp2_with fail
  refine (gawake_any _ Ht.out).mono ?_
  rintro e w1 ⟨rfl, hb1⟩
  have Ht1 := Lib.hid (Ht.out.on hb1)
  obtain ⟨hc1, hf1⟩ := bcell hb1
  have Hb1 := Lib.hid hb1
  have hz1 : W.heap.size + 1 < w1.heap.size := by have := hb1.size; simp at this; omega
  have hk1 : W.heap.size < w1.heap.size := by omega
  clear hb1
  go_wp2_with fail
  refine (Hv _).mono ?_
  rintro e w2 ⟨rfl, hb2⟩
  have Ht2 := Lib.hid (Ht1.out.on hb2)
  have Hb2 := Lib.hid hb2
  clear hb2
  go_wp2_with fail
  refine (gawake_any _ Ht2.out).mono ?_
  rintro e w3 ⟨rfl, hb3⟩
  go_wp2_with fail
  go_ret
  have h2 := Hb2.out.size
  refine ⟨rfl, ((((((Below.refl _ _).alloc (Nat.le_refl _) _).alloc (by simp) _).trans (Hb1.out.mono (by simp; omega))).trans (Hb2.out.mono (by omega))).trans (hb3.mono (by omega)))⟩

theorem walk_out2 (y m d y' m' d' : Int) (h : greg.vld y m d = true) (hy : inR y = true) (h' : greg.vld y' m' d' = false) (hy' : inR y' = true) (W : World) (ht : GTab W) :
    Calls Tryd.prog 6 #[.agg #[.int .i64 y, .int .i64 m, .int .i64 d], .agg #[.int .i64 y', .int .i64 m', .int .i64 d']] W fun e w' => e = .returned (.bool true) ∧ Below W.heap.size W w' := by
  have Hv := fun w => svalid_any y m d w hy
  simp only [h] at Hv
  have Hv' := fun w => svalid_any y' m' d' w hy'
  simp only [h'] at Hv'
  have Ht := Lib.hid ((ht.al (Obj.cells #[Value.int IntKind.i64 y, Value.int IntKind.i64 m, Value.int IntKind.i64 d] 23)).al (Obj.cells #[Value.int IntKind.i64 y', Value.int IntKind.i64 m', Value.int IntKind.i64 d'] 23))
  clear ht h hy h' hy'
  go_enter Tryd.func6, Tryd.ntmps6
  go_wp2_with fail
  refine (gawake_any _ Ht.out).mono ?_
  rintro e w1 ⟨rfl, hb1⟩
  have Ht1 := Lib.hid (Ht.out.on hb1)
  obtain ⟨hc1, hf1⟩ := bcell hb1
  have Hb1 := Lib.hid hb1
  have hz1 : W.heap.size + 1 < w1.heap.size := by have := hb1.size; simp at this; omega
  have hk1 : W.heap.size < w1.heap.size := by omega
  clear hb1
  go_wp2_with fail
  refine (Hv _).mono ?_
  rintro e w2 ⟨rfl, hb2⟩
  have Ht2 := Lib.hid (Ht1.out.on hb2)
  obtain ⟨hc2, hf2⟩ := bcell hb2
  have Hb2 := Lib.hid hb2
  have hz2 : W.heap.size + 1 < w2.heap.size := by have := hb2.size; omega
  have hk2 : W.heap.size < w2.heap.size := by omega
  clear hb2
  go_wp2_with fail
  refine (Hv' _).mono ?_
  rintro e w3 ⟨rfl, hb3⟩
  have Ht3 := Lib.hid (Ht2.out.on hb3)
  have Hb3 := Lib.hid hb3
  clear hb3
  go_wp2_with fail
  refine (gawake_any _ Ht3.out).mono ?_
  rintro e w4 ⟨rfl, hb4⟩
  go_wp2_with fail
  go_ret
  have h2 := Hb2.out.size
  have h3 := Hb3.out.size
  refine ⟨rfl, (((((((Below.refl _ _).alloc (Nat.le_refl _) _).alloc (by simp) _).trans (Hb1.out.mono (by simp; omega))).trans (Hb2.out.mono (by omega))).trans (Hb3.out.mono (by omega))).trans (hb4.mono (by omega)))⟩

theorem walk_yes (y m d y' m' d' R R' : Int) (lt eq : Bool) (hv : greg.vld y m d = true) (hv' : greg.vld y' m' d' = true) (hy : inR y = true) (hy' : inR y' = true)
    (hR : greg.num y m d = R) (hR' : greg.num y' m' d' = R') (hlt : decide (R < R') = lt) (hless : Cal.less y m d y' m' d' = lt) (heq : (R == R') = eq)
    (he : eq = decide (y = y' ∧ m = m' ∧ d = d')) (W : World) (ht : GTab W) :
    Calls Tryd.prog 6 #[.agg #[.int .i64 y, .int .i64 m, .int .i64 d], .agg #[.int .i64 y', .int .i64 m', .int .i64 d']] W fun e w' => e = .returned (.bool true) ∧ Below W.heap.size W w' := by
  have Hv := fun w => svalid_any y m d w hy
  simp only [hv] at Hv
  have Hv' := fun w => svalid_any y' m' d' w hy'
  simp only [hv'] at Hv'
  have Hd := fun w ht => gday_at y m d w ht hv
  have Hd' := fun w ht => gday_at y' m' d' w ht hv'
  have Hl := fun w => rless_any y m d y' m' d' w
  simp only [hR] at Hd
  simp only [hR'] at Hd'
  simp only [hless] at Hl
  have Ht := Lib.hid ((ht.al (Obj.cells #[Value.int IntKind.i64 y, Value.int IntKind.i64 m, Value.int IntKind.i64 d] 23)).al (Obj.cells #[Value.int IntKind.i64 y', Value.int IntKind.i64 m', Value.int IntKind.i64 d'] 23))
  have He := Lib.hid he
  clear ht hv hv' hy hy' hR hR' hless he
  go_enter Tryd.func6, Tryd.ntmps6
  go_wp2_with fail
  refine (gawake_any _ Ht.out).mono ?_
  rintro e w1 ⟨rfl, hb1⟩
  have Ht1 := Lib.hid (Ht.out.on hb1)
  obtain ⟨hc1, hf1⟩ := bcell hb1
  have Hb1 := Lib.hid hb1
  have hz1 : W.heap.size + 1 < w1.heap.size := by have := hb1.size; simp at this; omega
  have hk1 : W.heap.size < w1.heap.size := by omega
  clear hb1
  go_wp2_with fail
  refine (Hv _).mono ?_
  rintro e w2 ⟨rfl, hb2⟩
  have Ht2 := Lib.hid (Ht1.out.on hb2)
  obtain ⟨hc2, hf2⟩ := bcell hb2
  have Hb2 := Lib.hid hb2
  have hz2 : W.heap.size + 1 < w2.heap.size := by have := hb2.size; omega
  have hk2 : W.heap.size < w2.heap.size := by omega
  clear hb2
  go_wp2_with fail
  refine (Hv' _).mono ?_
  rintro e w3 ⟨rfl, hb3⟩
  have Ht3 := Lib.hid (Ht2.out.on hb3)
  obtain ⟨hc3, hf3⟩ := bcell hb3
  have Hb3 := Lib.hid hb3
  have hz3 : W.heap.size + 1 < w3.heap.size := by have := hb3.size; omega
  have hk3 : W.heap.size < w3.heap.size := by omega
  clear hb3
  go_wp2_with fail
  refine (Hd _ Ht3.out).mono ?_
  rintro e w4 ⟨rfl, hb4⟩
  have Ht4 := Lib.hid (Ht3.out.on hb4)
  obtain ⟨hc4, hf4⟩ := bcell hb4
  have Hb4 := Lib.hid hb4
  have hz4 : W.heap.size + 1 < w4.heap.size := by have := hb4.size; omega
  have hk4 : W.heap.size < w4.heap.size := by omega
  clear hb4
  go_wp2_with fail
  refine (Hd' _ Ht4.out).mono ?_
  rintro e w5 ⟨rfl, hb5⟩
  have Ht5 := Lib.hid (Ht4.out.on hb5)
  obtain ⟨hc5, hf5⟩ := bcell hb5
  have Hb5 := Lib.hid hb5
  have hz5 : W.heap.size + 1 < w5.heap.size := by have := hb5.size; omega
  have hk5 : W.heap.size < w5.heap.size := by omega
  clear hb5
  go_wp2_with fail
  refine (Hl _).mono ?_
  rintro e w6 ⟨rfl, hb6⟩
  obtain ⟨hc6, hf6⟩ := bcell hb6
  have Hb6 := Lib.hid hb6
  have hz6 : W.heap.size + 1 < w6.heap.size := by have := hb6.size; omega
  have hk6 : W.heap.size < w6.heap.size := by omega
  clear hb6
  have h2 := Hb2.out.size
  have h3 := Hb3.out.size
  have h4 := Hb4.out.size
  have h5 := Hb5.out.size
  have B : Hid (Below W.heap.size W w6) := ((((((((Below.refl _ _).alloc (Nat.le_refl _) _).alloc (by simp) _).trans (Hb1.out.mono (by simp; omega))).trans (Hb2.out.mono (by omega))).trans (Hb3.out.mono (by omega))).trans (Hb4.out.mono (by omega))).trans (Hb5.out.mono (by omega))).trans (Hb6.out.mono (by omega))
  clear h2 h3 h4 h5
  go_wp2_with fail
  all_goals
    go_ret
    exact ⟨ret_bool (by rw [He.out]; simp <;> omega), B.out⟩

theorem walk (y m d y' m' d' : Int) (w1 : (Lit.int .i64 y).wf = true) (w2 : (Lit.int .i64 m).wf = true) (w3 : (Lit.int .i64 d).wf = true) (w1' : (Lit.int .i64 y').wf = true) (w2' : (Lit.int .i64 m').wf = true) (w3' : (Lit.int .i64 d').wf = true) (W : World) (ht : GTab W) :
    Calls Tryd.prog 6 #[.agg #[.int .i64 y, .int .i64 m, .int .i64 d], .agg #[.int .i64 y', .int .i64 m', .int .i64 d']] W fun e w' => e = .returned (.bool true) ∧ Below W.heap.size W w' := by
  have hy : inR y = true := inR_iff.2 (bounds_i64 w1)
  have hy' : inR y' = true := inR_iff.2 (bounds_i64 w1')
  cases hv : greg.vld y m d
  · exact walk_out1 y m d y' m' d' hv hy W ht
  · cases hv' : greg.vld y' m' d'
    · exact walk_out2 y m d y' m' d' hv hy hv' hy' W ht
    · refine walk_yes y m d y' m' d' _ _ _ _ hv hv' hy hy' rfl rfl rfl (greg.num_lt_iff hv hv').symm rfl ?_ W ht
      rw [Bool.eq_iff_iff]
      simp only [decide_eq_true_iff, beq_iff_eq]
      exact ⟨fun e => greg.num_inj hv hv' e, fun ⟨a, b, c⟩ => by rw [a, b, c]⟩

/-! ### the row's step -/
set_option maxRecDepth 100000 in
theorem lifted (os : Os) (started : os.Started) (H : Type) (enc : TypeId × Value → H) :
    ReturnsInHanded {} Tryd.checked os 6 .any (fun w args => (Rows.gregorianOrderSpec.pre enc Tryd.prog Tryd.f6 [] false w args ∧ laidMetH Tryd.prog laidL w) ∧ sizedMet enc Tryd.prog Tryd.f6 (OpenSpec.ofChange Rows.gregorianOrderSpec) false w args)
      (Rows.gregorianOrderSpec.post enc Tryd.prog Tryd.f6 false true false false) := by
  refine returnsInHanded_of_change_and (C := Tryd.checked) (X := fun w _ => laidMetH Tryd.prog laidL w) (fun _ _ _ hh h => h.of_heap hh) own started (by kernel_rfl) Tryd.func6
    (ChangeSpec.witness_shaped (enc := enc) (C := Tryd.checked) (os := os) (X := fun w _ => laidMetH Tryd.prog laidL w) false (World.doorLaid Tryd.prog 400 os) #[.agg #[.int .i64 0, .int .i64 0, .int .i64 0], .agg #[.int .i64 0, .int .i64 0, .int .i64 0]] 8 rfl (World.shaped_of_RefB (by kernel_rfl) (by kernel_rfl)) (by kernel_rfl) (by kernel_rfl) (by kernel_rfl) (door_met os _)) ?_
  intro W base args ds gs before hval0 hW _ _ hL _
  have hval : ∀ (j : Nat) t v, Tryd.f6.params[j]? = some t → args[j]? = some v → Value.okWide Tryd.prog W .any base t v := hval0
  have hW' := hW
  obtain ⟨p, q, hA0, hV, rfl, hfz, hnd⟩ := hW
  have hA : DataW.TrodAll enc Tryd.prog W 0 (fun _ => true) true Tryd.f6.params.toList args.toList ds p := hA0
  rw [Tryd.params6] at hA hval
  obtain ⟨v0, vs0, d0, ds0, p0, q0, hargs, rfl, rfl, h0, r0⟩ := trodAll_cons hA
  obtain ⟨v1, vs1, d1, ds1, p1, q1, rfl, rfl, rfl, h1, r1⟩ := trodAll_cons r0
  obtain ⟨rfl, rfl, rfl⟩ := trodAll_nil r1
  obtain rfl : args = #[v0, v1] := by cases args; simp_all
  obtain ⟨rfl, rfl⟩ := trodVars_none hV
  obtain ⟨c0_0, c0_1, c0_2, y0_0, y0_1, y0_2, m0, rfl, rfl, rfl, hy0_0, hy0_1, hy0_2⟩ := open_agg3 Tryd.underlying23 (by kernel_rfl) (show Tryd.prog.cellsOf 23 = 3 by kernel_rfl) (hval 0 23 v0 rfl rfl) h0
  obtain ⟨f0_0, e0_0, rfl, w0_0⟩ := DataW.trod_int Tryd.underlying3 hy0_0
  simp at e0_0; subst e0_0
  obtain ⟨f0_1, e0_1, rfl, w0_1⟩ := DataW.trod_int Tryd.underlying3 hy0_1
  simp at e0_1; subst e0_1
  obtain ⟨f0_2, e0_2, rfl, w0_2⟩ := DataW.trod_int Tryd.underlying3 hy0_2
  simp at e0_2; subst e0_2
  obtain ⟨c1_0, c1_1, c1_2, y1_0, y1_1, y1_2, m1, rfl, rfl, rfl, hy1_0, hy1_1, hy1_2⟩ := open_agg3 Tryd.underlying23 (by kernel_rfl) (show Tryd.prog.cellsOf 23 = 3 by kernel_rfl) (hval 1 23 v1 rfl rfl) h1
  obtain ⟨f1_0, e1_0, rfl, w1_0⟩ := DataW.trod_int Tryd.underlying3 hy1_0
  simp at e1_0; subst e1_0
  obtain ⟨f1_1, e1_1, rfl, w1_1⟩ := DataW.trod_int Tryd.underlying3 hy1_1
  simp at e1_1; subst e1_1
  obtain ⟨f1_2, e1_2, rfl, w1_2⟩ := DataW.trod_int Tryd.underlying3 hy1_2
  simp at e1_2; subst e1_2
  clear hA0 hval0
  simp only [List.append_nil] at hW'
  have sr0 : ∀ (W' : World) (sp : Nat → Bool), DataW.Trod enc Tryd.prog W' 0 sp true 23 (.agg #[.int .i64 f0_0, .int .i64 f0_1, .int .i64 f0_2]) (.agg [.lit (.int .i64 f0_0), .lit (.int .i64 f0_1), .lit (.int .i64 f0_2)]) [] := fun W' sp =>
    shut_agg3 (y0 := (.lit (.int .i64 f0_0), [])) (y1 := (.lit (.int .i64 f0_1), [])) (y2 := (.lit (.int .i64 f0_2), [])) Tryd.underlying23 (by kernel_rfl) (show Tryd.prog.cellsOf 23 = 3 by kernel_rfl) ⟨1, by simp [DataW.trod, Tryd.underlying3, w0_0]⟩ ⟨1, by simp [DataW.trod, Tryd.underlying3, w0_1]⟩ ⟨1, by simp [DataW.trod, Tryd.underlying3, w0_2]⟩
  have sr1 : ∀ (W' : World) (sp : Nat → Bool), DataW.Trod enc Tryd.prog W' 0 sp true 23 (.agg #[.int .i64 f1_0, .int .i64 f1_1, .int .i64 f1_2]) (.agg [.lit (.int .i64 f1_0), .lit (.int .i64 f1_1), .lit (.int .i64 f1_2)]) [] := fun W' sp =>
    shut_agg3 (y0 := (.lit (.int .i64 f1_0), [])) (y1 := (.lit (.int .i64 f1_1), [])) (y2 := (.lit (.int .i64 f1_2), [])) Tryd.underlying23 (by kernel_rfl) (show Tryd.prog.cellsOf 23 = 3 by kernel_rfl) ⟨1, by simp [DataW.trod, Tryd.underlying3, w1_0]⟩ ⟨1, by simp [DataW.trod, Tryd.underlying3, w1_1]⟩ ⟨1, by simp [DataW.trod, Tryd.underlying3, w1_2]⟩
  refine (walk f0_0 f0_1 f0_2 f1_0 f1_1 f1_2 w0_0 w0_1 w0_2 w1_0 w1_1 w1_2 W (laid_facts hL)).mono fun e W' ⟨he, bel⟩ => ?_
  subst he
  exact ⟨_, rfl, _, _, _, [], _, [], hW', trodAll_mk1 (shut_bool Tryd.underlying4 _), (trodAll_cons_mk (sr0 _ _) (trodAll_cons_mk (sr1 _ _) trodAll_mk0)), rfl, bel.frame _, fun h => by cases h⟩

theorem over : Rows.gregorianOrderRow.holds Tryd.pinned (OpenSpec.ofChange Rows.gregorianOrderSpec) :=
  OpenClaim.holds_of_wide 6 Tryd.f6 rfl rfl rfl rfl rfl rfl rfl ⟨rfl, rfl, rfl, rfl, rfl⟩ rfl rfl rfl rfl rfl (by kernel_rfl) Tryd.func6 (by kernel_rfl)
    (of_decide_eq_true (by kernel_rfl)) (by unfold Func.isWrapper; first | (rw [if_pos (by decide +kernel)]; kernel_rfl) | (rw [if_neg (by decide +kernel)]; exact ⟨rfl, rfl⟩))
    (fun os started H enc _ => lifted os started H enc)

/-- The statement: the tied card. -/
theorem proved : Rows.GregorianOrderCardSaid :=
  Claim7.holds_tied_plain_at .later [] [.data, .data] true (true, "f0b50a9b265c7a874b3dcaf894b38aaf9df5174e93eb85ea897d4d7a5fe01351") false
    over (fun _ h => by cases h) (by kernel_rfl) (fun _ h => by cases h) gregorianOrder_row_tie rfl ⟨rfl, rfl⟩ (by kernel_rfl) rfl
    (fun f fn hf hfn => by
      obtain rfl : f = 6 := Option.some.inj ((show Tryd.prog.funcNamed "computus/computuslaw03.GregorianOrder" = some 6 by kernel_rfl).symm.trans hf) |>.symm
      obtain rfl : fn = Tryd.f6 := (Option.some.inj (Tryd.func6.symm.trans hfn)).symm
      exact ⟨by kernel_rfl, fun j t ht => by
        rw [Tryd.params6] at ht
        have hm : t ∈ [23, 23] := by simpa using Array.mem_of_getElem? ht
        have hall : ([23, 23].all fun u => !Tryd.prog.wantsStandIn u) = true := by kernel_rfl
        exact (show Tryd.prog.wantsStandIn t = false by simpa using List.all_eq_true.1 hall t hm)⟩)
    (by kernel_rfl)
#print axioms proved
end Go.Proofs.YthhegcjmlpekbaaDoor.gregorianOrder
