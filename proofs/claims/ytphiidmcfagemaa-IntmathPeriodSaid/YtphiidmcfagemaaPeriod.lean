/- Proved: for any two 64-bit integers, the law on Div and Mod with the divisor added to the dividend returns true, and what was in memory is as it was. No condition. -/
import Derived.Test.YtphiidmcfagemaaW
import Derived.WalkKit
import Derived.ProofKit
import Derived.OpenShut
import Derived.ShutString
namespace Go.Proofs.Ytphiidmcfagemaa.intmathPeriod
open Go.ChangeShapes Go.WideShapes Go.ChangeAt Go.RowKit
open Go.ChangeMaps (open_string shut_string)
set_option linter.unusedVariables false      -- a walk need not use every 'w<i>' (that an integer argument fits its kind)

theorem own : ownKnob Try.prog.godebug = none := by kernel_rfl

theorem bd_of_wf {a : Int} (h : (Lit.int .i64 a).wf = true) : inR a = true := by
  have hmin : IntKind.i64.min = -9223372036854775808 := rfl
  have hmax : IntKind.i64.max = 9223372036854775807 := rfl
  simp only [Lit.wf, Bool.and_eq_true, decide_eq_true_eq] at h
  rw [inR_iff]; omega

theorem add_fdiv (a b : Int) (hb : b ≠ 0) : (a + b).fdiv b = a.fdiv b + 1 ∧ (a + b).fmod b = a.fmod b := by
  refine fdiv_unique (a + b) b _ _ ?_ (fm_bd a b hb)
  have := fm_eq a b
  rw [Int.mul_add, Int.mul_one]
  omega

def Skip (a b : Int) : Prop := b = 0 ∨ (¬ b = 0 ∧ inR (a + b) = false) ∨ (¬ b = 0 ∧ inR (a + b) = true ∧ spl a b = false) ∨ (¬ b = 0 ∧ inR (a + b) = true ∧ spl a b = true ∧ spl (a + b) b = false)

theorem walk_no (a b : Int) (w : World) (ha : inR a = true) (hbr : inR b = true) (hs : Skip a b) :
    Calls Try.prog 4 #[.int .i64 a, .int .i64 b] w fun e w' => e = .returned (.bool true) ∧ Below w.heap.size w w' := by
  have H17 := fun w => adds_any a b w ha hbr
  have H8 := fun w => splits_any a b w
  have H8' := fun w => splits_any (a + b) b w
  clear ha hbr
  rcases hs with h | ⟨h, h1⟩ | ⟨h, h1, h2⟩ | ⟨h, h1, h2, h3⟩
  · subst h
    clear H17 H8 H8'
    go_enter Try.func4, Try.ntmps4
    go_wp2_with fail
    refine (awake_any _).mono ?_
    rintro e w1 ⟨rfl, hb1⟩
    go_wp2_with fail
    refine (awake_any _).mono ?_
    rintro e w2 ⟨rfl, hb2⟩
    go_wp2_with fail
    go_ret
    exact ⟨rfl, hb1.trans (hb2.mono hb1.size)⟩
  · rw [h1] at H17
    clear H8 H8' h1
    go_enter Try.func4, Try.ntmps4
    go_wp2_with fail
    refine (awake_any _).mono ?_
    rintro e w1 ⟨rfl, hb1⟩
    go_wp2_with fail
    refine (H17 _).mono ?_
    rintro e w2 ⟨rfl, rfl⟩
    go_wp2_with fail
    refine (awake_any _).mono ?_
    rintro e w2 ⟨rfl, hb2⟩
    go_wp2_with fail
    go_ret
    exact ⟨rfl, hb1.trans (hb2.mono hb1.size)⟩
  · rw [h1] at H17
    rw [h2] at H8
    clear H8' h1 h2
    go_enter Try.func4, Try.ntmps4
    go_wp2_with fail
    refine (awake_any _).mono ?_
    rintro e w1 ⟨rfl, hb1⟩
    go_wp2_with fail
    refine (H17 _).mono ?_
    rintro e w2 ⟨rfl, rfl⟩
    go_wp2_with fail
    refine (H8 _).mono ?_
    rintro e w2 ⟨rfl, rfl⟩
    go_wp2_with fail
    refine (awake_any _).mono ?_
    rintro e w2 ⟨rfl, hb2⟩
    go_wp2_with fail
    go_ret
    exact ⟨rfl, hb1.trans (hb2.mono hb1.size)⟩
  · rw [h1] at H17
    rw [h2] at H8
    rw [h3] at H8'
    obtain ⟨l1, l2⟩ := inR_iff.1 h1
    clear h1 h2 h3
    go_enter Try.func4, Try.ntmps4
    go_wp2_with fail
    refine (awake_any _).mono ?_
    rintro e w1 ⟨rfl, hb1⟩
    go_wp2_with fail
    refine (H17 _).mono ?_
    rintro e w2 ⟨rfl, rfl⟩
    go_wp2_with fail
    refine (H8 _).mono ?_
    rintro e w2 ⟨rfl, rfl⟩
    go_wp2_with fail
    refine (H8' _).mono ?_
    rintro e w2 ⟨rfl, rfl⟩
    go_wp2_with fail
    refine (awake_any _).mono ?_
    rintro e w2 ⟨rfl, hb2⟩
    go_wp2_with fail
    go_ret
    exact ⟨rfl, hb1.trans (hb2.mono hb1.size)⟩

theorem walk_yes (a b : Int) (w : World) (ha : inR a = true) (hbr : inR b = true) (h : ¬ b = 0) (h1 : inR (a + b) = true) (h2 : spl a b = true) (h3 : spl (a + b) b = true) :
    Calls Try.prog 4 #[.int .i64 a, .int .i64 b] w fun e w' => e = .returned (.bool true) ∧ Below w.heap.size w w' := by
  have H17 := fun w => adds_any a b w ha hbr
  have H8 := fun w => splits_any a b w
  have H8' := fun w => splits_any (a + b) b w
  have HD := fun w => div_any a b w ha
  have HD' := fun w => div_any (a + b) b w h1
  have HM := fun w => mod_any a b w ha hbr
  have HM' := fun w => mod_any (a + b) b w h1 hbr
  obtain ⟨e1, e2⟩ := add_fdiv a b h
  have hq : inR (a.fdiv b + 1) = true := by
    rw [← e1]
    cases hr : rup (a + b) b
    · rw [(rup_false _ b h hr).1]; exact tdiv_in _ _ h1 h (by simpa [spl, h] using h3)
    · rw [(rup_true _ b h hr).1]; exact tdiv_dec _ _ h1 h hr
  rw [h1] at H17
  rw [h2] at H8 HD HM
  rw [h3] at H8' HD' HM'
  simp only [ifb_true] at HD HM HD' HM'
  rw [e1] at HD'
  rw [e2] at HM'
  obtain ⟨l1, l2⟩ := inR_iff.1 h1
  obtain ⟨l3, l4⟩ := inR_iff.1 hq
  clear h1 h2 h3 hq e1 e2 ha hbr
  generalize a.fdiv b = q at *
  generalize a.fmod b = r at *
  go_enter Try.func4, Try.ntmps4
  go_wp2_with fail
  refine (awake_any _).mono ?_
  rintro e w1 ⟨rfl, hb1⟩
  go_wp2_with fail
  refine (H17 _).mono ?_
  rintro e w2 ⟨rfl, rfl⟩
  go_wp2_with fail
  refine (H8 _).mono ?_
  rintro e w2 ⟨rfl, rfl⟩
  go_wp2_with fail
  refine (H8' _).mono ?_
  rintro e w2 ⟨rfl, rfl⟩
  go_wp2_with fail
  refine (HD _).mono ?_
  rintro e w2 ⟨rfl, hb2⟩
  go_wp2_with fail
  refine (HM _).mono ?_
  rintro e w3 ⟨rfl, hb3⟩
  go_wp2_with fail
  refine (HD' _).mono ?_
  rintro e w4 ⟨rfl, hb4⟩
  go_wp2_with fail
  refine (HM' _).mono ?_
  rintro e w5 ⟨rfl, hb5⟩
  go_wp2_with fail
  go_ret
  have k1 := hb1.size; have k2 := hb2.size; have k3 := hb3.size; have k4 := hb4.size
  exact ⟨rfl, (((hb1.trans (hb2.mono k1)).trans (hb3.mono (by omega))).trans (hb4.mono (by omega))).trans (hb5.mono (by omega))⟩

theorem walk (a b : Int) (w0 : (Lit.int .i64 a).wf = true) (w1 : (Lit.int .i64 b).wf = true) (w : World) :
    Calls Try.prog 4 #[.int .i64 a, .int .i64 b] w fun e w' => e = .returned (.bool true) ∧ Below w.heap.size w w' := by
  have ha := bd_of_wf w0
  have hb := bd_of_wf w1
  by_cases h : b = 0
  · exact walk_no a b w ha hb (Or.inl h)
  cases h1 : inR (a + b)
  · exact walk_no a b w ha hb (Or.inr (Or.inl ⟨h, h1⟩))
  cases h2 : spl a b
  · exact walk_no a b w ha hb (Or.inr (Or.inr (Or.inl ⟨h, h1, h2⟩)))
  cases h3 : spl (a + b) b
  · exact walk_no a b w ha hb (Or.inr (Or.inr (Or.inr ⟨h, h1, h2, h3⟩)))
  · exact walk_yes a b w ha hb h h1 h2 h3

/-! ### THE ROW's STEP -/
set_option maxRecDepth 100000 in
theorem lifted (os : Os) (started : os.Started) (H : Type) (enc : TypeId × Value → H) :
    ReturnsInHanded {} Try.checked os 4 .any (Rows.intmathPeriodSpec.pre6 enc Try.prog Try.f4 Rows.intmathPeriodRow.domain false) (Rows.intmathPeriodSpec.post enc Try.prog Try.f4 false true false false) := by
  refine returnsInHanded_of_change (C := Try.checked) own started (by kernel_rfl) Try.func4
    (ChangeSpec.witness6 (enc := enc) (C := Try.checked) false ⟨#[], #[.int .i64 0, .int .i64 0], []⟩ 8 (by kernel_rfl) (by kernel_rfl) (by kernel_rfl) (by kernel_rfl)) ?_
  intro W base args ds gs before hval0 hW hcnd _
  have hval : ∀ (j : Nat) t v, Try.f4.params[j]? = some t → args[j]? = some v → Value.okWide Try.prog W .any base t v := hval0
  have hW' := hW
  obtain ⟨p, q, hA0, hV, rfl, hfz, hnd⟩ := hW
  have hA : DataW.TrodAll enc Try.prog W 0 (fun _ => true) true Try.f4.params.toList args.toList ds p := hA0
  rw [Try.params4] at hA hval
  obtain ⟨v0, vs0, d0, ds0, p0, q0, hargs, rfl, rfl, h0, r0⟩ := trodAll_cons hA
  obtain ⟨v1, vs1, d1, ds1, p1, q1, rfl, rfl, rfl, h1, r1⟩ := trodAll_cons r0
  obtain ⟨rfl, rfl, rfl⟩ := trodAll_nil r1
  obtain rfl : args = #[v0, v1] := by cases args; simp_all
  obtain ⟨rfl, rfl⟩ := trodVars_none hV
  obtain ⟨a0, rfl, rfl, rfl, w0⟩ := open_int Try.underlying3 (hval 0 3 v0 rfl rfl) h0
  obtain ⟨a1, rfl, rfl, rfl, w1⟩ := open_int Try.underlying3 (hval 1 3 v1 rfl rfl) h1
  clear hA0 hval0
  simp only [List.append_nil] at hW'
  refine (walk a0 a1 w0 w1 W).mono fun e W' ⟨he, bel⟩ => ?_
  subst he
  exact ⟨_, rfl, _, _, _, [], _, [], hW', trodAll_mk1 (shut_bool Try.underlying4 _), (trodAll_cons_mk (shut_int Try.underlying3 w0) (trodAll_cons_mk (shut_int Try.underlying3 w1) trodAll_mk0)), rfl, bel.frame _, fun h => by cases h⟩

theorem over : Rows.intmathPeriodRow.holds Try.pinned (OpenSpec.ofChange Rows.intmathPeriodSpec) :=
  OpenClaim.holds_of_wide 4 Try.f4 rfl rfl rfl rfl rfl rfl rfl ⟨rfl, rfl, rfl, rfl, rfl⟩ rfl rfl rfl rfl rfl (by kernel_rfl) Try.func4 (by kernel_rfl)
    (of_decide_eq_true (by kernel_rfl)) (by unfold Func.isWrapper; first | (rw [if_pos (by decide +kernel)]; kernel_rfl) | (rw [if_neg (by decide +kernel)]; exact ⟨rfl, rfl⟩))
    (fun os started H enc _ => lifted os started H enc)

/-- The statement. -/
theorem proved : Rows.IntmathPeriodSaid :=
  over
#print axioms proved
end Go.Proofs.Ytphiidmcfagemaa.intmathPeriod
