/- Proved: for any two 64-bit integers, the law on Add, Sub, Mul, Div and Mod as inverses of each other returns true, and what was in memory is as it was. No condition. -/
import Derived.Test.YtphiidmcfagemaaW
import Derived.Test.YtphiidmcfagemaaE
import Derived.WalkKit
import Derived.ProofKit
import Derived.OpenShut
import Derived.ShutString
namespace Go.Proofs.Ytphiidmcfagemaa.intmathInverse
open Go.ChangeShapes Go.WideShapes Go.ChangeAt Go.RowKit
open Go.ChangeMaps (open_string shut_string)
set_option linter.unusedVariables false      -- a walk need not use every 'w<i>' (that an integer argument fits its kind)

theorem own : ownKnob Try.prog.godebug = none := by kernel_rfl

theorem bd_of_wf {a : Int} (h : (Lit.int .i64 a).wf = true) : inR a = true := by
  have hmin : IntKind.i64.min = -9223372036854775808 := rfl
  have hmax : IntKind.i64.max = 9223372036854775807 := rfl
  simp only [Lit.wf, Bool.and_eq_true, decide_eq_true_eq] at h
  rw [inR_iff]; omega

def Two (f : Nat) (x y : Int) (r : Int) (c : Bool) : Prop := ∀ w : World, Calls Try.prog f #[.int .i64 x, .int .i64 y] w fun e w' => e = .returned (.tuple #[.int .i64 r, .bool c]) ∧ Below w.heap.size w w'
def One (x y : Int) (c : Bool) : Prop := ∀ w : World, Calls Try.prog 8 #[.int .i64 x, .int .i64 y] w fun e w' => e = .returned (.bool c) ∧ w = w'

theorem core_y_no (a b s p : Int) (w : World) (HA : Two 14 a b s true) (HA' : Two 14 b a s true) (HS : Two 15 s b a true) (HM : Two 16 a b p false) (HM' : Two 16 b a p false) :
    Calls Try.prog 5 #[.int .i64 a, .int .i64 b] w fun e w' => e = .returned (.bool true) ∧ Below w.heap.size w w' := by
  go_enter Try.func5, Try.ntmps5
  go_wp2_with fail
  refine (awake_any _).mono ?_
  rintro e w1 ⟨rfl, hb1⟩
  go_wp2_with fail
  refine (HA _).mono ?_
  rintro e w2 ⟨rfl, hb2⟩
  go_wp2_with fail
  refine (HA' _).mono ?_
  rintro e w3 ⟨rfl, hb3⟩
  go_wp2_with fail
  refine (HS _).mono ?_
  rintro e w4 ⟨rfl, hb4⟩
  go_wp2_with fail
  refine (HM _).mono ?_
  rintro e w5 ⟨rfl, hb5⟩
  go_wp2_with fail
  refine (HM' _).mono ?_
  rintro e w6 ⟨rfl, hb6⟩
  go_wp2_with fail
  go_ret
  have k1 := hb1.size; have k2 := hb2.size; have k3 := hb3.size; have k4 := hb4.size; have k5 := hb5.size
  exact ⟨rfl, (((((hb1.trans (hb2.mono (by omega))).trans (hb3.mono (by omega))).trans (hb4.mono (by omega))).trans (hb5.mono (by omega))).trans (hb6.mono (by omega)))⟩

theorem core_y_zero (a s p : Int) (w : World) (HA : Two 14 a 0 s true) (HA' : Two 14 0 a s true) (HS : Two 15 s 0 a true) (HM : Two 16 a 0 p true) (HM' : Two 16 0 a p true) :
    Calls Try.prog 5 #[.int .i64 a, .int .i64 0] w fun e w' => e = .returned (.bool true) ∧ Below w.heap.size w w' := by
  go_enter Try.func5, Try.ntmps5
  go_wp2_with fail
  refine (awake_any _).mono ?_
  rintro e w1 ⟨rfl, hb1⟩
  go_wp2_with fail
  refine (HA _).mono ?_
  rintro e w2 ⟨rfl, hb2⟩
  go_wp2_with fail
  refine (HA' _).mono ?_
  rintro e w3 ⟨rfl, hb3⟩
  go_wp2_with fail
  refine (HS _).mono ?_
  rintro e w4 ⟨rfl, hb4⟩
  go_wp2_with fail
  refine (HM _).mono ?_
  rintro e w5 ⟨rfl, hb5⟩
  go_wp2_with fail
  refine (HM' _).mono ?_
  rintro e w6 ⟨rfl, hb6⟩
  go_wp2_with fail
  go_ret
  have k1 := hb1.size; have k2 := hb2.size; have k3 := hb3.size; have k4 := hb4.size; have k5 := hb5.size
  exact ⟨rfl, (((((hb1.trans (hb2.mono (by omega))).trans (hb3.mono (by omega))).trans (hb4.mono (by omega))).trans (hb5.mono (by omega))).trans (hb6.mono (by omega)))⟩

theorem core_y_spl (a b s p : Int) (w : World) (HA : Two 14 a b s true) (HA' : Two 14 b a s true) (HS : Two 15 s b a true) (HM : Two 16 a b p true) (HM' : Two 16 b a p true) (hb : ¬ b = 0) (H8 : One p b false) :
    Calls Try.prog 5 #[.int .i64 a, .int .i64 b] w fun e w' => e = .returned (.bool true) ∧ Below w.heap.size w w' := by
  go_enter Try.func5, Try.ntmps5
  go_wp2_with fail
  refine (awake_any _).mono ?_
  rintro e w1 ⟨rfl, hb1⟩
  go_wp2_with fail
  refine (HA _).mono ?_
  rintro e w2 ⟨rfl, hb2⟩
  go_wp2_with fail
  refine (HA' _).mono ?_
  rintro e w3 ⟨rfl, hb3⟩
  go_wp2_with fail
  refine (HS _).mono ?_
  rintro e w4 ⟨rfl, hb4⟩
  go_wp2_with fail
  refine (HM _).mono ?_
  rintro e w5 ⟨rfl, hb5⟩
  go_wp2_with fail
  refine (HM' _).mono ?_
  rintro e w6 ⟨rfl, hb6⟩
  go_wp2_with fail
  refine (H8 _).mono ?_
  rintro e wq ⟨rfl, rfl⟩
  go_wp2_with fail
  go_ret
  have k1 := hb1.size; have k2 := hb2.size; have k3 := hb3.size; have k4 := hb4.size; have k5 := hb5.size
  exact ⟨rfl, (((((hb1.trans (hb2.mono (by omega))).trans (hb3.mono (by omega))).trans (hb4.mono (by omega))).trans (hb5.mono (by omega))).trans (hb6.mono (by omega)))⟩

theorem core_y_yes (a b s p : Int) (w : World) (HA : Two 14 a b s true) (HA' : Two 14 b a s true) (HS : Two 15 s b a true) (HM : Two 16 a b p true) (HM' : Two 16 b a p true) (hb : ¬ b = 0) (H8 : One p b true) (HD : Two 11 p b a true) (HR : Two 12 p b 0 true) :
    Calls Try.prog 5 #[.int .i64 a, .int .i64 b] w fun e w' => e = .returned (.bool true) ∧ Below w.heap.size w w' := by
  go_enter Try.func5, Try.ntmps5
  go_wp2_with fail
  refine (awake_any _).mono ?_
  rintro e w1 ⟨rfl, hb1⟩
  go_wp2_with fail
  refine (HA _).mono ?_
  rintro e w2 ⟨rfl, hb2⟩
  go_wp2_with fail
  refine (HA' _).mono ?_
  rintro e w3 ⟨rfl, hb3⟩
  go_wp2_with fail
  refine (HS _).mono ?_
  rintro e w4 ⟨rfl, hb4⟩
  go_wp2_with fail
  refine (HM _).mono ?_
  rintro e w5 ⟨rfl, hb5⟩
  go_wp2_with fail
  refine (HM' _).mono ?_
  rintro e w6 ⟨rfl, hb6⟩
  go_wp2_with fail
  refine (H8 _).mono ?_
  rintro e wq ⟨rfl, rfl⟩
  go_wp2_with fail
  refine (HD _).mono ?_
  rintro e w7 ⟨rfl, hb7⟩
  go_wp2_with fail
  refine (HR _).mono ?_
  rintro e w8 ⟨rfl, hb8⟩
  go_wp2_with fail
  go_ret
  have k1 := hb1.size; have k2 := hb2.size; have k3 := hb3.size; have k4 := hb4.size; have k5 := hb5.size; have k6 := hb6.size; have k7 := hb7.size
  exact ⟨rfl, (((((((hb1.trans (hb2.mono (by omega))).trans (hb3.mono (by omega))).trans (hb4.mono (by omega))).trans (hb5.mono (by omega))).trans (hb6.mono (by omega))).trans (hb7.mono (by omega))).trans (hb8.mono (by omega)))⟩

theorem core_n_no (a b s p : Int) (w : World) (HA : Two 14 a b s false) (HA' : Two 14 b a s false) (HM : Two 16 a b p false) (HM' : Two 16 b a p false) :
    Calls Try.prog 5 #[.int .i64 a, .int .i64 b] w fun e w' => e = .returned (.bool true) ∧ Below w.heap.size w w' := by
  go_enter Try.func5, Try.ntmps5
  go_wp2_with fail
  refine (awake_any _).mono ?_
  rintro e w1 ⟨rfl, hb1⟩
  go_wp2_with fail
  refine (HA _).mono ?_
  rintro e w2 ⟨rfl, hb2⟩
  go_wp2_with fail
  refine (HA' _).mono ?_
  rintro e w3 ⟨rfl, hb3⟩
  go_wp2_with fail
  refine (HM _).mono ?_
  rintro e w4 ⟨rfl, hb4⟩
  go_wp2_with fail
  refine (HM' _).mono ?_
  rintro e w5 ⟨rfl, hb5⟩
  go_wp2_with fail
  go_ret
  have k1 := hb1.size; have k2 := hb2.size; have k3 := hb3.size; have k4 := hb4.size
  exact ⟨rfl, ((((hb1.trans (hb2.mono (by omega))).trans (hb3.mono (by omega))).trans (hb4.mono (by omega))).trans (hb5.mono (by omega)))⟩

theorem core_n_zero (a s p : Int) (w : World) (HA : Two 14 a 0 s false) (HA' : Two 14 0 a s false) (HM : Two 16 a 0 p true) (HM' : Two 16 0 a p true) :
    Calls Try.prog 5 #[.int .i64 a, .int .i64 0] w fun e w' => e = .returned (.bool true) ∧ Below w.heap.size w w' := by
  go_enter Try.func5, Try.ntmps5
  go_wp2_with fail
  refine (awake_any _).mono ?_
  rintro e w1 ⟨rfl, hb1⟩
  go_wp2_with fail
  refine (HA _).mono ?_
  rintro e w2 ⟨rfl, hb2⟩
  go_wp2_with fail
  refine (HA' _).mono ?_
  rintro e w3 ⟨rfl, hb3⟩
  go_wp2_with fail
  refine (HM _).mono ?_
  rintro e w4 ⟨rfl, hb4⟩
  go_wp2_with fail
  refine (HM' _).mono ?_
  rintro e w5 ⟨rfl, hb5⟩
  go_wp2_with fail
  go_ret
  have k1 := hb1.size; have k2 := hb2.size; have k3 := hb3.size; have k4 := hb4.size
  exact ⟨rfl, ((((hb1.trans (hb2.mono (by omega))).trans (hb3.mono (by omega))).trans (hb4.mono (by omega))).trans (hb5.mono (by omega)))⟩

theorem core_n_spl (a b s p : Int) (w : World) (HA : Two 14 a b s false) (HA' : Two 14 b a s false) (HM : Two 16 a b p true) (HM' : Two 16 b a p true) (hb : ¬ b = 0) (H8 : One p b false) :
    Calls Try.prog 5 #[.int .i64 a, .int .i64 b] w fun e w' => e = .returned (.bool true) ∧ Below w.heap.size w w' := by
  go_enter Try.func5, Try.ntmps5
  go_wp2_with fail
  refine (awake_any _).mono ?_
  rintro e w1 ⟨rfl, hb1⟩
  go_wp2_with fail
  refine (HA _).mono ?_
  rintro e w2 ⟨rfl, hb2⟩
  go_wp2_with fail
  refine (HA' _).mono ?_
  rintro e w3 ⟨rfl, hb3⟩
  go_wp2_with fail
  refine (HM _).mono ?_
  rintro e w4 ⟨rfl, hb4⟩
  go_wp2_with fail
  refine (HM' _).mono ?_
  rintro e w5 ⟨rfl, hb5⟩
  go_wp2_with fail
  refine (H8 _).mono ?_
  rintro e wq ⟨rfl, rfl⟩
  go_wp2_with fail
  go_ret
  have k1 := hb1.size; have k2 := hb2.size; have k3 := hb3.size; have k4 := hb4.size
  exact ⟨rfl, ((((hb1.trans (hb2.mono (by omega))).trans (hb3.mono (by omega))).trans (hb4.mono (by omega))).trans (hb5.mono (by omega)))⟩

theorem core_n_yes (a b s p : Int) (w : World) (HA : Two 14 a b s false) (HA' : Two 14 b a s false) (HM : Two 16 a b p true) (HM' : Two 16 b a p true) (hb : ¬ b = 0) (H8 : One p b true) (HD : Two 11 p b a true) (HR : Two 12 p b 0 true) :
    Calls Try.prog 5 #[.int .i64 a, .int .i64 b] w fun e w' => e = .returned (.bool true) ∧ Below w.heap.size w w' := by
  go_enter Try.func5, Try.ntmps5
  go_wp2_with fail
  refine (awake_any _).mono ?_
  rintro e w1 ⟨rfl, hb1⟩
  go_wp2_with fail
  refine (HA _).mono ?_
  rintro e w2 ⟨rfl, hb2⟩
  go_wp2_with fail
  refine (HA' _).mono ?_
  rintro e w3 ⟨rfl, hb3⟩
  go_wp2_with fail
  refine (HM _).mono ?_
  rintro e w4 ⟨rfl, hb4⟩
  go_wp2_with fail
  refine (HM' _).mono ?_
  rintro e w5 ⟨rfl, hb5⟩
  go_wp2_with fail
  refine (H8 _).mono ?_
  rintro e wq ⟨rfl, rfl⟩
  go_wp2_with fail
  refine (HD _).mono ?_
  rintro e w6 ⟨rfl, hb6⟩
  go_wp2_with fail
  refine (HR _).mono ?_
  rintro e w7 ⟨rfl, hb7⟩
  go_wp2_with fail
  go_ret
  have k1 := hb1.size; have k2 := hb2.size; have k3 := hb3.size; have k4 := hb4.size; have k5 := hb5.size; have k6 := hb6.size
  exact ⟨rfl, ((((((hb1.trans (hb2.mono (by omega))).trans (hb3.mono (by omega))).trans (hb4.mono (by omega))).trans (hb5.mono (by omega))).trans (hb6.mono (by omega))).trans (hb7.mono (by omega)))⟩

theorem h8_of {p b : Int} {c : Bool} (g : spl p b = c) : One p b c := fun w => by
  have H := splits_any p b w
  rw [g] at H
  exact H

theorem walk (a b : Int) (w0 : (Lit.int .i64 a).wf = true) (w1 : (Lit.int .i64 b).wf = true) (w : World) :
    Calls Try.prog 5 #[.int .i64 a, .int .i64 b] w fun e w' => e = .returned (.bool true) ∧ Below w.heap.size w w' := by
  have ha := bd_of_wf w0
  have hb := bd_of_wf w1
  have HA : Two 14 a b _ _ := fun w => add_any a b w ha hb
  have HA' : Two 14 b a _ _ := fun w => add_any b a w hb ha
  have HM : Two 16 a b _ _ := fun w => mul_any a b w ha hb
  have HM' : Two 16 b a _ _ := fun w => mul_any b a w hb ha
  rw [Int.add_comm b a] at HA'
  rw [Int.mul_comm b a] at HM'
  have hyes : b ≠ 0 → (a * b).fdiv b = a ∧ (a * b).fmod b = 0 := fun h => by
    refine fdiv_unique (a * b) b a 0 (by rw [Int.mul_comm]; omega) ?_
    omega
  cases g1 : inR (a + b)
  · rw [g1] at HA HA'
    cases g : inR (a * b)
    · rw [g] at HM HM'
      exact core_n_no a b _ _ w HA HA' HM HM'
    · rw [g, ifb_true] at HM HM'
      by_cases h : b = 0
      · subst h
        exact core_n_zero a _ _ w HA HA' HM HM'
      · cases g2 : spl (a * b) b
        · exact core_n_spl a b _ _ w HA HA' HM HM' h (h8_of g2)
        · refine core_n_yes a b _ _ w HA HA' HM HM' h (h8_of g2) ?_ ?_
          · intro w
            have H := div_any (a * b) b w g
            rw [g2, ifb_true, (hyes h).1] at H
            exact H
          · intro w
            have H := mod_any (a * b) b w g hb
            rw [g2, ifb_true, (hyes h).2] at H
            exact H
  · rw [g1, ifb_true] at HA HA'
    have HS : Two 15 (a + b) b a true := fun w => by
      have H := sub_any (a + b) b w g1 hb
      have e : a + b - b = a := by omega
      rw [e, ha, ifb_true] at H
      exact H
    cases g : inR (a * b)
    · rw [g] at HM HM'
      exact core_y_no a b _ _ w HA HA' HS HM HM'
    · rw [g, ifb_true] at HM HM'
      by_cases h : b = 0
      · subst h
        exact core_y_zero a _ _ w HA HA' HS HM HM'
      · cases g2 : spl (a * b) b
        · exact core_y_spl a b _ _ w HA HA' HS HM HM' h (h8_of g2)
        · refine core_y_yes a b _ _ w HA HA' HS HM HM' h (h8_of g2) ?_ ?_
          · intro w
            have H := div_any (a * b) b w g
            rw [g2, ifb_true, (hyes h).1] at H
            exact H
          · intro w
            have H := mod_any (a * b) b w g hb
            rw [g2, ifb_true, (hyes h).2] at H
            exact H

/-! ### THE ROW's STEP -/
set_option maxRecDepth 100000 in
theorem lifted (os : Os) (started : os.Started) (H : Type) (enc : TypeId × Value → H) :
    ReturnsInHanded {} Try.checked os 5 .any (Rows.intmathInverseSpec.pre6 enc Try.prog Try.f5 Rows.intmathInverseRow.domain false) (Rows.intmathInverseSpec.post enc Try.prog Try.f5 false true false false) := by
  refine returnsInHanded_of_change (C := Try.checked) own started (by kernel_rfl) Try.func5
    (ChangeSpec.witness6 (enc := enc) (C := Try.checked) false ⟨#[], #[.int .i64 0, .int .i64 0], []⟩ 8 (by kernel_rfl) (by kernel_rfl) (by kernel_rfl) (by kernel_rfl)) ?_
  intro W base args ds gs before hval0 hW hcnd _
  have hval : ∀ (j : Nat) t v, Try.f5.params[j]? = some t → args[j]? = some v → Value.okWide Try.prog W .any base t v := hval0
  have hW' := hW
  obtain ⟨p, q, hA0, hV, rfl, hfz, hnd⟩ := hW
  have hA : DataW.TrodAll enc Try.prog W 0 (fun _ => true) true Try.f5.params.toList args.toList ds p := hA0
  rw [Try.params5] at hA hval
  obtain ⟨v0, vs0, d0, ds0, p0, q0, hargs, rfl, rfl, h0, r0⟩ := trodAll_cons hA
  obtain ⟨v1, vs1, d1, ds1, p1, q1, rfl, rfl, rfl, h1, r1⟩ := trodAll_cons r0
  obtain ⟨rfl, rfl, rfl⟩ := trodAll_nil r1
  obtain rfl : args = #[v0, v1] := by cases args; simp_all
  obtain ⟨rfl, rfl⟩ := trodVars_none hV
  obtain ⟨a0, rfl, rfl, rfl, w0⟩ := open_int Try.underlying3 (hval 0 3 v0 rfl rfl) h0
  obtain ⟨a1, rfl, rfl, rfl, w1⟩ := open_int Try.underlying3 (hval 1 3 v1 rfl rfl) h1
  clear hA0 hval0
  simp only [List.append_nil] at hW'
  refine (walk a0 a1 w0 w1 W).mono fun e W' ⟨he, bel⟩ => ?_
  subst he
  exact ⟨_, rfl, _, _, _, [], _, [], hW', trodAll_mk1 (shut_bool Try.underlying4 _), (trodAll_cons_mk (shut_int Try.underlying3 w0) (trodAll_cons_mk (shut_int Try.underlying3 w1) trodAll_mk0)), rfl, bel.frame _, fun h => by cases h⟩

theorem over : Rows.intmathInverseRow.holds Try.pinned (OpenSpec.ofChange Rows.intmathInverseSpec) :=
  OpenClaim.holds_of_wide 5 Try.f5 rfl rfl rfl rfl rfl rfl rfl ⟨rfl, rfl, rfl, rfl, rfl⟩ rfl rfl rfl rfl rfl (by kernel_rfl) Try.func5 (by kernel_rfl)
    (of_decide_eq_true (by kernel_rfl)) (by unfold Func.isWrapper; first | (rw [if_pos (by decide +kernel)]; kernel_rfl) | (rw [if_neg (by decide +kernel)]; exact ⟨rfl, rfl⟩))
    (fun os started H enc _ => lifted os started H enc)

/-- The statement. -/
theorem proved : Rows.IntmathInverseSaid :=
  over
#print axioms proved
end Go.Proofs.Ytphiidmcfagemaa.intmathInverse
