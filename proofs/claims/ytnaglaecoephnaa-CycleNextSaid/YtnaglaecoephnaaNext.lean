/- Proved: for all 64-bit integers calendar, year, month and day, the law CycleNext of package computuslaw14 (the next year with Easter on a day is that of the reference) returns true, and what was in memory is as it was. No condition. -/
import Derived.Test.YtnaglaecoephnaaKi
import Derived.Test.YtnaglaecoephnaaVy
import Derived.WalkKit
import Derived.ProofKit
import Derived.OpenShut
import Derived.ShutString
import Derived.Lib.SmallJoins
namespace Go.Proofs.Ytnaglaecoephnaa.cycleNext
open Go.ChangeShapes Go.WideShapes Go.ChangeAt Go.RowKit Go.Joins
open Go.ChangeMaps (open_string shut_string)
set_option linter.unusedVariables false      -- a walk need not use every fact

set_option maxRecDepth 100000 in
set_option maxHeartbeats 1000000 in
theorem walk_same (c y m d n k : Int)
    (H1 : ∀ w, Calls Try.prog 17 #[.int .i64 c, .int .i64 y, .int .i64 m, .int .i64 d] w fun e w' => e = .returned (numv n k) ∧ Below w.heap.size w w')
    (H2 : ∀ w, Calls Try.prog 18 #[.int .i64 c, .int .i64 y, .int .i64 m, .int .i64 d] w fun e w' => e = .returned (numv n k) ∧ Below w.heap.size w w')
    (W : World) :
    Calls Try.prog 4 #[.int .i64 c, .int .i64 y, .int .i64 m, .int .i64 d] W fun e w' => e = .returned (.bool true) ∧ Below W.heap.size W w' := by
  have S0 := Lib.hid (Below.refl W.heap.size W)
  go_enter Try.func4, Try.ntmps4
  go_wp2_with fail
  refine (c14awake_any _).mono ?_
  rintro e w1 ⟨rfl, hb1⟩
  have S1 := Lib.hid (below_on S0.out hb1)
  clear hb1
  go_wp2_with fail
  refine (H1 _).mono ?_
  rintro e w2 ⟨rfl, hb2⟩
  have S2 := Lib.hid (below_on S1.out hb2)
  clear hb2
  go_wp2_with fail
  refine (H2 _).mono ?_
  rintro e w3 ⟨rfl, hb3⟩
  have S3 := Lib.hid (below_on S2.out hb3)
  clear hb3
  go_wp2_with fail
  go_ret
  exact ⟨rfl, S3.out⟩
theorem walk (c y m d : Int) (w0 : (Lit.int .i64 c).wf = true) (w1 : (Lit.int .i64 y).wf = true) (w2 : (Lit.int .i64 m).wf = true) (w3 : (Lit.int .i64 d).wf = true) (W : World) :
    Calls Try.prog 4 #[.int .i64 c, .int .i64 y, .int .i64 m, .int .i64 d] W fun e w' => e = .returned (.bool true) ∧ Below W.heap.size W w' := by
  obtain ⟨y1, y2⟩ := bounds_i64 w1
  have HF := fun w => rfail_any c y w
  by_cases h : epE c y = 0
  · rw [h] at HF
    have hc := (epE_zero h).1
    have hg := rgE_next c y h
    obtain ⟨n, hn⟩ : ∃ n : Nat, nlast y - y + 1 = n := ⟨(nlast y - y + 1).toNat, by have := (rgE_zero hg).2.2.1; omega⟩
    rcases first_or c y m d n with ⟨k, hk, h1, h0⟩ | h0
    · have hq : ¬ (m < 3 ∨ 4 < m ∨ d < 1 ∨ 31 < d) := fun q => by rw [hO_no q hc] at h1; cases h1
      exact walk_same c y m d _ _ (fun w => knext_some c y m d w n k _ rfl hg hn hk h1 h0) (fun w => r14nx_some c y m d w n k h hn (by omega) (by omega) (by omega) (by omega) hk h1 h0) W
    · have H1 := fun w => knext_none c y m d w n _ rfl hg hn h0
      by_cases hq : m < 3 ∨ 4 < m ∨ d < 1 ∨ 31 < d
      · exact walk_same c y m d _ _ H1 (fun w => r14nx_day c y m d w (by omega) HF) W
      · exact walk_same c y m d _ _ H1 (fun w => r14nx_none c y m d w n h hn (by omega) (by omega) (by omega) (by omega) h0) W
  · exact walk_same c y m d _ _ (fun w => knext_bad c y m d w _ rfl (bne_iff_ne.2 h) y1 y2) (fun w => r14nx_bad c y m d w _ (bne_iff_ne.2 h) HF) W

/-! ### the row's step -/
set_option maxRecDepth 100000 in
theorem lifted (os : Os) (started : os.Started) (H : Type) (enc : TypeId × Value → H) :
    ReturnsInHanded {} Try.checked os 4 .any (Rows.cycleNextSpec.pre6 enc Try.prog Try.f4 Rows.cycleNextRow.domain false) (Rows.cycleNextSpec.post enc Try.prog Try.f4 false true false false) := by
  refine returnsInHanded_of_change (C := Try.checked) own started (by kernel_rfl) Try.func4
    (ChangeSpec.witness6 (enc := enc) (C := Try.checked) false ⟨#[], #[.int .i64 0, .int .i64 0, .int .i64 0, .int .i64 0], []⟩ 8 (by kernel_rfl) (by kernel_rfl) (by kernel_rfl) (by kernel_rfl)) ?_
  intro W base args ds gs before hval0 hW hcnd _
  have hval : ∀ (j : Nat) t v, Try.f4.params[j]? = some t → args[j]? = some v → Value.okWide Try.prog W .any base t v := hval0
  have hW' := hW
  obtain ⟨p, q, hA0, hV, rfl, hfz, hnd⟩ := hW
  have hA : DataW.TrodAll enc Try.prog W 0 (fun _ => true) true Try.f4.params.toList args.toList ds p := hA0
  rw [Try.params4] at hA hval
  obtain ⟨v0, vs0, d0, ds0, p0, q0, hargs, rfl, rfl, h0, r0⟩ := trodAll_cons hA
  obtain ⟨v1, vs1, d1, ds1, p1, q1, rfl, rfl, rfl, h1, r1⟩ := trodAll_cons r0
  obtain ⟨v2, vs2, d2, ds2, p2, q2, rfl, rfl, rfl, h2, r2⟩ := trodAll_cons r1
  obtain ⟨v3, vs3, d3, ds3, p3, q3, rfl, rfl, rfl, h3, r3⟩ := trodAll_cons r2
  obtain ⟨rfl, rfl, rfl⟩ := trodAll_nil r3
  obtain rfl : args = #[v0, v1, v2, v3] := by cases args; simp_all
  obtain ⟨rfl, rfl⟩ := trodVars_none hV
  obtain ⟨a0, rfl, rfl, rfl, w0⟩ := open_int Try.underlying3 (hval 0 3 v0 rfl rfl) h0
  obtain ⟨a1, rfl, rfl, rfl, w1⟩ := open_int Try.underlying3 (hval 1 3 v1 rfl rfl) h1
  obtain ⟨a2, rfl, rfl, rfl, w2⟩ := open_int Try.underlying3 (hval 2 3 v2 rfl rfl) h2
  obtain ⟨a3, rfl, rfl, rfl, w3⟩ := open_int Try.underlying3 (hval 3 3 v3 rfl rfl) h3
  clear hA0 hval0
  simp only [List.append_nil] at hW'
  refine (walk a0 a1 a2 a3 w0 w1 w2 w3 W).mono fun e W' ⟨he, bel⟩ => ?_
  subst he
  exact ⟨_, rfl, _, _, _, [], _, [], hW', trodAll_mk1 (shut_bool Try.underlying4 _), (trodAll_cons_mk (shut_int Try.underlying3 w0) (trodAll_cons_mk (shut_int Try.underlying3 w1) (trodAll_cons_mk (shut_int Try.underlying3 w2) (trodAll_cons_mk (shut_int Try.underlying3 w3) trodAll_mk0)))), rfl, bel.frame _, fun h => by cases h⟩

theorem over : Rows.cycleNextRow.holds Try.pinned (OpenSpec.ofChange Rows.cycleNextSpec) :=
  OpenClaim.holds_of_wide 4 Try.f4 rfl rfl rfl rfl rfl rfl rfl ⟨rfl, rfl, rfl, rfl, rfl⟩ rfl rfl rfl rfl rfl (by kernel_rfl) Try.func4 (by kernel_rfl)
    (of_decide_eq_true (by kernel_rfl)) (by unfold Func.isWrapper; first | (rw [if_pos (by decide +kernel)]; kernel_rfl) | (rw [if_neg (by decide +kernel)]; exact ⟨rfl, rfl⟩))
    (fun os started H enc _ => lifted os started H enc)

/-- The statement. -/
theorem proved : Rows.CycleNextSaid :=
  over
#print axioms proved
end Go.Proofs.Ytnaglaecoephnaa.cycleNext
