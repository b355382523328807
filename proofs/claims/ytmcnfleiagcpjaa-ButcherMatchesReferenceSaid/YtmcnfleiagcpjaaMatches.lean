/- Proved: for all 64-bit integers calendar and year, the law ButcherMatchesReference of package computuslaw12 (Number and Date of package butcher answer as their references do) returns true, and what was in memory is as it was. No condition. -/
import Derived.Test.YtmcnfleiagcpjaaKt
import Derived.Test.YtmcnfleiagcpjaaVy
import Derived.WalkKit
import Derived.ProofKit
import Derived.OpenShut
import Derived.ShutString
import Derived.Lib.SmallJoins
namespace Go.Proofs.Ytmcnfleiagcpjaa.butcherMatchesReference
open Go.ChangeShapes Go.WideShapes Go.ChangeAt Go.RowKit Go.Joins
open Go.ChangeMaps (open_string shut_string)
set_option linter.unusedVariables false      -- a walk need not use every fact

set_option maxRecDepth 100000 in
set_option maxHeartbeats 1000000 in
theorem walk_no (c y k : Int)
    (H1 : ∀ w, Calls Try.prog 6 #[.int .i64 c, .int .i64 y] w fun e w' => e = .returned (numv 0 k) ∧ Below w.heap.size w w')
    (H2 : ∀ w, Calls Try.prog 7 #[.int .i64 c, .int .i64 y] w fun e w' => e = .returned (datv 0 0 0 k) ∧ Below w.heap.size w w')
    (HA : ∀ w, Calls Try.prog 8 #[.int .i64 c, .int .i64 y] w fun e w' => e = .returned (.int .i64 k) ∧ w = w')
    (hk : (k != 0) = true)
    (W : World) :
    Calls Try.prog 3 #[.int .i64 c, .int .i64 y] W fun e w' => e = .returned (.bool true) ∧ Below W.heap.size W w' := by
  have S0 := Lib.hid (Bst.start W)
  go_enter Try.func3, Try.ntmps3
  go_wp2_with fail
  refine (c12awake_any _).mono ?_
  rintro e w1 ⟨rfl, hb1⟩
  have S1 := Lib.hid (S0.out.on hb1)
  clear hb1
  go_wp2_with fail
  refine (H1 _).mono ?_
  rintro e w2 ⟨rfl, hb2⟩
  have S2 := Lib.hid (S1.out.on hb2)
  clear hb2
  go_wp2_with fail
  refine (H2 _).mono ?_
  rintro e w3 ⟨rfl, hb3⟩
  have S3 := Lib.hid (S2.out.on hb3)
  clear hb3
  go_wp2_with fail
  refine (HA _).mono ?_
  rintro e wq ⟨rfl, rfl⟩
  go_wp2_with fail
  go_ret
  exact ⟨rfl, (S3.out.al _).b⟩
set_option maxRecDepth 100000 in
set_option maxHeartbeats 1000000 in
theorem walk_ok (c y n : Int)
    (n1 : 114 ≤ n) (n2 : n ≤ 148)
    (H1 : ∀ w, Calls Try.prog 6 #[.int .i64 c, .int .i64 y] w fun e w' => e = .returned (numv n 0) ∧ Below w.heap.size w w')
    (H2 : ∀ w, Calls Try.prog 7 #[.int .i64 c, .int .i64 y] w fun e w' => e = .returned (datv y (n / 31) (n % 31 + 1) 0) ∧ Below w.heap.size w w')
    (HA : ∀ w, Calls Try.prog 8 #[.int .i64 c, .int .i64 y] w fun e w' => e = .returned (.int .i64 0) ∧ w = w')
    (HR : ∀ w, Calls Try.prog 9 #[.int .i64 c, .int .i64 y] w fun e w' => e = .returned (.int .i64 n) ∧ Below w.heap.size w w')
    (W : World) :
    Calls Try.prog 3 #[.int .i64 c, .int .i64 y] W fun e w' => e = .returned (.bool true) ∧ Below W.heap.size W w' := by
  have S0 := Lib.hid (Bst.start W)
  go_enter Try.func3, Try.ntmps3
  go_wp2_with fail
  refine (c12awake_any _).mono ?_
  rintro e w1 ⟨rfl, hb1⟩
  have S1 := Lib.hid (S0.out.on hb1)
  clear hb1
  go_wp2_with fail
  refine (H1 _).mono ?_
  rintro e w2 ⟨rfl, hb2⟩
  have S2 := Lib.hid (S1.out.on hb2)
  clear hb2
  go_wp2_with fail
  refine (H2 _).mono ?_
  rintro e w3 ⟨rfl, hb3⟩
  have S3 := Lib.hid (S2.out.on hb3)
  clear hb3
  go_wp2_with fail
  refine (HA _).mono ?_
  rintro e wq ⟨rfl, rfl⟩
  go_wp2_with fail
  refine (HR _).mono ?_
  rintro e w4 ⟨rfl, hb4⟩
  have S4 := Lib.hid ((S3.out.al _).on hb4)
  have RD4 := Lib.hid (row_on (heap_alloc_new _ _) hb4)
  obtain ⟨cD0, cD1, cD2, gD0, gD1, gD2, zD⟩ := row3 RD4.out
  clear hb4
  go_wp2_with fail
  go_ret
  exact ⟨rfl, S4.out.b⟩
theorem walk (c y : Int) (w0 : (Lit.int .i64 c).wf = true) (w1 : (Lit.int .i64 y).wf = true) (W : World) :
    Calls Try.prog 3 #[.int .i64 c, .int .i64 y] W fun e w' => e = .returned (.bool true) ∧ Below W.heap.size W w' := by
  have HA := fun w => rfail_any c y w
  by_cases h : epE c y = 0
  · rw [h] at HA
    obtain ⟨n1, n2⟩ := bN_bd c y (epE_zero h).1
    have H2 := fun w => bdate_any c y w h
    rw [← (bN_mon (y := y) (epE_zero h).1).1, ← (bN_mon (y := y) (epE_zero h).1).2] at H2
    exact walk_ok c y _ n1 n2 (fun w => bnum_any c y w h) H2 HA (fun w => r12num_any c y w h) W
  · exact walk_no c y _ (fun w => bnum_bad c y w h) (fun w => bdate_bad c y w h) HA (bne_iff_ne.2 h) W

/-! ### the row's step -/
set_option maxRecDepth 100000 in
theorem lifted (os : Os) (started : os.Started) (H : Type) (enc : TypeId × Value → H) :
    ReturnsInHanded {} Try.checked os 3 .any (Rows.butcherMatchesReferenceSpec.pre6 enc Try.prog Try.f3 Rows.butcherMatchesReferenceRow.domain false) (Rows.butcherMatchesReferenceSpec.post enc Try.prog Try.f3 false true false false) := by
  refine returnsInHanded_of_change (C := Try.checked) own started (by kernel_rfl) Try.func3
    (ChangeSpec.witness6 (enc := enc) (C := Try.checked) false ⟨#[], #[.int .i64 0, .int .i64 0], []⟩ 8 (by kernel_rfl) (by kernel_rfl) (by kernel_rfl) (by kernel_rfl)) ?_
  intro W base args ds gs before hval0 hW hcnd _
  have hval : ∀ (j : Nat) t v, Try.f3.params[j]? = some t → args[j]? = some v → Value.okWide Try.prog W .any base t v := hval0
  have hW' := hW
  obtain ⟨p, q, hA0, hV, rfl, hfz, hnd⟩ := hW
  have hA : DataW.TrodAll enc Try.prog W 0 (fun _ => true) true Try.f3.params.toList args.toList ds p := hA0
  rw [Try.params3] at hA hval
  obtain ⟨v0, vs0, d0, ds0, p0, q0, hargs, rfl, rfl, h0, r0⟩ := trodAll_cons hA
  obtain ⟨v1, vs1, d1, ds1, p1, q1, rfl, rfl, rfl, h1, r1⟩ := trodAll_cons r0
  obtain ⟨rfl, rfl, rfl⟩ := trodAll_nil r1
  obtain rfl : args = #[v0, v1] := by cases args; simp_all
  obtain ⟨rfl, rfl⟩ := trodVars_none hV
  obtain ⟨a0, rfl, rfl, rfl, w0⟩ := open_int Try.underlying3 (hval 0 3 v0 rfl rfl) h0
  obtain ⟨a1, rfl, rfl, rfl, w1⟩ := open_int Try.underlying3 (hval 1 3 v1 rfl rfl) h1
  clear hA0 hval0
  simp only [List.append_nil] at hW'
  refine (walk a0 a1 w0 w1 W).mono fun e W' ⟨he, bel⟩ => ?_
  subst he
  exact ⟨_, rfl, _, _, _, [], _, [], hW', trodAll_mk1 (shut_bool Try.underlying4 _), (trodAll_cons_mk (shut_int Try.underlying3 w0) (trodAll_cons_mk (shut_int Try.underlying3 w1) trodAll_mk0)), rfl, bel.frame _, fun h => by cases h⟩

theorem over : Rows.butcherMatchesReferenceRow.holds Try.pinned (OpenSpec.ofChange Rows.butcherMatchesReferenceSpec) :=
  OpenClaim.holds_of_wide 3 Try.f3 rfl rfl rfl rfl rfl rfl rfl ⟨rfl, rfl, rfl, rfl, rfl⟩ rfl rfl rfl rfl rfl (by kernel_rfl) Try.func3 (by kernel_rfl)
    (of_decide_eq_true (by kernel_rfl)) (by unfold Func.isWrapper; first | (rw [if_pos (by decide +kernel)]; kernel_rfl) | (rw [if_neg (by decide +kernel)]; exact ⟨rfl, rfl⟩))
    (fun os started H enc _ => lifted os started H enc)

/-- The statement. -/
theorem proved : Rows.ButcherMatchesReferenceSaid :=
  over
#print axioms proved
end Go.Proofs.Ytmcnfleiagcpjaa.butcherMatchesReference
