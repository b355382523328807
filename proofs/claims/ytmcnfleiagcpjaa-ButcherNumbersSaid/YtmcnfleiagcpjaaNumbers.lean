/- Proved: for every byte calendar and every 64-bit integer year, the law ButcherNumbers of package computuslaw12 (the number of a year is from 114, which is 22 March, to 148, which is 25 April) returns true, and what was in memory is as it was. No condition. -/
import Derived.Test.YtmcnfleiagcpjaaKt
import Derived.Test.YtmcnfleiagcpjaaVy
import Derived.WalkKit
import Derived.ProofKit
import Derived.OpenShut
import Derived.ShutString
import Derived.Lib.SmallJoins
namespace Go.Proofs.Ytmcnfleiagcpjaa.butcherNumbers
open Go.ChangeShapes Go.WideShapes Go.ChangeAt Go.RowKit Go.Joins
open Go.ChangeMaps (open_string shut_string)
set_option linter.unusedVariables false      -- a walk need not use every fact

theorem walk_a (u y k : Int)
    (hu : 0 ≤ u) (hu2 : u ≤ 255)
    (HA : ∀ w, Calls Try.prog 8 #[.int .i64 (1 + u % 2), .int .i64 y] w fun e w' => e = .returned (.int .i64 k) ∧ w = w')
    (hk : (k != 0) = true)
    (W : World) :
    Calls Try.prog 4 #[.int .u8 u, .int .i64 y] W fun e w' => e = .returned (.bool true) ∧ Below W.heap.size W w' := by
  have S0 := Lib.hid (Bst.start W)
  go_enter Try.func4, Try.ntmps4
  go_wp2_with fail
  refine (c12awake_any _).mono ?_
  rintro e w1 ⟨rfl, hb1⟩
  have S1 := Lib.hid (S0.out.on hb1)
  clear hb1
  go_wp2_with fail
  refine (HA _).mono ?_
  rintro e wq ⟨rfl, rfl⟩
  go_wp2_with fail
  refine (c12awake_any _).mono ?_
  rintro e w2 ⟨rfl, hb2⟩
  have S2 := Lib.hid (S1.out.on hb2)
  clear hb2
  go_wp2_with fail
  go_ret
  exact ⟨rfl, S2.out.b⟩
set_option maxRecDepth 100000 in
set_option maxHeartbeats 1000000 in
theorem walk_3 (u y n : Int)
    (hu : 0 ≤ u) (hu2 : u ≤ 255)
    (n1 : 114 ≤ n) (n2 : n ≤ 123)
    (HA : ∀ w, Calls Try.prog 8 #[.int .i64 (1 + u % 2), .int .i64 y] w fun e w' => e = .returned (.int .i64 0) ∧ w = w')
    (H1 : ∀ w, Calls Try.prog 6 #[.int .i64 (1 + u % 2), .int .i64 y] w fun e w' => e = .returned (numv n 0) ∧ Below w.heap.size w w')
    (H2 : ∀ w, Calls Try.prog 7 #[.int .i64 (1 + u % 2), .int .i64 y] w fun e w' => e = .returned (datv y 3 (n - 92) 0) ∧ Below w.heap.size w w')
    (W : World) :
    Calls Try.prog 4 #[.int .u8 u, .int .i64 y] W fun e w' => e = .returned (.bool true) ∧ Below W.heap.size W w' := by
  have S0 := Lib.hid (Bst.start W)
  go_enter Try.func4, Try.ntmps4
  go_wp2_with fail
  refine (c12awake_any _).mono ?_
  rintro e w1 ⟨rfl, hb1⟩
  have S1 := Lib.hid (S0.out.on hb1)
  clear hb1
  go_wp2_with fail
  refine (HA _).mono ?_
  rintro e wq ⟨rfl, rfl⟩
  go_wp2_with fail
  refine (H1 _).mono ?_
  rintro e w2 ⟨rfl, hb2⟩
  have S2 := Lib.hid (S1.out.on hb2)
  clear hb2
  go_wp2_with fail
  refine (H2 _).mono ?_
  rintro e w3 ⟨rfl, hb3⟩
  have S3 := Lib.hid (S2.out.on hb3)
  clear hb3
  go_wp2_with fail
  go_ret
  exact ⟨rfl, (S3.out.al _).b⟩
set_option maxRecDepth 100000 in
set_option maxHeartbeats 1000000 in
theorem walk_4 (u y n : Int)
    (hu : 0 ≤ u) (hu2 : u ≤ 255)
    (n1 : 124 ≤ n) (n2 : n ≤ 148)
    (HA : ∀ w, Calls Try.prog 8 #[.int .i64 (1 + u % 2), .int .i64 y] w fun e w' => e = .returned (.int .i64 0) ∧ w = w')
    (H1 : ∀ w, Calls Try.prog 6 #[.int .i64 (1 + u % 2), .int .i64 y] w fun e w' => e = .returned (numv n 0) ∧ Below w.heap.size w w')
    (H2 : ∀ w, Calls Try.prog 7 #[.int .i64 (1 + u % 2), .int .i64 y] w fun e w' => e = .returned (datv y 4 (n - 123) 0) ∧ Below w.heap.size w w')
    (W : World) :
    Calls Try.prog 4 #[.int .u8 u, .int .i64 y] W fun e w' => e = .returned (.bool true) ∧ Below W.heap.size W w' := by
  have S0 := Lib.hid (Bst.start W)
  go_enter Try.func4, Try.ntmps4
  go_wp2_with fail
  refine (c12awake_any _).mono ?_
  rintro e w1 ⟨rfl, hb1⟩
  have S1 := Lib.hid (S0.out.on hb1)
  clear hb1
  go_wp2_with fail
  refine (HA _).mono ?_
  rintro e wq ⟨rfl, rfl⟩
  go_wp2_with fail
  refine (H1 _).mono ?_
  rintro e w2 ⟨rfl, hb2⟩
  have S2 := Lib.hid (S1.out.on hb2)
  clear hb2
  go_wp2_with fail
  refine (H2 _).mono ?_
  rintro e w3 ⟨rfl, hb3⟩
  have S3 := Lib.hid (S2.out.on hb3)
  clear hb3
  go_wp2_with fail
  go_ret
  exact ⟨rfl, (S3.out.al _).b⟩
theorem walk (u y : Int) (w0 : (Lit.int .u8 u).wf = true) (w1 : (Lit.int .i64 y).wf = true) (W : World) :
    Calls Try.prog 4 #[.int .u8 u, .int .i64 y] W fun e w' => e = .returned (.bool true) ∧ Below W.heap.size W w' := by
  obtain ⟨hu, hu2⟩ := bounds_u8 w0
  have HA := fun w => rfail_any (1 + u % 2) y w
  by_cases h : epE (1 + u % 2) y = 0
  · rw [h] at HA
    have hc := (epE_zero h).1
    obtain ⟨n1, n2⟩ := bN_bd (1 + u % 2) y hc
    have H1 := fun w => bnum_any (1 + u % 2) y w h
    have H2 := fun w => bdate_any (1 + u % 2) y w h
    have hn : bN (1 + u % 2) y = eaO (1 + u % 2) y + 113 := by unfold bN; rw [u_easter hc]
    by_cases hq : eaO (1 + u % 2) y ≤ 10
    · have hm : marM (eaO (1 + u % 2) y) = 3 := by unfold marM; rw [if_pos hq]
      have hd : marD (eaO (1 + u % 2) y) = bN (1 + u % 2) y - 92 := by unfold marD; rw [if_pos hq]; omega
      rw [hm, hd] at H2
      exact walk_3 u y _ hu hu2 n1 (by omega) HA H1 H2 W
    · have hm : marM (eaO (1 + u % 2) y) = 4 := by unfold marM; rw [if_neg hq]
      have hd : marD (eaO (1 + u % 2) y) = bN (1 + u % 2) y - 123 := by unfold marD; rw [if_neg hq]; omega
      rw [hm, hd] at H2
      exact walk_4 u y _ hu hu2 (by omega) n2 HA H1 H2 W
  · exact walk_a u y _ hu hu2 HA (bne_iff_ne.2 h) W

/-! ### the row's step -/
set_option maxRecDepth 100000 in
theorem lifted (os : Os) (started : os.Started) (H : Type) (enc : TypeId × Value → H) :
    ReturnsInHanded {} Try.checked os 4 .any (Rows.butcherNumbersSpec.pre6 enc Try.prog Try.f4 Rows.butcherNumbersRow.domain false) (Rows.butcherNumbersSpec.post enc Try.prog Try.f4 false true false false) := by
  refine returnsInHanded_of_change (C := Try.checked) own started (by kernel_rfl) Try.func4
    (ChangeSpec.witness6 (enc := enc) (C := Try.checked) false ⟨#[], #[.int .u8 0, .int .i64 0], []⟩ 8 (by kernel_rfl) (by kernel_rfl) (by kernel_rfl) (by kernel_rfl)) ?_
  intro W base args ds gs before hval0 hW hcnd _
  have hval : ∀ (j : Nat) t v, Try.f4.params[j]? = some t → args[j]? = some v → Value.okWide Try.prog W .any base t v := hval0
  have hW' := hW
  obtain ⟨p, q, hA0, hV, rfl, hfz, hnd⟩ := hW
  have hA : DataW.TrodAll enc Try.prog W 0 (fun _ => true) true Try.f4.params.toList args.toList ds p := hA0
  rw [Try.params4] at hA hval
  obtain ⟨v0, vs0, d0, ds0, p0, q0, hargs, rfl, rfl, h0, r0⟩ := trodAll_cons hA
  obtain ⟨v1, vs1, d1, ds1, p1, q1, rfl, rfl, rfl, h1, r1⟩ := trodAll_cons r0
  obtain ⟨rfl, rfl, rfl⟩ := trodAll_nil r1
  obtain rfl : args = #[v0, v1] := by cases args; simp_all
  obtain ⟨rfl, rfl⟩ := trodVars_none hV
  obtain ⟨a0, rfl, rfl, rfl, w0⟩ := open_int Try.underlying5 (hval 0 5 v0 rfl rfl) h0
  obtain ⟨a1, rfl, rfl, rfl, w1⟩ := open_int Try.underlying3 (hval 1 3 v1 rfl rfl) h1
  clear hA0 hval0
  simp only [List.append_nil] at hW'
  refine (walk a0 a1 w0 w1 W).mono fun e W' ⟨he, bel⟩ => ?_
  subst he
  exact ⟨_, rfl, _, _, _, [], _, [], hW', trodAll_mk1 (shut_bool Try.underlying4 _), (trodAll_cons_mk (shut_int Try.underlying5 w0) (trodAll_cons_mk (shut_int Try.underlying3 w1) trodAll_mk0)), rfl, bel.frame _, fun h => by cases h⟩

theorem over : Rows.butcherNumbersRow.holds Try.pinned (OpenSpec.ofChange Rows.butcherNumbersSpec) :=
  OpenClaim.holds_of_wide 4 Try.f4 rfl rfl rfl rfl rfl rfl rfl ⟨rfl, rfl, rfl, rfl, rfl⟩ rfl rfl rfl rfl rfl (by kernel_rfl) Try.func4 (by kernel_rfl)
    (of_decide_eq_true (by kernel_rfl)) (by unfold Func.isWrapper; first | (rw [if_pos (by decide +kernel)]; kernel_rfl) | (rw [if_neg (by decide +kernel)]; exact ⟨rfl, rfl⟩))
    (fun os started H enc _ => lifted os started H enc)

/-- The statement. -/
theorem proved : Rows.ButcherNumbersSaid :=
  over
#print axioms proved
end Go.Proofs.Ytmcnfleiagcpjaa.butcherNumbers
