/- Proved: for all bytes calendar, n and at and every 64-bit integer first, the law CycleEarliest of package computuslaw14 (no year of a range has an earlier Easter than the result, and no year before it has one as early) returns true, and what was in memory is as it was. No condition. -/
import Derived.Test.YtnaglaecoephnaaKi
import Derived.Test.YtnaglaecoephnaaVy
import Derived.WalkKit
import Derived.ProofKit
import Derived.OpenShut
import Derived.ShutString
import Derived.Lib.SmallJoins
namespace Go.Proofs.Ytnaglaecoephnaa.cycleEarliest
open Go.ChangeShapes Go.WideShapes Go.ChangeAt Go.RowKit Go.Joins
open Go.ChangeMaps (open_string shut_string)
set_option linter.unusedVariables false      -- a walk need not use every fact

set_option maxRecDepth 100000 in
set_option maxHeartbeats 1000000 in
theorem walk_a (u f n p k : Int)
    (hu : 0 ≤ u) (hu2 : u ≤ 255) (hn : 0 ≤ n) (hn2 : n ≤ 255) (hp : 0 ≤ p) (hp2 : p ≤ 255)
    (HF : ∀ w, Calls Try.prog 13 #[.int .i64 (1 + u % 2), .int .i64 f, .int .i64 f] w fun e w' => e = .returned (.int .i64 k) ∧ w = w')
    (hk : (k != 0) = true)
    (W : World) :
    Calls Try.prog 7 #[.int .u8 u, .int .i64 f, .int .u8 n, .int .u8 p] W fun e w' => e = .returned (.bool true) ∧ Below W.heap.size W w' := by
  have S0 := Lib.hid (Below.refl W.heap.size W)
  go_enter Try.func7, Try.ntmps7
  go_wp2_with fail
  refine (c14awake_any _).mono ?_
  rintro e w1 ⟨rfl, hb1⟩
  have S1 := Lib.hid (below_on S0.out hb1)
  clear hb1
  go_wp2_with fail
  refine (HF _).mono ?_
  rintro e wq ⟨rfl, rfl⟩
  go_wp2_with fail
  refine (c14awake_any _).mono ?_
  rintro e w2 ⟨rfl, hb2⟩
  have S2 := Lib.hid (below_on S1.out hb2)
  clear hb2
  go_wp2_with fail
  go_ret
  exact ⟨rfl, S2.out⟩
set_option maxRecDepth 100000 in
set_option maxHeartbeats 1000000 in
theorem walk_b (u f n p : Int)
    (hu : 0 ≤ u) (hu2 : u ≤ 255) (hn : 0 ≤ n) (hn2 : n ≤ 255) (hp : 0 ≤ p) (hp2 : p ≤ 255)
    (HF : ∀ w, Calls Try.prog 13 #[.int .i64 (1 + u % 2), .int .i64 f, .int .i64 f] w fun e w' => e = .returned (.int .i64 0) ∧ w = w')
    (hf : 999999000 < f)
    (W : World) :
    Calls Try.prog 7 #[.int .u8 u, .int .i64 f, .int .u8 n, .int .u8 p] W fun e w' => e = .returned (.bool true) ∧ Below W.heap.size W w' := by
  have S0 := Lib.hid (Below.refl W.heap.size W)
  go_enter Try.func7, Try.ntmps7
  go_wp2_with fail
  refine (c14awake_any _).mono ?_
  rintro e w1 ⟨rfl, hb1⟩
  have S1 := Lib.hid (below_on S0.out hb1)
  clear hb1
  go_wp2_with fail
  refine (HF _).mono ?_
  rintro e wq ⟨rfl, rfl⟩
  go_wp2_with fail
  refine (c14awake_any _).mono ?_
  rintro e w2 ⟨rfl, hb2⟩
  have S2 := Lib.hid (below_on S1.out hb2)
  clear hb2
  go_wp2_with fail
  go_ret
  exact ⟨rfl, S2.out⟩
set_option maxRecDepth 100000 in
set_option maxHeartbeats 1000000 in
theorem walk_lt (u f n p s a b : Int)
    (hu : 0 ≤ u) (hu2 : u ≤ 255) (hn : 0 ≤ n) (hn2 : n ≤ 255) (hp : 0 ≤ p) (hp2 : p ≤ 255)
    (HF : ∀ w, Calls Try.prog 13 #[.int .i64 (1 + u % 2), .int .i64 f, .int .i64 f] w fun e w' => e = .returned (.int .i64 0) ∧ w = w')
    (f1 : 1 ≤ f) (hf : f ≤ 999999000) (s1 : f ≤ s) (s2 : s ≤ f + n)
    (H1 : ∀ w, Calls Try.prog 12 #[.int .i64 (1 + u % 2), .int .i64 f, .int .i64 (f + n)] w fun e w' => e = .returned (numv s 0) ∧ Below w.heap.size w w')
    (H2 : ∀ w, Calls Try.prog 14 #[.int .i64 (1 + u % 2), .int .i64 s] w fun e w' => e = .returned (.int .i64 a) ∧ Below w.heap.size w w')
    (H3 : ∀ w, Calls Try.prog 14 #[.int .i64 (1 + u % 2), .int .i64 (f + p % (n + 1))] w fun e w' => e = .returned (.int .i64 b) ∧ Below w.heap.size w w')
    (e1 : decide (a < b) = true)
    (W : World) :
    Calls Try.prog 7 #[.int .u8 u, .int .i64 f, .int .u8 n, .int .u8 p] W fun e w' => e = .returned (.bool true) ∧ Below W.heap.size W w' := by
  have hz : ¬ n + 1 = 0 := by omega
  have hm1 : 0 ≤ p % (n + 1) := Int.emod_nonneg _ hz
  have hm2 : p % (n + 1) < n + 1 := Int.emod_lt_of_pos _ (by omega)
  have hm3 : p.tmod (n + 1) = p % (n + 1) := Int.tmod_eq_emod_of_nonneg hp
  have S0 := Lib.hid (Below.refl W.heap.size W)
  go_enter Try.func7, Try.ntmps7
  go_wp2_with fail
  refine (c14awake_any _).mono ?_
  rintro e w1 ⟨rfl, hb1⟩
  have S1 := Lib.hid (below_on S0.out hb1)
  clear hb1
  go_wp2_with fail
  refine (HF _).mono ?_
  rintro e wq ⟨rfl, rfl⟩
  go_wp2_with fail
  refine (H1 _).mono ?_
  rintro e w2 ⟨rfl, hb2⟩
  have S2 := Lib.hid (below_on S1.out hb2)
  clear hb2
  go_wp2_with fail
  refine (H2 _).mono ?_
  rintro e w3 ⟨rfl, hb3⟩
  have S3 := Lib.hid (below_on S2.out hb3)
  clear hb3
  go_wp2_with fail
  refine (H3 _).mono ?_
  rintro e w4 ⟨rfl, hb4⟩
  have S4 := Lib.hid (below_on S3.out hb4)
  clear hb4
  go_wp2_with fail
  go_ret
  exact ⟨rfl, S4.out⟩
set_option maxRecDepth 100000 in
set_option maxHeartbeats 1000000 in
theorem walk_eq (u f n p s a b : Int)
    (hu : 0 ≤ u) (hu2 : u ≤ 255) (hn : 0 ≤ n) (hn2 : n ≤ 255) (hp : 0 ≤ p) (hp2 : p ≤ 255)
    (HF : ∀ w, Calls Try.prog 13 #[.int .i64 (1 + u % 2), .int .i64 f, .int .i64 f] w fun e w' => e = .returned (.int .i64 0) ∧ w = w')
    (f1 : 1 ≤ f) (hf : f ≤ 999999000) (s1 : f ≤ s) (s2 : s ≤ f + n)
    (H1 : ∀ w, Calls Try.prog 12 #[.int .i64 (1 + u % 2), .int .i64 f, .int .i64 (f + n)] w fun e w' => e = .returned (numv s 0) ∧ Below w.heap.size w w')
    (H2 : ∀ w, Calls Try.prog 14 #[.int .i64 (1 + u % 2), .int .i64 s] w fun e w' => e = .returned (.int .i64 a) ∧ Below w.heap.size w w')
    (H3 : ∀ w, Calls Try.prog 14 #[.int .i64 (1 + u % 2), .int .i64 (f + p % (n + 1))] w fun e w' => e = .returned (.int .i64 b) ∧ Below w.heap.size w w')
    (e1 : decide (a < b) = false) (e2 : (a == b) = true) (e3 : decide (s ≤ f + p % (n + 1)) = true)
    (W : World) :
    Calls Try.prog 7 #[.int .u8 u, .int .i64 f, .int .u8 n, .int .u8 p] W fun e w' => e = .returned (.bool true) ∧ Below W.heap.size W w' := by
  have hz : ¬ n + 1 = 0 := by omega
  have hm1 : 0 ≤ p % (n + 1) := Int.emod_nonneg _ hz
  have hm2 : p % (n + 1) < n + 1 := Int.emod_lt_of_pos _ (by omega)
  have hm3 : p.tmod (n + 1) = p % (n + 1) := Int.tmod_eq_emod_of_nonneg hp
  have S0 := Lib.hid (Below.refl W.heap.size W)
  go_enter Try.func7, Try.ntmps7
  go_wp2_with fail
  refine (c14awake_any _).mono ?_
  rintro e w1 ⟨rfl, hb1⟩
  have S1 := Lib.hid (below_on S0.out hb1)
  clear hb1
  go_wp2_with fail
  refine (HF _).mono ?_
  rintro e wq ⟨rfl, rfl⟩
  go_wp2_with fail
  refine (H1 _).mono ?_
  rintro e w2 ⟨rfl, hb2⟩
  have S2 := Lib.hid (below_on S1.out hb2)
  clear hb2
  go_wp2_with fail
  refine (H2 _).mono ?_
  rintro e w3 ⟨rfl, hb3⟩
  have S3 := Lib.hid (below_on S2.out hb3)
  clear hb3
  go_wp2_with fail
  refine (H3 _).mono ?_
  rintro e w4 ⟨rfl, hb4⟩
  have S4 := Lib.hid (below_on S3.out hb4)
  clear hb4
  go_wp2_with fail
  go_ret
  exact ⟨rfl, S4.out⟩
theorem walk (u f n p : Int) (w0 : (Lit.int .u8 u).wf = true) (w1 : (Lit.int .i64 f).wf = true) (w2 : (Lit.int .u8 n).wf = true) (w3 : (Lit.int .u8 p).wf = true) (W : World) :
    Calls Try.prog 7 #[.int .u8 u, .int .i64 f, .int .u8 n, .int .u8 p] W fun e w' => e = .returned (.bool true) ∧ Below W.heap.size W w' := by
  obtain ⟨hu, hu2⟩ := bounds_u8 w0
  obtain ⟨hn, hn2⟩ := bounds_u8 w2
  obtain ⟨hp, hp2⟩ := bounds_u8 w3
  have HF := fun w => r14fail_any (1 + u % 2) f f w
  by_cases h : rgE (1 + u % 2) f f = 0
  · rw [h] at HF
    by_cases hf : 999999000 < f
    · exact walk_b u f n p hu hu2 hn hn2 hp hp2 HF hf W
    · have h0 := (rgE_zero h).1
      have hc := (epE_zero h0).1
      have f1 := (epE_inY h0).1
      have hl : epE (1 + u % 2) (f + n) = 0 := by
        rcases hc with e | e
        · rw [e] at h0 ⊢
          rcases epE_in1 f with q | q
          · rcases epE_in1 (f + n) with r | r
            · exact r.1
            · omega
          · omega
        · rw [e] at h0 ⊢
          rcases epE_in2 f with q | q
          · rcases epE_in2 (f + n) with r | r
            · exact r.1
            · omega
          · omega
      have hg : rgE (1 + u % 2) f (f + n) = 0 := rgE_of h0 hl (by omega) (by omega)
      obtain ⟨k, hk⟩ : ∃ k : Nat, n + 1 = k := ⟨(n + 1).toNat, by omega⟩
      have m1 : 0 ≤ p % (n + 1) := Int.emod_nonneg _ (by omega)
      have m2 : p % (n + 1) < n + 1 := Int.emod_lt_of_pos _ (by omega)
      obtain ⟨j, hj⟩ : ∃ j : Nat, p % (n + 1) = j := ⟨(p % (n + 1)).toNat, by omega⟩
      have hb := bst_in (1 + u % 2) f k
      have hm := bst_min (1 + u % 2) f k j (by omega)
      rw [← hj] at hm
      have b2 := hb.2.1 (by omega)
      have H1 := fun w => kearl_ok (1 + u % 2) f (f + n) w k hg (by omega)
      have H2 := fun w => r14ix_any (1 + u % 2) (bst (1 + u % 2) f k) w (epE_mid h0 hl (by omega) (by omega))
      have H3 := fun w => r14ix_any (1 + u % 2) (f + p % (n + 1)) w (epE_mid h0 hl (by omega) (by omega))
      rcases hm with g | ⟨g1, g2⟩
      · exact walk_lt u f n p _ _ _ hu hu2 hn hn2 hp hp2 HF f1 (by omega) hb.1 (by omega) H1 H2 H3 (decide_eq_true g) W
      · exact walk_eq u f n p _ _ _ hu hu2 hn hn2 hp hp2 HF f1 (by omega) hb.1 (by omega) H1 H2 H3 (decide_eq_false (by omega)) (by rw [g1]; exact beq_self_eq_true _) (decide_eq_true g2) W
  · exact walk_a u f n p _ hu hu2 hn hn2 hp hp2 HF (bne_iff_ne.2 h) W

/-! ### the row's step -/
set_option maxRecDepth 100000 in
theorem lifted (os : Os) (started : os.Started) (H : Type) (enc : TypeId × Value → H) :
    ReturnsInHanded {} Try.checked os 7 .any (Rows.cycleEarliestSpec.pre6 enc Try.prog Try.f7 Rows.cycleEarliestRow.domain false) (Rows.cycleEarliestSpec.post enc Try.prog Try.f7 false true false false) := by
  refine returnsInHanded_of_change (C := Try.checked) own started (by kernel_rfl) Try.func7
    (ChangeSpec.witness6 (enc := enc) (C := Try.checked) false ⟨#[], #[.int .u8 0, .int .i64 0, .int .u8 0, .int .u8 0], []⟩ 8 (by kernel_rfl) (by kernel_rfl) (by kernel_rfl) (by kernel_rfl)) ?_
  intro W base args ds gs before hval0 hW hcnd _
  have hval : ∀ (j : Nat) t v, Try.f7.params[j]? = some t → args[j]? = some v → Value.okWide Try.prog W .any base t v := hval0
  have hW' := hW
  obtain ⟨p, q, hA0, hV, rfl, hfz, hnd⟩ := hW
  have hA : DataW.TrodAll enc Try.prog W 0 (fun _ => true) true Try.f7.params.toList args.toList ds p := hA0
  rw [Try.params7] at hA hval
  obtain ⟨v0, vs0, d0, ds0, p0, q0, hargs, rfl, rfl, h0, r0⟩ := trodAll_cons hA
  obtain ⟨v1, vs1, d1, ds1, p1, q1, rfl, rfl, rfl, h1, r1⟩ := trodAll_cons r0
  obtain ⟨v2, vs2, d2, ds2, p2, q2, rfl, rfl, rfl, h2, r2⟩ := trodAll_cons r1
  obtain ⟨v3, vs3, d3, ds3, p3, q3, rfl, rfl, rfl, h3, r3⟩ := trodAll_cons r2
  obtain ⟨rfl, rfl, rfl⟩ := trodAll_nil r3
  obtain rfl : args = #[v0, v1, v2, v3] := by cases args; simp_all
  obtain ⟨rfl, rfl⟩ := trodVars_none hV
  obtain ⟨a0, rfl, rfl, rfl, w0⟩ := open_int Try.underlying5 (hval 0 5 v0 rfl rfl) h0
  obtain ⟨a1, rfl, rfl, rfl, w1⟩ := open_int Try.underlying3 (hval 1 3 v1 rfl rfl) h1
  obtain ⟨a2, rfl, rfl, rfl, w2⟩ := open_int Try.underlying5 (hval 2 5 v2 rfl rfl) h2
  obtain ⟨a3, rfl, rfl, rfl, w3⟩ := open_int Try.underlying5 (hval 3 5 v3 rfl rfl) h3
  clear hA0 hval0
  simp only [List.append_nil] at hW'
  refine (walk a0 a1 a2 a3 w0 w1 w2 w3 W).mono fun e W' ⟨he, bel⟩ => ?_
  subst he
  exact ⟨_, rfl, _, _, _, [], _, [], hW', trodAll_mk1 (shut_bool Try.underlying4 _), (trodAll_cons_mk (shut_int Try.underlying5 w0) (trodAll_cons_mk (shut_int Try.underlying3 w1) (trodAll_cons_mk (shut_int Try.underlying5 w2) (trodAll_cons_mk (shut_int Try.underlying5 w3) trodAll_mk0)))), rfl, bel.frame _, fun h => by cases h⟩

theorem over : Rows.cycleEarliestRow.holds Try.pinned (OpenSpec.ofChange Rows.cycleEarliestSpec) :=
  OpenClaim.holds_of_wide 7 Try.f7 rfl rfl rfl rfl rfl rfl rfl ⟨rfl, rfl, rfl, rfl, rfl⟩ rfl rfl rfl rfl rfl (by kernel_rfl) Try.func7 (by kernel_rfl)
    (of_decide_eq_true (by kernel_rfl)) (by unfold Func.isWrapper; first | (rw [if_pos (by decide +kernel)]; kernel_rfl) | (rw [if_neg (by decide +kernel)]; exact ⟨rfl, rfl⟩))
    (fun os started H enc _ => lifted os started H enc)

/-- The statement. -/
theorem proved : Rows.CycleEarliestSaid :=
  over
#print axioms proved
end Go.Proofs.Ytnaglaecoephnaa.cycleEarliest
