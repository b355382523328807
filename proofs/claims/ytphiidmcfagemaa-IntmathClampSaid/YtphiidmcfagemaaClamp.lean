/- Proved: for any four 64-bit integers, the law on Clamp (idempotent, monotone, numbers of the range unchanged) returns true, and what was in memory is as it was. No condition. -/
import Derived.Test.YtphiidmcfagemaaW
import Derived.WalkKit
import Derived.ProofKit
import Derived.OpenShut
import Derived.ShutString
namespace Go.Proofs.Ytphiidmcfagemaa.intmathClamp
open Go.ChangeShapes Go.WideShapes Go.ChangeAt Go.RowKit
open Go.ChangeMaps (open_string shut_string)
set_option linter.unusedVariables false      -- a walk need not use every 'w<i>' (that an integer argument fits its kind)

theorem own : ownKnob Try.prog.godebug = none := by kernel_rfl

theorem clamp_mem {n l h : Int} (hlh : l ≤ h) : l ≤ clampI n l h ∧ clampI n l h ≤ h := by
  unfold clampI; split <;> try split
  all_goals omega
theorem clamp_id {n l h : Int} (h1 : l ≤ n) (h2 : n ≤ h) : clampI n l h = n := (clamp_in h1 h2).symm
theorem clamp_mono {n m l h : Int} (hlh : l ≤ h) (hnm : n ≤ m) : clampI n l h ≤ clampI m l h := by
  unfold clampI; repeat' split
  all_goals omega

theorem walk_no (n m l h : Int) (w : World) (hlh : h < l) :
    Calls Try.prog 6 #[.int .i64 n, .int .i64 m, .int .i64 l, .int .i64 h] w fun e w' => e = .returned (.bool true) ∧ Below w.heap.size w w' := by
  go_enter Try.func6, Try.ntmps6
  go_wp2_with fail
  refine (awake_any _).mono ?_
  rintro e w1 ⟨rfl, hb1⟩
  go_wp2_with fail
  refine (awake_any _).mono ?_
  rintro e w2 ⟨rfl, hb2⟩
  go_wp2_with fail
  go_ret
  exact ⟨rfl, hb1.trans (hb2.mono hb1.size)⟩

theorem walk_yes (n m l h A B : Int) (w : World) (hlh : l ≤ h) (a1 : l ≤ A) (a2 : A ≤ h) (g1 : m < n ∨ A ≤ B) (g2 : ¬ (l ≤ n ∧ n ≤ h) ∨ A = n)
    (ha : ∀ w, Calls Try.prog 22 #[.int .i64 n, .int .i64 l, .int .i64 h] w fun e w' => e = .returned (.int .i64 A) ∧ w = w')
    (hb : ∀ w, Calls Try.prog 22 #[.int .i64 m, .int .i64 l, .int .i64 h] w fun e w' => e = .returned (.int .i64 B) ∧ w = w')
    (hc : ∀ w, Calls Try.prog 22 #[.int .i64 A, .int .i64 l, .int .i64 h] w fun e w' => e = .returned (.int .i64 A) ∧ w = w') :
    Calls Try.prog 6 #[.int .i64 n, .int .i64 m, .int .i64 l, .int .i64 h] w fun e w' => e = .returned (.bool true) ∧ Below w.heap.size w w' := by
  go_enter Try.func6, Try.ntmps6
  go_wp2_with fail
  refine (awake_any _).mono ?_
  rintro e w1 ⟨rfl, hb1⟩
  go_wp2_with fail
  refine (ha _).mono ?_
  rintro e w2 ⟨rfl, rfl⟩
  go_wp2_with fail
  refine (hb _).mono ?_
  rintro e w2 ⟨rfl, rfl⟩
  go_wp2_with fail
  all_goals
    refine (hc _).mono ?_
    rintro e w2 ⟨rfl, rfl⟩
    go_wp2_with fail
  all_goals
    go_ret
    first
      | exact ⟨rfl, hb1⟩
      | exact ⟨ret_bool (by simp; omega), hb1⟩

theorem walk (n m l h : Int) (w0 : (Lit.int .i64 n).wf = true) (w1 : (Lit.int .i64 m).wf = true) (w2 : (Lit.int .i64 l).wf = true) (w3 : (Lit.int .i64 h).wf = true) (w : World) :
    Calls Try.prog 6 #[.int .i64 n, .int .i64 m, .int .i64 l, .int .i64 h] w fun e w' => e = .returned (.bool true) ∧ Below w.heap.size w w' := by
  by_cases hlh : l ≤ h
  · obtain ⟨a1, a2⟩ := clamp_mem (n := n) hlh
    have ha := fun w => clamp_any n l h w
    have hb := fun w => clamp_any m l h w
    have hc := fun w => clamp_at (clampI n l h) l h _ w (clamp_id a1 a2)
    have hmono : m < n ∨ clampI n l h ≤ clampI m l h := by
      rcases Int.lt_or_le m n with g | g
      · exact Or.inl g
      · exact Or.inr (clamp_mono hlh g)
    have hid : ¬ (l ≤ n ∧ n ≤ h) ∨ clampI n l h = n := by
      by_cases g : l ≤ n ∧ n ≤ h
      · exact Or.inr (clamp_id g.1 g.2)
      · exact Or.inl g
    exact walk_yes n m l h _ _ w hlh a1 a2 hmono hid ha hb hc
  · exact walk_no n m l h w (by omega)

/-! ### THE ROW's STEP -/
set_option maxRecDepth 100000 in
theorem lifted (os : Os) (started : os.Started) (H : Type) (enc : TypeId × Value → H) :
    ReturnsInHanded {} Try.checked os 6 .any (Rows.intmathClampSpec.pre6 enc Try.prog Try.f6 Rows.intmathClampRow.domain false) (Rows.intmathClampSpec.post enc Try.prog Try.f6 false true false false) := by
  refine returnsInHanded_of_change (C := Try.checked) own started (by kernel_rfl) Try.func6
    (ChangeSpec.witness6 (enc := enc) (C := Try.checked) false ⟨#[], #[.int .i64 0, .int .i64 0, .int .i64 0, .int .i64 0], []⟩ 8 (by kernel_rfl) (by kernel_rfl) (by kernel_rfl) (by kernel_rfl)) ?_
  intro W base args ds gs before hval0 hW hcnd _
  have hval : ∀ (j : Nat) t v, Try.f6.params[j]? = some t → args[j]? = some v → Value.okWide Try.prog W .any base t v := hval0
  have hW' := hW
  obtain ⟨p, q, hA0, hV, rfl, hfz, hnd⟩ := hW
  have hA : DataW.TrodAll enc Try.prog W 0 (fun _ => true) true Try.f6.params.toList args.toList ds p := hA0
  rw [Try.params6] at hA hval
  obtain ⟨v0, vs0, d0, ds0, p0, q0, hargs, rfl, rfl, h0, r0⟩ := trodAll_cons hA
  obtain ⟨v1, vs1, d1, ds1, p1, q1, rfl, rfl, rfl, h1, r1⟩ := trodAll_cons r0
  obtain ⟨v2, vs2, d2, ds2, p2, q2, rfl, rfl, rfl, h2, r2⟩ := trodAll_cons r1
  obtain ⟨v3, vs3, d3, ds3, p3, q3, rfl, rfl, rfl, h3, r3⟩ := trodAll_cons r2
  obtain ⟨rfl, rfl, rfl⟩ := trodAll_nil r3
  obtain rfl : args = #[v0, v1, v2, v3] := by cases args; simp_all
  obtain ⟨rfl, rfl⟩ := trodVars_none hV
  obtain ⟨a0, rfl, rfl, rfl, w0⟩ := open_int Try.underlying3 (hval 0 3 v0 rfl rfl) h0
  obtain ⟨a1, rfl, rfl, rfl, w1⟩ := open_int Try.underlying3 (hval 1 3 v1 rfl rfl) h1
  obtain ⟨a2, rfl, rfl, rfl, w2⟩ := open_int Try.underlying3 (hval 2 3 v2 rfl rfl) h2
  obtain ⟨a3, rfl, rfl, rfl, w3⟩ := open_int Try.underlying3 (hval 3 3 v3 rfl rfl) h3
  clear hA0 hval0
  simp only [List.append_nil] at hW'
  refine (walk a0 a1 a2 a3 w0 w1 w2 w3 W).mono fun e W' ⟨he, bel⟩ => ?_
  subst he
  exact ⟨_, rfl, _, _, _, [], _, [], hW', trodAll_mk1 (shut_bool Try.underlying4 _), (trodAll_cons_mk (shut_int Try.underlying3 w0) (trodAll_cons_mk (shut_int Try.underlying3 w1) (trodAll_cons_mk (shut_int Try.underlying3 w2) (trodAll_cons_mk (shut_int Try.underlying3 w3) trodAll_mk0)))), rfl, bel.frame _, fun h => by cases h⟩

theorem over : Rows.intmathClampRow.holds Try.pinned (OpenSpec.ofChange Rows.intmathClampSpec) :=
  OpenClaim.holds_of_wide 6 Try.f6 rfl rfl rfl rfl rfl rfl rfl ⟨rfl, rfl, rfl, rfl, rfl⟩ rfl rfl rfl rfl rfl (by kernel_rfl) Try.func6 (by kernel_rfl)
    (of_decide_eq_true (by kernel_rfl)) (by unfold Func.isWrapper; first | (rw [if_pos (by decide +kernel)]; kernel_rfl) | (rw [if_neg (by decide +kernel)]; exact ⟨rfl, rfl⟩))
    (fun os started H enc _ => lifted os started H enc)

/-- The statement. -/
theorem proved : Rows.IntmathClampSaid :=
  over
#print axioms proved
end Go.Proofs.Ytphiidmcfagemaa.intmathClamp
