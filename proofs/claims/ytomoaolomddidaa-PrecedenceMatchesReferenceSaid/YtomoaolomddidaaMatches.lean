/- Proved: for every slice of candidates and all candidates a and b, the law PrecedenceMatchesReference of package computuslaw20 (all functions of package precedence answer exactly as their references do) returns true, and what was in memory is as it was. No condition. -/
import Derived.Test.YtomoaolomddidaaBk
import Derived.Test.YtomoaolomddidaaBl
import Derived.Test.YtomoaolomddidaaBn
import Derived.Test.YtomoaolomddidaaBo
import Derived.Test.YtomoaolomddidaaBp
import Derived.Test.YtomoaolomddidaaVy
import Derived.WalkKit
import Derived.ProofKit
import Derived.OpenShut
import Derived.ShutString
import Derived.Lib.SmallJoins
namespace Go.Proofs.Ytomoaolomddidaa.precedenceMatchesReference
open Go.ChangeShapes Go.WideShapes Go.ChangeAt Go.RowKit Go.Joins
open Go.ChangeMaps (open_string shut_string)
set_option linter.unusedVariables false      -- a walk need not use every fact

theorem walk (v : Value) (l : List Cd) (a b : Cd) (W : World) (h : CsAt W v l) (_ : True) (_ : True) : Calls Try.prog 3 #[v, cdv a, cdv b] W fun e w' => e = .returned (.bool true) ∧ Below W.heap.size W w' := l20matches pp20 v l a b W h

/-! ### the row's step -/
set_option maxRecDepth 100000 in
theorem lifted (os : Os) (started : os.Started) (H : Type) (enc : TypeId × Value → H) :
    ReturnsInHanded {} Try.checked os 3 .any (Rows.precedenceMatchesReferenceSpec.pre6 enc Try.prog Try.f3 Rows.precedenceMatchesReferenceRow.domain false) (Rows.precedenceMatchesReferenceSpec.post enc Try.prog Try.f3 false true false false) := by
  refine returnsInHanded_of_change (C := Try.checked) own started (by kernel_rfl) Try.func3
    (ChangeSpec.witness6 (enc := enc) (C := Try.checked) false ⟨#[], #[.slice none 0 0, .agg #[.int .i64 0, .int .i64 0, .int .i64 0, .string ByteArray.empty], .agg #[.int .i64 0, .int .i64 0, .int .i64 0, .string ByteArray.empty]], []⟩ 8 (by kernel_rfl) (by kernel_rfl) (by kernel_rfl) (by kernel_rfl)) ?_
  intro W base args ds gs before hval0 hW hcnd _
  have hval : ∀ (j : Nat) t v, Try.f3.params[j]? = some t → args[j]? = some v → Value.okWide Try.prog W .any base t v := hval0
  have hW' := hW
  obtain ⟨p, q, hA0, hV, rfl, hfz, hnd⟩ := hW
  have hA : DataW.TrodAll enc Try.prog W 0 (fun _ => true) true Try.f3.params.toList args.toList ds p := hA0
  have hAk := hA
  rw [Try.params3] at hA hval
  obtain ⟨v0, vs0, d0, ds0, p0, q0, hargs, rfl, rfl, h0, r0⟩ := trodAll_cons hA
  obtain ⟨v1, vs1, d1, ds1, p1, q1, rfl, rfl, rfl, h1, r1⟩ := trodAll_cons r0
  obtain ⟨v2, vs2, d2, ds2, p2, q2, rfl, rfl, rfl, h2, r2⟩ := trodAll_cons r1
  obtain ⟨rfl, rfl, rfl⟩ := trodAll_nil r2
  obtain rfl : args = #[v0, v1, v2] := by cases args; simp_all
  obtain ⟨rfl, rfl⟩ := trodVars_none hV
  obtain ⟨z0, ok0⟩ := open_cands (hval 0 22 v0 rfl rfl) h0
  obtain ⟨z1, rfl⟩ := open_cand (hval 1 24 v1 rfl rfl) h1
  have ok1 : True := trivial
  obtain ⟨z2, rfl⟩ := open_cand (hval 2 24 v2 rfl rfl) h2
  have ok2 : True := trivial
  clear hA0 hval0
  simp only [List.append_nil] at hW' hAk
  have hlt := hW'.lt
  refine (walk v0 z0 z1 z2 W ok0 ok1 ok2).mono fun e W' ⟨he, bel⟩ => ?_
  subst he
  exact ⟨_, rfl, _, _, _, [], _, [], hW', trodAll_mk1 (shut_bool Try.underlying4 _), (back_all zkids zfull (by rw [Try.params3]; decide) hAk hlt bel (fun p hp => by simpa using hlt p hp)), rfl, bel.frame _, fun h => by cases h⟩

theorem over : Rows.precedenceMatchesReferenceRow.holds Try.pinned (OpenSpec.ofChange Rows.precedenceMatchesReferenceSpec) :=
  OpenClaim.holds_of_wide 3 Try.f3 rfl rfl rfl rfl rfl rfl rfl ⟨rfl, rfl, rfl, rfl, rfl⟩ rfl rfl rfl rfl rfl (by kernel_rfl) Try.func3 (by kernel_rfl)
    (of_decide_eq_true (by kernel_rfl)) (by unfold Func.isWrapper; first | (rw [if_pos (by decide +kernel)]; kernel_rfl) | (rw [if_neg (by decide +kernel)]; exact ⟨rfl, rfl⟩))
    (fun os started H enc _ => lifted os started H enc)

/-- The statement. -/
theorem proved : Rows.PrecedenceMatchesReferenceSaid :=
  over
#print axioms proved
end Go.Proofs.Ytomoaolomddidaa.precedenceMatchesReference
