/- Stage 20's reference: Precedes, Sort; Same of stage 19's. -/
import Derived.Test.YtomoaolomddidaaBg
namespace Go.Proofs.Ytomoaolomddidaa
open Go.RowKit

theorem r20pr_any (a b : Cd) (W : World) : Calls Try.prog 11 #[cdv a, cdv b] W fun e w' => e = .returned (.bool (prc a b)) ∧ Below W.heap.size W w' := by
  obtain ⟨k, i, r, d⟩ := a
  obtain ⟨k', i', r', d'⟩ := b
  cases h1 : decide (r < r')
  · cases h2 : (r == r')
    · have e : prc ⟨k, i, r, d⟩ ⟨k', i', r', d'⟩ = false := by
        rw [prc_no]; have := of_decide_eq_false h1; have : ¬ r = r' := by simpa using h2
        dsimp only; omega
      rw [e]
      go_enter Try.func11, Try.ntmps11
      go_wp2
      go_ret
      exact ⟨rfl, ((Below.refl _ _).alloc (Nat.le_refl _) _).alloc (by simp) _⟩
    · obtain rfl : r = r' := by simpa using h2
      cases h3 : decide (k < k')
      · cases h4 : (k == k')
        · have e : prc ⟨k, i, r, d⟩ ⟨k', i', r, d'⟩ = false := by
            rw [prc_no]; have := of_decide_eq_false h3; have : ¬ k = k' := by simpa using h4
            dsimp only; omega
          rw [e]
          go_enter Try.func11, Try.ntmps11
          go_wp2
          go_ret
          exact ⟨rfl, ((Below.refl _ _).alloc (Nat.le_refl _) _).alloc (by simp) _⟩
        · obtain rfl : k = k' := by simpa using h4
          have e : prc ⟨k, i, r, d⟩ ⟨k, i', r, d'⟩ = decide (i < i') := by
            rw [Bool.eq_iff_iff, prc_iff, decide_eq_true_iff]
            dsimp only; omega
          rw [e]
          go_enter Try.func11, Try.ntmps11
          go_wp2
          go_ret
          exact ⟨rfl, ((Below.refl _ _).alloc (Nat.le_refl _) _).alloc (by simp) _⟩
      · have e : prc ⟨k, i, r, d⟩ ⟨k', i', r, d'⟩ = true := by
          rw [prc_iff]; have := of_decide_eq_true h3
          dsimp only; omega
        rw [e]
        go_enter Try.func11, Try.ntmps11
        go_wp2
        go_ret
        exact ⟨rfl, ((Below.refl _ _).alloc (Nat.le_refl _) _).alloc (by simp) _⟩
  · have e : prc ⟨k, i, r, d⟩ ⟨k', i', r', d'⟩ = true := by
      rw [prc_iff]; exact .inl (of_decide_eq_true h1)
    rw [e]
    go_enter Try.func11, Try.ntmps11
    go_wp2
    go_ret
    exact ⟨rfl, ((Below.refl _ _).alloc (Nat.le_refl _) _).alloc (by simp) _⟩
end Go.Proofs.Ytomoaolomddidaa
