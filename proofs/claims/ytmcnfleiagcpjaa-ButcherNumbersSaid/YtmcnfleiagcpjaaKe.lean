/- What earlier stages proved: Ea Ed. -/
import Derived.Test.YtmcnfleiagcpjaaKd
import Derived.Test.YtmcnfleiagcpjaaKa
namespace Go.Proofs.Ytmcnfleiagcpjaa

/-- The number from 1 to 30 that is congruent to n. -/
def ep30 (n : Int) : Int := if n % 30 = 0 then 30 else n % 30
def epJ (y : Int) : Int := 11 * gold y - 3
def epG (y : Int) : Int := 11 * gold y + 20 + lunr y - solr y
def epF (c y : Int) : Int := if c = 1 then epJ y else epG y
def epIn (c y : Int) : Bool := if c = 1 then inY y else inG y
/-- The error of a calendar and a year. -/
def epE (c y : Int) : Int := if okC c = true then eB (epIn c y) else 3
def epc (c y : Int) : Int := ep30 (epF c y)
def lbl (e g : Int) : Int := if e = 25 ∧ 11 < g then 31 else e
def lab (c y : Int) : Int := lbl (epc c y) (gold y)
theorem ep30_bd (n : Int) : 1 ≤ ep30 n ∧ ep30 n ≤ 30 := by unfold ep30; split <;> omega
theorem ep30_mod (n : Int) : ep30 n % 30 = n % 30 := by unfold ep30; split <;> omega
theorem lbl_bd {e g : Int} (h : 1 ≤ e ∧ e ≤ 30) : 1 ≤ lbl e g ∧ lbl e g ≤ 31 := by unfold lbl; split <;> omega
theorem epE_zero {c y : Int} (h : epE c y = 0) : (c = 1 ∨ c = 2) ∧ epIn c y = true := by
  unfold epE at h
  cases hc : okC c
  · rw [hc] at h; simp at h
  · rw [hc, if_pos rfl] at h
    refine ⟨okC_iff.1 hc, ?_⟩
    cases hi : epIn c y
    · rw [hi] at h; simp [eB] at h
    · rfl
theorem epIn_one (y : Int) : epIn 1 y = inY y := rfl
theorem epIn_two (y : Int) : epIn 2 y = inG y := rfl
theorem epIn_inY {c y : Int} (h : epIn c y = true) : 1 ≤ y ∧ y ≤ 1000000000 := by
  unfold epIn at h
  split at h
  · exact inY_iff.1 h
  · have := inG_iff.1 h; omega
theorem epE_inY {c y : Int} (h : epE c y = 0) : 1 ≤ y ∧ y ≤ 1000000000 := epIn_inY (epE_zero h).2

end Go.Proofs.Ytmcnfleiagcpjaa

namespace Go.Proofs.Ytmcnfleiagcpjaa
open Go.RowKit

theorem rfail_lo (c y : Int) (w : World) (h : c < 1) : Calls Try.prog 8 #[.int .i64 c, .int .i64 y] w fun e w' => e = .returned (.int .i64 3) ∧ w = w' := by
  go_enter Try.func8, Try.ntmps8
  go_wp2
  go_ret
  exact ⟨rfl, rfl⟩
theorem rfail_hi (c y : Int) (w : World) (h1 : ¬ c < 1) (h : 2 < c) : Calls Try.prog 8 #[.int .i64 c, .int .i64 y] w fun e w' => e = .returned (.int .i64 3) ∧ w = w' := by
  go_enter Try.func8, Try.ntmps8
  go_wp2
  go_ret
  exact ⟨rfl, rfl⟩
theorem rfail_one_true (c y : Int) (w : World) (h : c = 1) (H : ∀ w, Calls Try.prog 13 #[.int .i64 y] w fun e w' => e = .returned (.bool true) ∧ w = w') : Calls Try.prog 8 #[.int .i64 c, .int .i64 y] w fun e w' => e = .returned (.int .i64 0) ∧ w = w' := by
  subst h
  go_enter Try.func8, Try.ntmps8
  go_wp2_with (go_at_call 13; refine (H _).mono ?_; rintro e w' ⟨rfl, rfl⟩)
  go_ret
  exact ⟨rfl, rfl⟩
theorem rfail_one_false (c y : Int) (w : World) (h : c = 1) (H : ∀ w, Calls Try.prog 13 #[.int .i64 y] w fun e w' => e = .returned (.bool false) ∧ w = w') : Calls Try.prog 8 #[.int .i64 c, .int .i64 y] w fun e w' => e = .returned (.int .i64 1) ∧ w = w' := by
  subst h
  go_enter Try.func8, Try.ntmps8
  go_wp2_with (go_at_call 13; refine (H _).mono ?_; rintro e w' ⟨rfl, rfl⟩)
  go_ret
  exact ⟨rfl, rfl⟩
theorem rfail_two_true (c y : Int) (w : World) (h : c = 2) (H : ∀ w, Calls Try.prog 14 #[.int .i64 y] w fun e w' => e = .returned (.bool true) ∧ w = w') : Calls Try.prog 8 #[.int .i64 c, .int .i64 y] w fun e w' => e = .returned (.int .i64 0) ∧ w = w' := by
  subst h
  go_enter Try.func8, Try.ntmps8
  go_wp2_with (go_at_call 14; refine (H _).mono ?_; rintro e w' ⟨rfl, rfl⟩)
  go_ret
  exact ⟨rfl, rfl⟩
theorem rfail_two_false (c y : Int) (w : World) (h : c = 2) (H : ∀ w, Calls Try.prog 14 #[.int .i64 y] w fun e w' => e = .returned (.bool false) ∧ w = w') : Calls Try.prog 8 #[.int .i64 c, .int .i64 y] w fun e w' => e = .returned (.int .i64 1) ∧ w = w' := by
  subst h
  go_enter Try.func8, Try.ntmps8
  go_wp2_with (go_at_call 14; refine (H _).mono ?_; rintro e w' ⟨rfl, rfl⟩)
  go_ret
  exact ⟨rfl, rfl⟩
theorem rfail_any (c y : Int) (w : World) : Calls Try.prog 8 #[.int .i64 c, .int .i64 y] w fun e w' => e = .returned (.int .i64 (epE c y)) ∧ w = w' := by
  have HI := fun w => rin_any y w
  have HG := fun w => rgre_any y w
  by_cases h1 : c = 1
  · have e : epE c y = eB (inY y) := by subst h1; unfold epE; rw [if_pos (by decide), epIn_one]
    rw [e]
    cases h : inY y
    · rw [h] at HI; exact rfail_one_false c y w h1 HI
    · rw [h] at HI; exact rfail_one_true c y w h1 HI
  · by_cases h2 : c = 2
    · have e : epE c y = eB (inG y) := by subst h2; unfold epE; rw [if_pos (by decide), epIn_two]
      rw [e]
      cases h : inG y
      · rw [h] at HG; exact rfail_two_false c y w h2 HG
      · rw [h] at HG; exact rfail_two_true c y w h2 HG
    · have e : epE c y = 3 := by unfold epE; rw [okC_not h1 h2]; rfl
      rw [e]
      rcases Int.lt_or_le c 1 with g | g
      · exact rfail_lo c y w g
      · exact rfail_hi c y w (by omega) (by omega)
end Go.Proofs.Ytmcnfleiagcpjaa
