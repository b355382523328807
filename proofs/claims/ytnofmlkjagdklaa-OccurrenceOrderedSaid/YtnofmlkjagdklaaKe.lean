/- What earlier stages proved: Ea Eb Ed. -/
import Derived.Test.YtnofmlkjagdklaaKd
import Derived.Test.YtnofmlkjagdklaaKw
import Derived.Test.YtnofmlkjagdklaaKa
import Derived.Test.YtnofmlkjagdklaaKc
import Derived.Maps.OwnSet
namespace Go.Proofs.Ytnofmlkjagdklaa

/-- The number from 1 to 30 that is congruent to n. -/
def ep30 (n : Int) : Int := if n % 30 = 0 then 30 else n % 30
def epJ (y : Int) : Int := 11 * gold y - 3
def epG (y : Int) : Int := 11 * gold y + 20 + lunr y - solr y
def epF (c y : Int) : Int := if c = 1 then epJ y else epG y
def epIn (c y : Int) : Bool := if c = 1 then inY y else inG y
/-- The error of a calendar and a year. -/
def epE (c y : Int) : Int := if okC c = true then eB (epIn c y) else 3
def epc (c y : Int) : Int := ep30 (epF c y)
def lbl (e g : Int) : Int := if e = 25 ∧ 11 < g then 31 else e
def lab (c y : Int) : Int := lbl (epc c y) (gold y)
theorem ep30_bd (n : Int) : 1 ≤ ep30 n ∧ ep30 n ≤ 30 := by unfold ep30; split <;> omega
theorem lbl_bd {e g : Int} (h : 1 ≤ e ∧ e ≤ 30) : 1 ≤ lbl e g ∧ lbl e g ≤ 31 := by unfold lbl; split <;> omega
theorem epE_zero {c y : Int} (h : epE c y = 0) : (c = 1 ∨ c = 2) ∧ epIn c y = true := by
  unfold epE at h
  cases hc : okC c
  · rw [hc] at h; simp at h
  · rw [hc, if_pos rfl] at h
    refine ⟨okC_iff.1 hc, ?_⟩
    cases hi : epIn c y
    · rw [hi] at h; simp [eB] at h
    · rfl
theorem epIn_inY {c y : Int} (h : epIn c y = true) : 1 ≤ y ∧ y ≤ 1000000000 := by
  unfold epIn at h
  split at h
  · exact inY_iff.1 h
  · have := inG_iff.1 h; omega
theorem epE_inY {c y : Int} (h : epE c y = 0) : 1 ≤ y ∧ y ≤ 1000000000 := epIn_inY (epE_zero h).2

end Go.Proofs.Ytnofmlkjagdklaa

namespace Go.Proofs.Ytnofmlkjagdklaa
open Go.RowKit
open Go.Maps (Keyed int_keyed keyOf_int_mk IsMap)

abbrev D0 : DataW Unit := .map []
end Go.Proofs.Ytnofmlkjagdklaa

namespace Go.Proofs.Ytnofmlkjagdklaa
open Go.RowKit

theorem rmod30 (a : Int) (w : World) (ha : inR a = true) : Calls Try.prog 47 #[.int .i64 a, .int .i64 30] w fun e w' => e = .returned (.int .i64 (a % 30)) ∧ w = w' := by
  have := rmod_any a 30 w ha (by decide) (spl_pos a 30 (by omega))
  rwa [Int.fmod_eq_emod_of_nonneg _ (by omega)] at this
theorem rof1_0 (c y g r : Int) (w : World) (h : c = 1) (g1 : 1 ≤ g) (g2 : g ≤ 19) (HG : ∀ w, Calls Try.prog 80 #[.int .i64 y] w fun e w' => e = .returned (.int .i64 g) ∧ w = w') (HM : ∀ w, Calls Try.prog 47 #[.int .i64 (11 * g - 3), .int .i64 30] w fun e w' => e = .returned (.int .i64 r) ∧ w = w') (hr : (r == 0) = false) : Calls Try.prog 79 #[.int .i64 c, .int .i64 y] w fun e w' => e = .returned (.int .i64 r) ∧ w = w' := by
  subst h
  go_enter Try.func79, Try.ntmps79
  go_wp2_with fail
  refine (HG _).mono ?_
  rintro e wq ⟨rfl, rfl⟩
  go_wp2_with fail
  refine (HM _).mono ?_
  rintro e wq ⟨rfl, rfl⟩
  go_wp2_with fail
  go_ret
  exact ⟨rfl, rfl⟩
theorem rof2_0 (c y g s l r : Int) (w : World) (h : c = 2) (g1 : 1 ≤ g) (g2 : g ≤ 19) (HG : ∀ w, Calls Try.prog 80 #[.int .i64 y] w fun e w' => e = .returned (.int .i64 g) ∧ w = w') (s1 : 0 ≤ s) (s2 : s ≤ 10000000) (l1 : 0 ≤ l) (l2 : l ≤ 10000000) (HL : ∀ w, Calls Try.prog 82 #[.int .i64 y] w fun e w' => e = .returned (.int .i64 l) ∧ w = w') (HS : ∀ w, Calls Try.prog 83 #[.int .i64 y] w fun e w' => e = .returned (.int .i64 s) ∧ w = w') (HM : ∀ w, Calls Try.prog 47 #[.int .i64 (11 * g + 20 + l - s), .int .i64 30] w fun e w' => e = .returned (.int .i64 r) ∧ w = w') (hr : (r == 0) = false) : Calls Try.prog 79 #[.int .i64 c, .int .i64 y] w fun e w' => e = .returned (.int .i64 r) ∧ w = w' := by
  subst h
  go_enter Try.func79, Try.ntmps79
  go_wp2_with fail
  refine (HG _).mono ?_
  rintro e wq ⟨rfl, rfl⟩
  go_wp2_with fail
  refine (HG _).mono ?_
  rintro e wq ⟨rfl, rfl⟩
  go_wp2_with fail
  refine (HL _).mono ?_
  rintro e wq ⟨rfl, rfl⟩
  go_wp2_with fail
  refine (HS _).mono ?_
  rintro e wq ⟨rfl, rfl⟩
  go_wp2_with fail
  refine (HM _).mono ?_
  rintro e wq ⟨rfl, rfl⟩
  go_wp2_with fail
  go_ret
  exact ⟨rfl, rfl⟩
theorem rof1_1 (c y g : Int) (w : World) (h : c = 1) (g1 : 1 ≤ g) (g2 : g ≤ 19) (HG : ∀ w, Calls Try.prog 80 #[.int .i64 y] w fun e w' => e = .returned (.int .i64 g) ∧ w = w') (HM : ∀ w, Calls Try.prog 47 #[.int .i64 (11 * g - 3), .int .i64 30] w fun e w' => e = .returned (.int .i64 0) ∧ w = w') : Calls Try.prog 79 #[.int .i64 c, .int .i64 y] w fun e w' => e = .returned (.int .i64 30) ∧ w = w' := by
  subst h
  go_enter Try.func79, Try.ntmps79
  go_wp2_with fail
  refine (HG _).mono ?_
  rintro e wq ⟨rfl, rfl⟩
  go_wp2_with fail
  refine (HM _).mono ?_
  rintro e wq ⟨rfl, rfl⟩
  go_wp2_with fail
  go_ret
  exact ⟨rfl, rfl⟩
theorem rof2_1 (c y g s l : Int) (w : World) (h : c = 2) (g1 : 1 ≤ g) (g2 : g ≤ 19) (HG : ∀ w, Calls Try.prog 80 #[.int .i64 y] w fun e w' => e = .returned (.int .i64 g) ∧ w = w') (s1 : 0 ≤ s) (s2 : s ≤ 10000000) (l1 : 0 ≤ l) (l2 : l ≤ 10000000) (HL : ∀ w, Calls Try.prog 82 #[.int .i64 y] w fun e w' => e = .returned (.int .i64 l) ∧ w = w') (HS : ∀ w, Calls Try.prog 83 #[.int .i64 y] w fun e w' => e = .returned (.int .i64 s) ∧ w = w') (HM : ∀ w, Calls Try.prog 47 #[.int .i64 (11 * g + 20 + l - s), .int .i64 30] w fun e w' => e = .returned (.int .i64 0) ∧ w = w') : Calls Try.prog 79 #[.int .i64 c, .int .i64 y] w fun e w' => e = .returned (.int .i64 30) ∧ w = w' := by
  subst h
  go_enter Try.func79, Try.ntmps79
  go_wp2_with fail
  refine (HG _).mono ?_
  rintro e wq ⟨rfl, rfl⟩
  go_wp2_with fail
  refine (HG _).mono ?_
  rintro e wq ⟨rfl, rfl⟩
  go_wp2_with fail
  refine (HL _).mono ?_
  rintro e wq ⟨rfl, rfl⟩
  go_wp2_with fail
  refine (HS _).mono ?_
  rintro e wq ⟨rfl, rfl⟩
  go_wp2_with fail
  refine (HM _).mono ?_
  rintro e wq ⟨rfl, rfl⟩
  go_wp2_with fail
  go_ret
  exact ⟨rfl, rfl⟩
theorem rofe_any (c y : Int) (w : World) (h : epE c y = 0) : Calls Try.prog 79 #[.int .i64 c, .int .i64 y] w fun e w' => e = .returned (.int .i64 (epc c y)) ∧ w = w' := by
  obtain ⟨hc, hi⟩ := epE_zero h
  obtain ⟨y1, y2⟩ := epIn_inY hi
  have HG := fun w => rgold_any y w y1 y2
  obtain ⟨g1, g2⟩ := gold_bd y
  rcases hc with h1 | h2
  · have e : epc c y = ep30 (11 * gold y - 3) := by subst h1; rfl
    have HM := fun w => rmod30 (11 * gold y - 3) w (inR_iff.2 (by omega))
    rw [e]
    unfold ep30
    by_cases hz : (11 * gold y - 3) % 30 = 0
    · rw [if_pos hz]; rw [hz] at HM
      exact rof1_1 c y _ w h1 g1 g2 HG HM
    · rw [if_neg hz]
      exact rof1_0 c y _ _ w h1 g1 g2 HG HM (by rw [beq_eq_false_iff_ne]; exact hz)
  · have hg : inG y = true := by subst h2; exact hi
    obtain ⟨q1, q2⟩ := inG_iff.1 hg
    have HL := fun w => rlunr_any y w y1 y2
    have HS := fun w => rsolr_any y w y1 y2
    obtain ⟨s1, s2⟩ := solr_bd q1 q2
    obtain ⟨l1, l2⟩ := lunr_bd q1 q2
    have e : epc c y = ep30 (11 * gold y + 20 + lunr y - solr y) := by subst h2; rfl
    have HM := fun w => rmod30 (11 * gold y + 20 + lunr y - solr y) w (inR_iff.2 (by omega))
    rw [e]
    unfold ep30
    by_cases hz : (11 * gold y + 20 + lunr y - solr y) % 30 = 0
    · rw [if_pos hz]; rw [hz] at HM
      exact rof2_1 c y _ _ _ w h2 g1 g2 HG s1 s2 l1 l2 HL HS HM
    · rw [if_neg hz]
      exact rof2_0 c y _ _ _ _ w h2 g1 g2 HG s1 s2 l1 l2 HL HS HM (by rw [beq_eq_false_iff_ne]; exact hz)
theorem rlab_31 (c y g : Int) (w : World) (HO : ∀ w, Calls Try.prog 79 #[.int .i64 c, .int .i64 y] w fun e w' => e = .returned (.int .i64 25) ∧ w = w') (HG : ∀ w, Calls Try.prog 80 #[.int .i64 y] w fun e w' => e = .returned (.int .i64 g) ∧ w = w') (h : 11 < g) : Calls Try.prog 76 #[.int .i64 c, .int .i64 y] w fun e w' => e = .returned (.int .i64 31) ∧ w = w' := by
  go_enter Try.func76, Try.ntmps76
  go_wp2_with fail
  refine (HO _).mono ?_
  rintro e wq ⟨rfl, rfl⟩
  go_wp2_with fail
  refine (HG _).mono ?_
  rintro e wq ⟨rfl, rfl⟩
  go_wp2_with fail
  go_ret
  exact ⟨rfl, rfl⟩
theorem rlab_lo (c y g : Int) (w : World) (HO : ∀ w, Calls Try.prog 79 #[.int .i64 c, .int .i64 y] w fun e w' => e = .returned (.int .i64 25) ∧ w = w') (HG : ∀ w, Calls Try.prog 80 #[.int .i64 y] w fun e w' => e = .returned (.int .i64 g) ∧ w = w') (h : ¬ 11 < g) : Calls Try.prog 76 #[.int .i64 c, .int .i64 y] w fun e w' => e = .returned (.int .i64 25) ∧ w = w' := by
  go_enter Try.func76, Try.ntmps76
  go_wp2_with fail
  refine (HO _).mono ?_
  rintro e wq ⟨rfl, rfl⟩
  go_wp2_with fail
  refine (HG _).mono ?_
  rintro e wq ⟨rfl, rfl⟩
  go_wp2_with fail
  go_ret
  exact ⟨rfl, rfl⟩
theorem rlab_pl (c y a : Int) (w : World) (HO : ∀ w, Calls Try.prog 79 #[.int .i64 c, .int .i64 y] w fun e w' => e = .returned (.int .i64 a) ∧ w = w') (q : (a == 25) = false) : Calls Try.prog 76 #[.int .i64 c, .int .i64 y] w fun e w' => e = .returned (.int .i64 a) ∧ w = w' := by
  go_enter Try.func76, Try.ntmps76
  go_wp2_with fail
  refine (HO _).mono ?_
  rintro e wq ⟨rfl, rfl⟩
  go_wp2_with fail
  go_ret
  exact ⟨rfl, rfl⟩
theorem rlabe_any (c y : Int) (w : World) (h : epE c y = 0) : Calls Try.prog 76 #[.int .i64 c, .int .i64 y] w fun e w' => e = .returned (.int .i64 (lab c y)) ∧ w = w' := by
  have HO := fun w => rofe_any c y w h
  obtain ⟨y1, y2⟩ := epE_inY h
  have HG := fun w => rgold_any y w y1 y2
  unfold lab lbl
  by_cases ha : epc c y = 25
  · rw [ha] at HO ⊢
    by_cases hg : 11 < gold y
    · rw [if_pos ⟨rfl, hg⟩]; exact rlab_31 c y _ w HO HG hg
    · rw [if_neg (fun g => hg g.2)]; exact rlab_lo c y _ w HO HG hg
  · rw [if_neg (fun g => ha g.1)]; exact rlab_pl c y _ w HO (by rw [beq_eq_false_iff_ne]; exact ha)
end Go.Proofs.Ytnofmlkjagdklaa
