/- The contracts of package computusref07: the same answers as package epact's. -/
import Derived.Test.YtoockmlobpegcaaDoorEa
import Derived.Test.YtoockmlobpegcaaDoorKa
import Derived.Test.YtoockmlobpegcaaDoorKd
namespace Go.Proofs.YtoockmlobpegcaaDoor
open Go.RowKit

theorem rmod30 (a : Int) (w : World) (ha : inR a = true) : Calls Tryd.prog 17 #[.int .i64 a, .int .i64 30] w fun e w' => e = .returned (.int .i64 (a % 30)) ∧ w = w' := by
  have := rmod_any a 30 w ha (by decide) (spl_pos a 30 (by omega))
  rwa [Int.fmod_eq_emod_of_nonneg _ (by omega)] at this
theorem rfail_lo (c y : Int) (w : World) (h : c < 1) : Calls Tryd.prog 11 #[.int .i64 c, .int .i64 y] w fun e w' => e = .returned (.int .i64 3) ∧ w = w' := by
  go_enter Tryd.func11, Tryd.ntmps11
  go_wp2
  go_ret
  exact ⟨rfl, rfl⟩
theorem rfail_hi (c y : Int) (w : World) (h1 : ¬ c < 1) (h : 2 < c) : Calls Tryd.prog 11 #[.int .i64 c, .int .i64 y] w fun e w' => e = .returned (.int .i64 3) ∧ w = w' := by
  go_enter Tryd.func11, Tryd.ntmps11
  go_wp2
  go_ret
  exact ⟨rfl, rfl⟩
theorem rfail_one_true (c y : Int) (w : World) (h : c = 1) (H : ∀ w, Calls Tryd.prog 21 #[.int .i64 y] w fun e w' => e = .returned (.bool true) ∧ w = w') : Calls Tryd.prog 11 #[.int .i64 c, .int .i64 y] w fun e w' => e = .returned (.int .i64 0) ∧ w = w' := by
  subst h
  go_enter Tryd.func11, Tryd.ntmps11
  go_wp2_with (go_at_call 21; refine (H _).mono ?_; rintro e w' ⟨rfl, rfl⟩)
  go_ret
  exact ⟨rfl, rfl⟩
theorem rfail_one_false (c y : Int) (w : World) (h : c = 1) (H : ∀ w, Calls Tryd.prog 21 #[.int .i64 y] w fun e w' => e = .returned (.bool false) ∧ w = w') : Calls Tryd.prog 11 #[.int .i64 c, .int .i64 y] w fun e w' => e = .returned (.int .i64 1) ∧ w = w' := by
  subst h
  go_enter Tryd.func11, Tryd.ntmps11
  go_wp2_with (go_at_call 21; refine (H _).mono ?_; rintro e w' ⟨rfl, rfl⟩)
  go_ret
  exact ⟨rfl, rfl⟩
theorem rfail_two_true (c y : Int) (w : World) (h : c = 2) (H : ∀ w, Calls Tryd.prog 22 #[.int .i64 y] w fun e w' => e = .returned (.bool true) ∧ w = w') : Calls Tryd.prog 11 #[.int .i64 c, .int .i64 y] w fun e w' => e = .returned (.int .i64 0) ∧ w = w' := by
  subst h
  go_enter Tryd.func11, Tryd.ntmps11
  go_wp2_with (go_at_call 22; refine (H _).mono ?_; rintro e w' ⟨rfl, rfl⟩)
  go_ret
  exact ⟨rfl, rfl⟩
theorem rfail_two_false (c y : Int) (w : World) (h : c = 2) (H : ∀ w, Calls Tryd.prog 22 #[.int .i64 y] w fun e w' => e = .returned (.bool false) ∧ w = w') : Calls Tryd.prog 11 #[.int .i64 c, .int .i64 y] w fun e w' => e = .returned (.int .i64 1) ∧ w = w' := by
  subst h
  go_enter Tryd.func11, Tryd.ntmps11
  go_wp2_with (go_at_call 22; refine (H _).mono ?_; rintro e w' ⟨rfl, rfl⟩)
  go_ret
  exact ⟨rfl, rfl⟩
theorem rfail_any (c y : Int) (w : World) : Calls Tryd.prog 11 #[.int .i64 c, .int .i64 y] w fun e w' => e = .returned (.int .i64 (epE c y)) ∧ w = w' := by
  have HI := fun w => rin_any y w
  have HG := fun w => rgre_any y w
  by_cases h1 : c = 1
  · have e : epE c y = eB (inY y) := by subst h1; unfold epE; rw [if_pos (by decide), epIn_one]
    rw [e]
    cases h : inY y
    · rw [h] at HI; exact rfail_one_false c y w h1 HI
    · rw [h] at HI; exact rfail_one_true c y w h1 HI
  · by_cases h2 : c = 2
    · have e : epE c y = eB (inG y) := by subst h2; unfold epE; rw [if_pos (by decide), epIn_two]
      rw [e]
      cases h : inG y
      · rw [h] at HG; exact rfail_two_false c y w h2 HG
      · rw [h] at HG; exact rfail_two_true c y w h2 HG
    · have e : epE c y = 3 := by unfold epE; rw [okC_not h1 h2]; rfl
      rw [e]
      rcases Int.lt_or_le c 1 with g | g
      · exact rfail_lo c y w g
      · exact rfail_hi c y w (by omega) (by omega)
theorem rof1_0 (c y g r : Int) (w : World) (h : c = 1) (g1 : 1 ≤ g) (g2 : g ≤ 19) (HG : ∀ w, Calls Tryd.prog 16 #[.int .i64 y] w fun e w' => e = .returned (.int .i64 g) ∧ w = w') (HM : ∀ w, Calls Tryd.prog 17 #[.int .i64 (11 * g - 3), .int .i64 30] w fun e w' => e = .returned (.int .i64 r) ∧ w = w') (hr : (r == 0) = false) : Calls Tryd.prog 14 #[.int .i64 c, .int .i64 y] w fun e w' => e = .returned (.int .i64 r) ∧ w = w' := by
  subst h
  go_enter Tryd.func14, Tryd.ntmps14
  go_wp2_with fail
  refine (HG _).mono ?_
  rintro e wq ⟨rfl, rfl⟩
  go_wp2_with fail
  refine (HM _).mono ?_
  rintro e wq ⟨rfl, rfl⟩
  go_wp2_with fail
  go_ret
  exact ⟨rfl, rfl⟩
theorem rof2_0 (c y g s l r : Int) (w : World) (h : c = 2) (g1 : 1 ≤ g) (g2 : g ≤ 19) (HG : ∀ w, Calls Tryd.prog 16 #[.int .i64 y] w fun e w' => e = .returned (.int .i64 g) ∧ w = w') (s1 : 0 ≤ s) (s2 : s ≤ 10000000) (l1 : 0 ≤ l) (l2 : l ≤ 10000000) (HL : ∀ w, Calls Tryd.prog 24 #[.int .i64 y] w fun e w' => e = .returned (.int .i64 l) ∧ w = w') (HS : ∀ w, Calls Tryd.prog 25 #[.int .i64 y] w fun e w' => e = .returned (.int .i64 s) ∧ w = w') (HM : ∀ w, Calls Tryd.prog 17 #[.int .i64 (11 * g + 20 + l - s), .int .i64 30] w fun e w' => e = .returned (.int .i64 r) ∧ w = w') (hr : (r == 0) = false) : Calls Tryd.prog 14 #[.int .i64 c, .int .i64 y] w fun e w' => e = .returned (.int .i64 r) ∧ w = w' := by
  subst h
  go_enter Tryd.func14, Tryd.ntmps14
  go_wp2_with fail
  refine (HG _).mono ?_
  rintro e wq ⟨rfl, rfl⟩
  go_wp2_with fail
  refine (HG _).mono ?_
  rintro e wq ⟨rfl, rfl⟩
  go_wp2_with fail
  refine (HL _).mono ?_
  rintro e wq ⟨rfl, rfl⟩
  go_wp2_with fail
  refine (HS _).mono ?_
  rintro e wq ⟨rfl, rfl⟩
  go_wp2_with fail
  refine (HM _).mono ?_
  rintro e wq ⟨rfl, rfl⟩
  go_wp2_with fail
  go_ret
  exact ⟨rfl, rfl⟩
theorem rof1_1 (c y g : Int) (w : World) (h : c = 1) (g1 : 1 ≤ g) (g2 : g ≤ 19) (HG : ∀ w, Calls Tryd.prog 16 #[.int .i64 y] w fun e w' => e = .returned (.int .i64 g) ∧ w = w') (HM : ∀ w, Calls Tryd.prog 17 #[.int .i64 (11 * g - 3), .int .i64 30] w fun e w' => e = .returned (.int .i64 0) ∧ w = w') : Calls Tryd.prog 14 #[.int .i64 c, .int .i64 y] w fun e w' => e = .returned (.int .i64 30) ∧ w = w' := by
  subst h
  go_enter Tryd.func14, Tryd.ntmps14
  go_wp2_with fail
  refine (HG _).mono ?_
  rintro e wq ⟨rfl, rfl⟩
  go_wp2_with fail
  refine (HM _).mono ?_
  rintro e wq ⟨rfl, rfl⟩
  go_wp2_with fail
  go_ret
  exact ⟨rfl, rfl⟩
theorem rof2_1 (c y g s l : Int) (w : World) (h : c = 2) (g1 : 1 ≤ g) (g2 : g ≤ 19) (HG : ∀ w, Calls Tryd.prog 16 #[.int .i64 y] w fun e w' => e = .returned (.int .i64 g) ∧ w = w') (s1 : 0 ≤ s) (s2 : s ≤ 10000000) (l1 : 0 ≤ l) (l2 : l ≤ 10000000) (HL : ∀ w, Calls Tryd.prog 24 #[.int .i64 y] w fun e w' => e = .returned (.int .i64 l) ∧ w = w') (HS : ∀ w, Calls Tryd.prog 25 #[.int .i64 y] w fun e w' => e = .returned (.int .i64 s) ∧ w = w') (HM : ∀ w, Calls Tryd.prog 17 #[.int .i64 (11 * g + 20 + l - s), .int .i64 30] w fun e w' => e = .returned (.int .i64 0) ∧ w = w') : Calls Tryd.prog 14 #[.int .i64 c, .int .i64 y] w fun e w' => e = .returned (.int .i64 30) ∧ w = w' := by
  subst h
  go_enter Tryd.func14, Tryd.ntmps14
  go_wp2_with fail
  refine (HG _).mono ?_
  rintro e wq ⟨rfl, rfl⟩
  go_wp2_with fail
  refine (HG _).mono ?_
  rintro e wq ⟨rfl, rfl⟩
  go_wp2_with fail
  refine (HL _).mono ?_
  rintro e wq ⟨rfl, rfl⟩
  go_wp2_with fail
  refine (HS _).mono ?_
  rintro e wq ⟨rfl, rfl⟩
  go_wp2_with fail
  refine (HM _).mono ?_
  rintro e wq ⟨rfl, rfl⟩
  go_wp2_with fail
  go_ret
  exact ⟨rfl, rfl⟩
theorem rofe_any (c y : Int) (w : World) (h : epE c y = 0) : Calls Tryd.prog 14 #[.int .i64 c, .int .i64 y] w fun e w' => e = .returned (.int .i64 (epc c y)) ∧ w = w' := by
  obtain ⟨hc, hi⟩ := epE_zero h
  obtain ⟨y1, y2⟩ := epIn_inY hi
  have HG := fun w => rgold_any y w y1 y2
  obtain ⟨g1, g2⟩ := gold_bd y
  rcases hc with h1 | h2
  · have e : epc c y = ep30 (11 * gold y - 3) := by subst h1; rfl
    have HM := fun w => rmod30 (11 * gold y - 3) w (inR_iff.2 (by omega))
    rw [e]
    unfold ep30
    by_cases hz : (11 * gold y - 3) % 30 = 0
    · rw [if_pos hz]; rw [hz] at HM
      exact rof1_1 c y _ w h1 g1 g2 HG HM
    · rw [if_neg hz]
      exact rof1_0 c y _ _ w h1 g1 g2 HG HM (by rw [beq_eq_false_iff_ne]; exact hz)
  · have hg : inG y = true := by subst h2; exact hi
    obtain ⟨q1, q2⟩ := inG_iff.1 hg
    have HL := fun w => rlunr_any y w y1 y2
    have HS := fun w => rsolr_any y w y1 y2
    obtain ⟨s1, s2⟩ := solr_bd q1 q2
    obtain ⟨l1, l2⟩ := lunr_bd q1 q2
    have e : epc c y = ep30 (11 * gold y + 20 + lunr y - solr y) := by subst h2; rfl
    have HM := fun w => rmod30 (11 * gold y + 20 + lunr y - solr y) w (inR_iff.2 (by omega))
    rw [e]
    unfold ep30
    by_cases hz : (11 * gold y + 20 + lunr y - solr y) % 30 = 0
    · rw [if_pos hz]; rw [hz] at HM
      exact rof2_1 c y _ _ _ w h2 g1 g2 HG s1 s2 l1 l2 HL HS HM
    · rw [if_neg hz]
      exact rof2_0 c y _ _ _ _ w h2 g1 g2 HG s1 s2 l1 l2 HL HS HM (by rw [beq_eq_false_iff_ne]; exact hz)
theorem rlab_31 (c y g : Int) (w : World) (HO : ∀ w, Calls Tryd.prog 14 #[.int .i64 c, .int .i64 y] w fun e w' => e = .returned (.int .i64 25) ∧ w = w') (HG : ∀ w, Calls Tryd.prog 16 #[.int .i64 y] w fun e w' => e = .returned (.int .i64 g) ∧ w = w') (h : 11 < g) : Calls Tryd.prog 15 #[.int .i64 c, .int .i64 y] w fun e w' => e = .returned (.int .i64 31) ∧ w = w' := by
  go_enter Tryd.func15, Tryd.ntmps15
  go_wp2_with fail
  refine (HO _).mono ?_
  rintro e wq ⟨rfl, rfl⟩
  go_wp2_with fail
  refine (HG _).mono ?_
  rintro e wq ⟨rfl, rfl⟩
  go_wp2_with fail
  go_ret
  exact ⟨rfl, rfl⟩
theorem rlab_lo (c y g : Int) (w : World) (HO : ∀ w, Calls Tryd.prog 14 #[.int .i64 c, .int .i64 y] w fun e w' => e = .returned (.int .i64 25) ∧ w = w') (HG : ∀ w, Calls Tryd.prog 16 #[.int .i64 y] w fun e w' => e = .returned (.int .i64 g) ∧ w = w') (h : ¬ 11 < g) : Calls Tryd.prog 15 #[.int .i64 c, .int .i64 y] w fun e w' => e = .returned (.int .i64 25) ∧ w = w' := by
  go_enter Tryd.func15, Tryd.ntmps15
  go_wp2_with fail
  refine (HO _).mono ?_
  rintro e wq ⟨rfl, rfl⟩
  go_wp2_with fail
  refine (HG _).mono ?_
  rintro e wq ⟨rfl, rfl⟩
  go_wp2_with fail
  go_ret
  exact ⟨rfl, rfl⟩
theorem rlab_pl (c y a : Int) (w : World) (HO : ∀ w, Calls Tryd.prog 14 #[.int .i64 c, .int .i64 y] w fun e w' => e = .returned (.int .i64 a) ∧ w = w') (q : (a == 25) = false) : Calls Tryd.prog 15 #[.int .i64 c, .int .i64 y] w fun e w' => e = .returned (.int .i64 a) ∧ w = w' := by
  go_enter Tryd.func15, Tryd.ntmps15
  go_wp2_with fail
  refine (HO _).mono ?_
  rintro e wq ⟨rfl, rfl⟩
  go_wp2_with fail
  go_ret
  exact ⟨rfl, rfl⟩
theorem rlabe_any (c y : Int) (w : World) (h : epE c y = 0) : Calls Tryd.prog 15 #[.int .i64 c, .int .i64 y] w fun e w' => e = .returned (.int .i64 (lab c y)) ∧ w = w' := by
  have HO := fun w => rofe_any c y w h
  obtain ⟨y1, y2⟩ := epE_inY h
  have HG := fun w => rgold_any y w y1 y2
  unfold lab lbl
  by_cases ha : epc c y = 25
  · rw [ha] at HO ⊢
    by_cases hg : 11 < gold y
    · rw [if_pos ⟨rfl, hg⟩]; exact rlab_31 c y _ w HO HG hg
    · rw [if_neg (fun g => hg g.2)]; exact rlab_lo c y _ w HO HG hg
  · rw [if_neg (fun g => ha g.1)]; exact rlab_pl c y _ w HO (by rw [beq_eq_false_iff_ne]; exact ha)
theorem rnam_lo (l : Int) (w : World) (h : l < 1) : Calls Tryd.prog 13 #[.int .i64 l] w fun e w' => e = .returned (.string ⟨#[]⟩) ∧ w = w' := by
  go_enter Tryd.func13, Tryd.ntmps13
  go_wp2
  go_ret
  exact ⟨rfl, rfl⟩
theorem rnam_hi (l : Int) (w : World) (h1 : ¬ l < 1) (h : 31 < l) : Calls Tryd.prog 13 #[.int .i64 l] w fun e w' => e = .returned (.string ⟨#[]⟩) ∧ w = w' := by
  go_enter Tryd.func13, Tryd.ntmps13
  go_wp2
  go_ret
  exact ⟨rfl, rfl⟩
theorem rnam_30 (l : Int) (w : World) (h : l = 30) : Calls Tryd.prog 13 #[.int .i64 l] w fun e w' => e = .returned (.string ⟨#[42]⟩) ∧ w = w' := by
  subst h
  go_enter Tryd.func13, Tryd.ntmps13
  go_wp2
  go_ret
  exact ⟨rfl, rfl⟩
theorem rnam_31 (l : Int) (w : World) (h : l = 31) : Calls Tryd.prog 13 #[.int .i64 l] w fun e w' => e = .returned (.string ⟨#[50, 53, 39]⟩) ∧ w = w' := by
  subst h
  go_enter Tryd.func13, Tryd.ntmps13
  go_wp2
  go_ret
  exact ⟨rfl, rfl⟩
theorem rnam_1 (l : Int) (w : World) (h1 : 1 ≤ l) (h2 : l < 10) : Calls Tryd.prog 13 #[.int .i64 l] w fun e w' => e = .returned (.string ⟨#[dig l]⟩) ∧ w = w' := by
  go_enter Tryd.func13, Tryd.ntmps13
  go_wp2
  rw [run_slice_string w _ _ _ _ _ _ Tryd.underlying9 (by omega) (by omega) (by simp [ByteArray.size]; omega)]
  go_wp2
  go_ret
  have h : l = 1 ∨ l = 2 ∨ l = 3 ∨ l = 4 ∨ l = 5 ∨ l = 6 ∨ l = 7 ∨ l = 8 ∨ l = 9 := by omega
  clear h1 h2
  rcases h with rfl | rfl | rfl | rfl | rfl | rfl | rfl | rfl | rfl
  all_goals exact ⟨by kernel_rfl, rfl⟩
theorem ten_cut (a : Int) (h1 : 0 ≤ a) (h2 : a < 10) (w : World) : (Instr.slice 9 (.string ⟨#[48, 49, 50, 51, 52, 53, 54, 55, 56, 57]⟩) (some (.int .i64 a)) (some (.int .i64 (a + 1))) none).run Tryd.prog w = .ok (.string ⟨#[dig a]⟩) w := by
  rw [run_slice_string w _ _ _ _ _ _ Tryd.underlying9 (by omega) (by omega) (by simp [ByteArray.size]; omega)]
  have h : a = 0 ∨ a = 1 ∨ a = 2 ∨ a = 3 ∨ a = 4 ∨ a = 5 ∨ a = 6 ∨ a = 7 ∨ a = 8 ∨ a = 9 := by omega
  clear h1 h2
  rcases h with rfl | rfl | rfl | rfl | rfl | rfl | rfl | rfl | rfl | rfl
  all_goals exact congrArg (fun s => Result.ok (Value.string s) w) (by kernel_rfl)
theorem two_digs (a b : UInt8) : (⟨#[a]⟩ : ByteArray) ++ ⟨#[b]⟩ = ⟨#[a, b]⟩ := by
  apply ByteArray.ext
  simp [ByteArray.data_append]
theorem rnam_2 (l : Int) (w : World) (h1 : 10 ≤ l) (h2 : l < 30) : Calls Tryd.prog 13 #[.int .i64 l] w fun e w' => e = .returned (.string ⟨#[dig (l / 10), dig (l % 10)]⟩) ∧ Below w.heap.size w w' := by
  have q1 : 0 ≤ l / 10 := by omega
  have q2 : l / 10 < 10 := by omega
  have q3 : 0 ≤ l % 10 := by omega
  have q4 : l % 10 < 10 := by omega
  have hA := ten_cut (l / 10) q1 q2
  have hB := ten_cut (l % 10) q3 q4
  go_enter Tryd.func13, Tryd.ntmps13
  go_wp2_with fail
  go_quiet (fail)
  go_wp2_with fail
  go_ret
  exact ⟨by rw [two_digs]; rfl, below_dn (Below.refl _ _) _⟩
theorem quiet_below {P : Program} {f : FuncId} {args : Array Value} {w : World} {v : Value} (h : Calls P f args w fun e w' => e = .returned v ∧ w = w') : Calls P f args w fun e w' => e = .returned v ∧ Below w.heap.size w w' :=
  h.mono fun _ _ ⟨he, hm⟩ => ⟨he, hm ▸ Below.refl _ _⟩
theorem rnam_any (l : Int) (w : World) : Calls Tryd.prog 13 #[.int .i64 l] w fun e w' => e = .returned (.string (lnm l)) ∧ Below w.heap.size w w' := by
  unfold lnm
  by_cases h : l < 1 ∨ 31 < l
  · rw [if_pos h]
    rcases Int.lt_or_le l 1 with g | g
    · exact quiet_below (rnam_lo l w g)
    · exact quiet_below (rnam_hi l w (by omega) (by omega))
  · rw [if_neg h]
    by_cases h0 : l = 30
    · rw [if_pos h0]; exact quiet_below (rnam_30 l w h0)
    · rw [if_neg h0]
      by_cases h1 : l = 31
      · rw [if_pos h1]; exact quiet_below (rnam_31 l w h1)
      · rw [if_neg h1]
        by_cases h2 : l < 10
        · rw [if_pos h2]; exact quiet_below (rnam_1 l w (by omega) h2)
        · rw [if_neg h2]; exact rnam_2 l w (by omega) (by omega)
end Go.Proofs.YtoockmlobpegcaaDoor
