/- The contracts of package computusref06's functions: the same answers as package golden's. -/
import Derived.Test.YtclnpnkjldddcaaDoorDc
import Derived.Test.YtclnpnkjldddcaaDoorCp
namespace Go.Proofs.YtclnpnkjldddcaaDoor
open Go.RowKit

theorem rgre_any (y : Int) (w : World) : Calls Tryd.prog 16 #[.int .i64 y] w fun e w' => e = .returned (.bool (inG y)) ∧ w = w' := by
  cases h0 : decide (1583 ≤ y)
  all_goals
    go_enter Tryd.func16, Tryd.ntmps16
    go_wp2
    go_ret
    exact ⟨ret_bool (by simp [inG, h0]), rfl⟩
theorem td_nn {a b : Int} (h : 0 ≤ a) : a.tdiv b = a / b := Int.tdiv_eq_ediv_of_nonneg h
theorem rgold_any (y : Int) (w : World) (h1 : 1 ≤ y) (h2 : y ≤ 1000000000) : Calls Tryd.prog 18 #[.int .i64 y] w fun e w' => e = .returned (.int .i64 (gold y)) ∧ w = w' := by
  have hv := Lib.hid (show y - 19 * (y / 19) + 1 = gold y by unfold gold; omega)
  have q1 : 0 ≤ y / 19 := by omega
  have q2 : 19 * (y / 19) ≤ y := by omega
  generalize gold y = R at *
  go_enter Tryd.func18, Tryd.ntmps18
  go_wp2
  go_ret
  exact ⟨ret_int hv.out, rfl⟩
theorem rcent_any (y : Int) (w : World) (h1 : 1 ≤ y) (h2 : y ≤ 1000000000) : Calls Tryd.prog 19 #[.int .i64 y] w fun e w' => e = .returned (.int .i64 (cent y)) ∧ w = w' := by
  have hv := Lib.hid (show y / 100 + 1 = cent y from rfl)
  have q1 : 0 ≤ y / 100 := by omega
  have q2 : y / 100 ≤ 10000000 := by omega
  generalize cent y = R at *
  go_enter Tryd.func19, Tryd.ntmps19
  go_wp2
  go_ret
  exact ⟨ret_int hv.out, rfl⟩
theorem rsolr_any (y : Int) (w : World) (h1 : 1 ≤ y) (h2 : y ≤ 1000000000) : Calls Tryd.prog 20 #[.int .i64 y] w fun e w' => e = .returned (.int .i64 (solr y)) ∧ w = w' := by
  have HC := fun w => rcent_any y w h1 h2
  obtain ⟨c1, c2⟩ := cent_bd h1 h2
  have e := td_nn (b := 4) (show 0 ≤ 3 * cent y by omega)
  have hv := Lib.hid (show 3 * cent y / 4 - 12 = solr y from rfl)
  have q1 : 0 ≤ 3 * cent y / 4 := by omega
  have q2 : 3 * cent y / 4 ≤ 10000000 := by omega
  generalize solr y = R at *
  rw [← e] at hv q1 q2
  clear e
  generalize hq : (3 * cent y).tdiv 4 = q at *
  generalize cent y = c at *
  go_enter Tryd.func20, Tryd.ntmps20
  go_wp2_with (go_at_call 19; refine (HC _).mono ?_; rintro e w' ⟨rfl, rfl⟩)
  go_ret
  exact ⟨ret_int hv.out, rfl⟩
theorem rlunr_any (y : Int) (w : World) (h1 : 1 ≤ y) (h2 : y ≤ 1000000000) : Calls Tryd.prog 21 #[.int .i64 y] w fun e w' => e = .returned (.int .i64 (lunr y)) ∧ w = w' := by
  have HC := fun w => rcent_any y w h1 h2
  obtain ⟨c1, c2⟩ := cent_bd h1 h2
  have e := td_nn (b := 25) (show 0 ≤ 8 * cent y + 5 by omega)
  have hv := Lib.hid (show (8 * cent y + 5) / 25 - 5 = lunr y from rfl)
  have q1 : 0 ≤ (8 * cent y + 5) / 25 := by omega
  have q2 : (8 * cent y + 5) / 25 ≤ 10000000 := by omega
  generalize lunr y = R at *
  rw [← e] at hv q1 q2
  clear e
  generalize hq : (8 * cent y + 5).tdiv 25 = q at *
  generalize cent y = c at *
  go_enter Tryd.func21, Tryd.ntmps21
  go_wp2_with (go_at_call 19; refine (HC _).mono ?_; rintro e w' ⟨rfl, rfl⟩)
  go_ret
  exact ⟨ret_int hv.out, rfl⟩
section
variable (c y f : Int) (w : World)
theorem rlet_no1 (ht : CTab w) (h1 : c < 1) : Calls Tryd.prog 14 #[.int .i64 c, .int .i64 y] w fun e w' => e = .returned (letv 0 0 3) ∧ Below w.heap.size w w' := by
  have S0 := Lib.hid (St.start ht)
  clear ht
  go_enter Tryd.func14, Tryd.ntmps14
  go_wp2_with fail
  exact bodyPost_ret (v := letv 0 0 3) (by simp [results, Tryd.results14, go_sem]) rfl ⟨rfl, (S0.out).b⟩
theorem rlet_no2 (ht : CTab w) (h1 : ¬ c < 1) (h2 : 2 < c) : Calls Tryd.prog 14 #[.int .i64 c, .int .i64 y] w fun e w' => e = .returned (letv 0 0 3) ∧ Below w.heap.size w w' := by
  have S0 := Lib.hid (St.start ht)
  clear ht
  go_enter Tryd.func14, Tryd.ntmps14
  go_wp2_with fail
  exact bodyPost_ret (v := letv 0 0 3) (by simp [results, Tryd.results14, go_sem]) rfl ⟨rfl, (S0.out).b⟩
theorem rlet_out (ht : CTab w) (h1 : ¬ c < 1) (h2 : ¬ 2 < c) (Hi : ∀ w, Calls Tryd.prog 15 #[.int .i64 y] w fun e w' => e = .returned (.bool false) ∧ w = w') : Calls Tryd.prog 14 #[.int .i64 c, .int .i64 y] w fun e w' => e = .returned (letv 0 0 1) ∧ Below w.heap.size w w' := by
  have S0 := Lib.hid (St.start ht)
  clear ht
  go_enter Tryd.func14, Tryd.ntmps14
  go_wp2_with fail
  refine (Hi _).mono ?_
  rintro e wq ⟨rfl, rfl⟩
  go_wp2_with fail
  exact bodyPost_ret (v := letv 0 0 1) (by simp [results, Tryd.results14, go_sem]) rfl ⟨rfl, (S0.out).b⟩
theorem rlet_com (ht : CTab w) (h1 : ¬ c < 1) (h2 : ¬ 2 < c) (Hi : ∀ w, Calls Tryd.prog 15 #[.int .i64 y] w fun e w' => e = .returned (.bool true) ∧ w = w') (H : ∀ w, CTab w → Calls Tryd.prog 23 #[.int .i64 c, dtv y 1 1] w fun e w' => e = .returned (numv f 0) ∧ Below w.heap.size w w') (f1 : -1 ≤ f) (f2 : f ≤ 365249999998) (Hl : ∀ w, Calls Tryd.prog 22 #[.int .i64 c, .int .i64 y] w fun e w' => e = .returned (.bool false) ∧ w = w')  : Calls Tryd.prog 14 #[.int .i64 c, .int .i64 y] w fun e w' => e = .returned (letv (letA f) (letA f) 0) ∧ Below w.heap.size w w' := by
  have ab := letA_bd f
  have S0 := Lib.hid (St.start ht)
  clear ht
  go_enter Tryd.func14, Tryd.ntmps14
  go_wp2_with fail
  refine (Hi _).mono ?_
  rintro e wq ⟨rfl, rfl⟩
  go_wp2_with fail
  refine (H _ (S0.out).t).mono ?_
  rintro e w1 ⟨rfl, hb1⟩
  have S1 := Lib.hid ((S0.out).on hb1)
  obtain ⟨hc1, hf1⟩ := bcell hb1
  clear hb1
  go_wp2_with fail
  go_loop [7, 9] (fun n k => ∃ j : Int, 1 ≤ j ∧ j ≤ letA f ∧ n = .int .i64 (f + j - 1) ∧ k = .int .i64 j) (fun _ k => (7 - intOf k).toNat)
  case atStart => exact ⟨1, by omega, ab.1, by simp, rfl⟩
  case round =>
    obtain ⟨j, j1, j2, rfl, rfl⟩ := hrel
    have HO := fun w => rof_any (f + j - 1) w (inR_iff.2 (by omega))
    by_cases hj : j < letA f
    · have hne := letA_first j1 hj
      generalize (f + j - 1) % 7 = q at *
      go_wp2_with (go_at_call 25; refine (HO _).mono ?_; rintro e w' ⟨rfl, rfl⟩)
      go_round
      case rel => exact ⟨j + 1, by omega, by omega, by first | (go_num; done) | (go_num; omega), rfl⟩
      case measure => simp [intOf]; omega
    · obtain rfl : j = letA f := by omega
      rw [letA_mod] at HO
      go_wp2_with (first | (go_at_call 25; refine (HO _).mono ?_; rintro e w' ⟨rfl, rfl⟩) | (go_at_call 22; refine (Hl _).mono ?_; rintro e w' ⟨rfl, rfl⟩))
      exact bodyPost_ret (v := letv (letA f) (letA f) 0) (by simp [results, Tryd.results14, go_sem]) rfl ⟨rfl, S1.out.b⟩
theorem rlet_lp7 (ht : CTab w) (h1 : ¬ c < 1) (h2 : ¬ 2 < c) (Hi : ∀ w, Calls Tryd.prog 15 #[.int .i64 y] w fun e w' => e = .returned (.bool true) ∧ w = w') (H : ∀ w, CTab w → Calls Tryd.prog 23 #[.int .i64 c, dtv y 1 1] w fun e w' => e = .returned (numv f 0) ∧ Below w.heap.size w w') (f1 : -1 ≤ f) (f2 : f ≤ 365249999998) (Hl : ∀ w, Calls Tryd.prog 22 #[.int .i64 c, .int .i64 y] w fun e w' => e = .returned (.bool true) ∧ w = w') (ha : letA f - 1 = 0) : Calls Tryd.prog 14 #[.int .i64 c, .int .i64 y] w fun e w' => e = .returned (letv (letA f) 7 0) ∧ Below w.heap.size w w' := by
  have ab := letA_bd f
  have S0 := Lib.hid (St.start ht)
  clear ht
  go_enter Tryd.func14, Tryd.ntmps14
  go_wp2_with fail
  refine (Hi _).mono ?_
  rintro e wq ⟨rfl, rfl⟩
  go_wp2_with fail
  refine (H _ (S0.out).t).mono ?_
  rintro e w1 ⟨rfl, hb1⟩
  have S1 := Lib.hid ((S0.out).on hb1)
  obtain ⟨hc1, hf1⟩ := bcell hb1
  clear hb1
  go_wp2_with fail
  go_loop [7, 9] (fun n k => ∃ j : Int, 1 ≤ j ∧ j ≤ letA f ∧ n = .int .i64 (f + j - 1) ∧ k = .int .i64 j) (fun _ k => (7 - intOf k).toNat)
  case atStart => exact ⟨1, by omega, ab.1, by simp, rfl⟩
  case round =>
    obtain ⟨j, j1, j2, rfl, rfl⟩ := hrel
    have HO := fun w => rof_any (f + j - 1) w (inR_iff.2 (by omega))
    by_cases hj : j < letA f
    · exfalso; omega
    · obtain rfl : j = letA f := by omega
      rw [letA_mod] at HO
      go_wp2_with (first | (go_at_call 25; refine (HO _).mono ?_; rintro e w' ⟨rfl, rfl⟩) | (go_at_call 22; refine (Hl _).mono ?_; rintro e w' ⟨rfl, rfl⟩))
      exact bodyPost_ret (v := letv (letA f) 7 0) (by simp [results, Tryd.results14, go_sem]) rfl ⟨rfl, S1.out.b⟩
theorem rlet_lp (ht : CTab w) (h1 : ¬ c < 1) (h2 : ¬ 2 < c) (Hi : ∀ w, Calls Tryd.prog 15 #[.int .i64 y] w fun e w' => e = .returned (.bool true) ∧ w = w') (H : ∀ w, CTab w → Calls Tryd.prog 23 #[.int .i64 c, dtv y 1 1] w fun e w' => e = .returned (numv f 0) ∧ Below w.heap.size w w') (f1 : -1 ≤ f) (f2 : f ≤ 365249999998) (Hl : ∀ w, Calls Tryd.prog 22 #[.int .i64 c, .int .i64 y] w fun e w' => e = .returned (.bool true) ∧ w = w') (ha : ¬ letA f - 1 = 0) : Calls Tryd.prog 14 #[.int .i64 c, .int .i64 y] w fun e w' => e = .returned (letv (letA f) (letA f - 1) 0) ∧ Below w.heap.size w w' := by
  have ab := letA_bd f
  have S0 := Lib.hid (St.start ht)
  clear ht
  go_enter Tryd.func14, Tryd.ntmps14
  go_wp2_with fail
  refine (Hi _).mono ?_
  rintro e wq ⟨rfl, rfl⟩
  go_wp2_with fail
  refine (H _ (S0.out).t).mono ?_
  rintro e w1 ⟨rfl, hb1⟩
  have S1 := Lib.hid ((S0.out).on hb1)
  obtain ⟨hc1, hf1⟩ := bcell hb1
  clear hb1
  go_wp2_with fail
  go_loop [7, 9] (fun n k => ∃ j : Int, 1 ≤ j ∧ j ≤ letA f ∧ n = .int .i64 (f + j - 1) ∧ k = .int .i64 j) (fun _ k => (7 - intOf k).toNat)
  case atStart => exact ⟨1, by omega, ab.1, by simp, rfl⟩
  case round =>
    obtain ⟨j, j1, j2, rfl, rfl⟩ := hrel
    have HO := fun w => rof_any (f + j - 1) w (inR_iff.2 (by omega))
    by_cases hj : j < letA f
    · have hne := letA_first j1 hj
      generalize (f + j - 1) % 7 = q at *
      go_wp2_with (go_at_call 25; refine (HO _).mono ?_; rintro e w' ⟨rfl, rfl⟩)
      go_round
      case rel => exact ⟨j + 1, by omega, by omega, by first | (go_num; done) | (go_num; omega), rfl⟩
      case measure => simp [intOf]; omega
    · obtain rfl : j = letA f := by omega
      rw [letA_mod] at HO
      go_wp2_with (first | (go_at_call 25; refine (HO _).mono ?_; rintro e w' ⟨rfl, rfl⟩) | (go_at_call 22; refine (Hl _).mono ?_; rintro e w' ⟨rfl, rfl⟩))
      exact bodyPost_ret (v := letv (letA f) (letA f - 1) 0) (by simp [results, Tryd.results14, go_sem]) rfl ⟨rfl, S1.out.b⟩
end
theorem rlet_any (c y : Int) (w : World) (ht : CTab w) : Calls Tryd.prog 14 #[.int .i64 c, .int .i64 y] w fun e w' => e = .returned (letv (lA c y) (lB c y) (yE c y)) ∧ Below w.heap.size w w' := by
  by_cases h : yE c y = 0
  · obtain ⟨hc, hy, _⟩ := yE_zero h
    obtain ⟨g1, g2⟩ := okC_lo hc
    obtain ⟨t0, t1⟩ := yE_tE h
    have fb := tN_bd c y 1 1
    have HT := fun w ht => r5day_any y 1 1 w c ht
    rw [t0, t1] at HT
    rw [t1] at fb
    have hi := inY_iff.1 hy
    have HL := fun w => r5lp_any c y w hc (inR_iff.2 (by omega))
    have HI := fun w => rin_any y w
    rw [hy] at HI
    have e1 : lA c y = letA ((calOf c).fst y) := by unfold lA; rw [if_pos h]
    have e2 : lB c y = letB ((calOf c).lp y) (letA ((calOf c).fst y)) := by unfold lB; rw [if_pos h]
    have hb := letA_bd ((calOf c).fst y)
    rw [e1, e2, h]
    generalize (calOf c).lp y = l at *
    cases l
    · exact rlet_com c y _ w ht g1 g2 HI HT fb.1 fb.2 HL
    · have hs := letB_seven hb.1 hb.2
      rw [hs]
      by_cases ha : letA ((calOf c).fst y) - 1 = 0
      · rw [if_pos ha]; exact rlet_lp7 c y _ w ht g1 g2 HI HT fb.1 fb.2 HL ha
      · rw [if_neg ha]; exact rlet_lp c y _ w ht g1 g2 HI HT fb.1 fb.2 HL ha
  · have e1 : lA c y = 0 := by unfold lA; rw [if_neg h]
    have e2 : lB c y = 0 := by unfold lB; rw [if_neg h]
    rw [e1, e2]
    cases hc : okC c
    · have e3 : yE c y = 3 := by unfold yE; rw [hc]; rfl
      rw [e3]
      rcases okC_no hc with g | ⟨g, g2⟩
      · exact rlet_no1 c y w ht g
      · exact rlet_no2 c y w ht g g2
    · obtain ⟨g1, g2⟩ := okC_lo hc
      have hy : inY y = false := by
        cases hy : inY y with
        | false => rfl
        | true => exact absurd (by unfold yE; rw [hc, hy]; rfl) h
      have e3 : yE c y = 1 := by unfold yE; rw [hc, hy]; rfl
      rw [e3]
      exact rlet_out c y w ht g1 g2 (fun w => by have := rin_any y w; rw [hy] at this; exact this)
end Go.Proofs.YtclnpnkjldddcaaDoor
