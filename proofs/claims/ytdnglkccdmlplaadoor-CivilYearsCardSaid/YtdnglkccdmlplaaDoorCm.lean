/- The contracts of package computusref05's functions (all but FromYear). -/
import Derived.Test.YtdnglkccdmlplaaDoorCk
namespace Go.Proofs.YtdnglkccdmlplaaDoor
open Go.RowKit

section
variable (y m d : Int) (w : World)
theorem r5day1 (ht : CTab w) : Calls Tryd.prog 10 #[.int .i64 1, dtv y m d] w fun e w' => e = .returned (numv (dN jul y m d) (dE jul y m d)) ∧ Below w.heap.size w w' := by
  have H := fun w => rday_all y m d w
  generalize dN jul y m d = n at *
  generalize dE jul y m d = k at *
  have S0 := Lib.hid (St.start ht)
  clear ht
  go_enter Tryd.func10, Tryd.ntmps10
  go_wp2_with fail
  refine (H _).mono ?_
  rintro e w1 ⟨rfl, hb1⟩
  have S1 := Lib.hid ((S0.out.al _).on hb1)
  obtain ⟨hc1, hf1⟩ := bcell hb1
  clear hb1
  go_wp2_with fail
  go_ret2
  exact ⟨rfl, (S1.out).b⟩
theorem r5day2 (ht : CTab w) : Calls Tryd.prog 10 #[.int .i64 2, dtv y m d] w fun e w' => e = .returned (numv (dN greg y m d) (dE greg y m d)) ∧ Below w.heap.size w w' := by
  have H := fun w => sday_all y m d w
  generalize dN greg y m d = n at *
  generalize dE greg y m d = k at *
  have S0 := Lib.hid (St.start ht)
  clear ht
  go_enter Tryd.func10, Tryd.ntmps10
  go_wp2_with fail
  refine (H _).mono ?_
  rintro e w1 ⟨rfl, hb1⟩
  have S1 := Lib.hid ((S0.out.al _).on hb1)
  obtain ⟨hc1, hf1⟩ := bcell hb1
  clear hb1
  go_wp2_with fail
  go_ret2
  exact ⟨rfl, (S1.out).b⟩
theorem r5day0 (c : Int) (hc : okC c = false) (ht : CTab w) : Calls Tryd.prog 10 #[.int .i64 c, dtv y m d] w fun e w' => e = .returned (numv 0 3) ∧ Below w.heap.size w w' := by
  have h1 : (c == 1) = false := by cases g : c == 1 <;> simp_all [okC]
  have h2 : (c == 2) = false := by cases g : c == 2 <;> simp_all [okC]
  clear hc
  have S0 := Lib.hid (St.start ht)
  clear ht
  go_enter Tryd.func10, Tryd.ntmps10
  go_wp2_with fail
  go_ret2
  exact ⟨rfl, (S0.out.al _).b⟩
theorem r5day_any (c : Int) (ht : CTab w) : Calls Tryd.prog 10 #[.int .i64 c, dtv y m d] w fun e w' => e = .returned (numv (tN c y m d) (tE c y m d)) ∧ Below w.heap.size w w' := by
  by_cases h1 : c = 1
  · subst h1; exact r5day1 y m d w ht
  · by_cases h2 : c = 2
    · subst h2; exact r5day2 y m d w ht
    · have h := okC_not h1 h2
      rw [(tE_no y m d h).1, (tE_no y m d h).2]; exact r5day0 y m d w c h ht
end
section
variable (n : Int) (w : World)
theorem r5from1 (ht : CTab w) : Calls Tryd.prog 12 #[.int .i64 1, .int .i64 n] w fun e w' => e = .returned (datv (dt jul n).1 (dt jul n).2.1 (dt jul n).2.2 (dF jul n)) ∧ Below w.heap.size w w' := by
  have H := fun w => rfrom_all n w
  generalize (dt jul n).1 = y at *
  generalize (dt jul n).2.1 = m at *
  generalize (dt jul n).2.2 = d at *
  generalize dF jul n = k at *
  have S0 := Lib.hid (St.start ht)
  clear ht
  go_enter Tryd.func12, Tryd.ntmps12
  go_wp2_with fail
  refine (H _).mono ?_
  rintro e w1 ⟨rfl, hb1⟩
  have S1 := Lib.hid ((S0.out.al _).on hb1)
  have Rr_1 := Lib.hid (row_on (b := w.heap.size) (o := zdate) (heap_alloc_new _ _) hb1)
  obtain ⟨hc1, hf1⟩ := bcell hb1
  have hz1_0 : w.heap.size < w1.heap.size := by have := hb1.size; (try simp at this); omega
  clear hb1
  go_wp2_with fail
  generalize hu : (((w1.setCell ⟨w.heap.size, 0, none⟩ (.int .i64 y)).setCell ⟨w.heap.size, 1, none⟩ (.int .i64 m)).setCell ⟨w.heap.size, 2, none⟩ (.int .i64 d)) = u
  obtain ⟨k0, k1, k2⟩ := three_set _ _ _ Rr_1.out hu
  have Hb := Lib.hid (below_set3 S1.out.b (by omega) _ _ _ hu)
  clear hu
  exact bodyPost_ret (v := datv (y) (m) (d) (k)) (by simp [results, Tryd.results12, go_sem, k0, k1, k2]) rfl ⟨rfl, Hb.out⟩
theorem r5from2 (ht : CTab w) : Calls Tryd.prog 12 #[.int .i64 2, .int .i64 n] w fun e w' => e = .returned (datv (dt greg n).1 (dt greg n).2.1 (dt greg n).2.2 (dF greg n)) ∧ Below w.heap.size w w' := by
  have H := fun w => sfrom_all n w
  generalize (dt greg n).1 = y at *
  generalize (dt greg n).2.1 = m at *
  generalize (dt greg n).2.2 = d at *
  generalize dF greg n = k at *
  have S0 := Lib.hid (St.start ht)
  clear ht
  go_enter Tryd.func12, Tryd.ntmps12
  go_wp2_with fail
  refine (H _).mono ?_
  rintro e w1 ⟨rfl, hb1⟩
  have S1 := Lib.hid ((S0.out.al _).on hb1)
  have Rr_1 := Lib.hid (row_on (b := w.heap.size) (o := zdate) (heap_alloc_new _ _) hb1)
  obtain ⟨hc1, hf1⟩ := bcell hb1
  have hz1_0 : w.heap.size < w1.heap.size := by have := hb1.size; (try simp at this); omega
  clear hb1
  go_wp2_with fail
  generalize hu : (((w1.setCell ⟨w.heap.size, 0, none⟩ (.int .i64 y)).setCell ⟨w.heap.size, 1, none⟩ (.int .i64 m)).setCell ⟨w.heap.size, 2, none⟩ (.int .i64 d)) = u
  obtain ⟨k0, k1, k2⟩ := three_set _ _ _ Rr_1.out hu
  have Hb := Lib.hid (below_set3 S1.out.b (by omega) _ _ _ hu)
  clear hu
  exact bodyPost_ret (v := datv (y) (m) (d) (k)) (by simp [results, Tryd.results12, go_sem, k0, k1, k2]) rfl ⟨rfl, Hb.out⟩
theorem r5from0 (c : Int) (hc : okC c = false) (ht : CTab w) : Calls Tryd.prog 12 #[.int .i64 c, .int .i64 n] w fun e w' => e = .returned (datv 0 0 0 3) ∧ Below w.heap.size w w' := by
  have h1 : (c == 1) = false := by cases g : c == 1 <;> simp_all [okC]
  have h2 : (c == 2) = false := by cases g : c == 2 <;> simp_all [okC]
  clear hc
  have S0 := Lib.hid (St.start ht)
  clear ht
  go_enter Tryd.func12, Tryd.ntmps12
  go_wp2_with fail
  exact bodyPost_ret (v := datv 0 0 0 3) (by simp [results, Tryd.results12, go_sem]) rfl ⟨rfl, (S0.out.al _).b⟩
theorem r5from_any (c : Int) (ht : CTab w) : Calls Tryd.prog 12 #[.int .i64 c, .int .i64 n] w fun e w' => e = .returned (datv (fY c n) (fM c n) (fD c n) (fE c n)) ∧ Below w.heap.size w w' := by
  by_cases h1 : c = 1
  · subst h1; exact r5from1 n w ht
  · by_cases h2 : c = 2
    · subst h2; exact r5from2 n w ht
    · have h := okC_not h1 h2
      obtain ⟨a, b, e, f⟩ := f_bad n h
      rw [a, b, e, f]; exact r5from0 n w c h ht
end
/-! Leap -/
theorem r5lp1 (y : Int) (w : World) (hy : inR y = true) : Calls Tryd.prog 26 #[.int .i64 1, .int .i64 y] w fun e w' => e = .returned (.bool (jlp y)) ∧ w = w' := by
  have H := fun w => rleap_any y w hy
  clear hy
  go_enter Tryd.func26, Tryd.ntmps26
  go_wp2_with fail
  refine (H _).mono ?_
  rintro e w' ⟨rfl, rfl⟩
  go_wp2_with fail
  go_ret
  exact ⟨rfl, rfl⟩
theorem r5lp2 (y : Int) (w : World) (hy : inR y = true) : Calls Tryd.prog 26 #[.int .i64 2, .int .i64 y] w fun e w' => e = .returned (.bool (glp y)) ∧ w = w' := by
  have H := fun w => sleap_any y w hy
  clear hy
  go_enter Tryd.func26, Tryd.ntmps26
  go_wp2_with fail
  refine (H _).mono ?_
  rintro e w' ⟨rfl, rfl⟩
  go_wp2_with fail
  go_ret
  exact ⟨rfl, rfl⟩
theorem r5lp_any (c y : Int) (w : World) (hc : okC c = true) (hy : inR y = true) : Calls Tryd.prog 26 #[.int .i64 c, .int .i64 y] w fun e w' => e = .returned (.bool ((calOf c).lp y)) ∧ w = w' := by
  rcases okC_iff.1 hc with rfl | rfl
  · exact r5lp1 y w hy
  · exact r5lp2 y w hy

section
variable (y m d a n k : Int) (w : World)
theorem r5cv_no1 (b : Int) (h1 : a < 1) (ht : CTab w) : Calls Tryd.prog 14 #[dtv y m d, .int .i64 a, .int .i64 b] w fun e w' => e = .returned (datv 0 0 0 3) ∧ Below w.heap.size w w' := by
  have S0 := Lib.hid (St.start ht)
  clear ht
  go_enter Tryd.func14, Tryd.ntmps14
  go_wp2_with fail
  exact bodyPost_ret (v := datv 0 0 0 3) (by simp [results, Tryd.results14, go_sem]) rfl ⟨rfl, ((S0.out.al _).al _).b⟩
theorem r5cv_no2 (b : Int) (h1 : ¬ a < 1) (h2 : 2 < a) (ht : CTab w) : Calls Tryd.prog 14 #[dtv y m d, .int .i64 a, .int .i64 b] w fun e w' => e = .returned (datv 0 0 0 3) ∧ Below w.heap.size w w' := by
  have S0 := Lib.hid (St.start ht)
  clear ht
  go_enter Tryd.func14, Tryd.ntmps14
  go_wp2_with fail
  exact bodyPost_ret (v := datv 0 0 0 3) (by simp [results, Tryd.results14, go_sem]) rfl ⟨rfl, ((S0.out.al _).al _).b⟩
theorem r5cv_no3 (b : Int) (h1 : ¬ a < 1) (h2 : ¬ 2 < a) (h3 : b < 1) (ht : CTab w) : Calls Tryd.prog 14 #[dtv y m d, .int .i64 a, .int .i64 b] w fun e w' => e = .returned (datv 0 0 0 3) ∧ Below w.heap.size w w' := by
  have S0 := Lib.hid (St.start ht)
  clear ht
  go_enter Tryd.func14, Tryd.ntmps14
  go_wp2_with fail
  exact bodyPost_ret (v := datv 0 0 0 3) (by simp [results, Tryd.results14, go_sem]) rfl ⟨rfl, ((S0.out.al _).al _).b⟩
theorem r5cv_no4 (b : Int) (h1 : ¬ a < 1) (h2 : ¬ 2 < a) (h3 : ¬ b < 1) (h4 : 2 < b) (ht : CTab w) : Calls Tryd.prog 14 #[dtv y m d, .int .i64 a, .int .i64 b] w fun e w' => e = .returned (datv 0 0 0 3) ∧ Below w.heap.size w w' := by
  have S0 := Lib.hid (St.start ht)
  clear ht
  go_enter Tryd.func14, Tryd.ntmps14
  go_wp2_with fail
  exact bodyPost_ret (v := datv 0 0 0 3) (by simp [results, Tryd.results14, go_sem]) rfl ⟨rfl, ((S0.out.al _).al _).b⟩
theorem r5cv_err (b : Int) (h1 : ¬ a < 1) (h2 : ¬ 2 < a) (h3 : ¬ b < 1) (h4 : ¬ 2 < b) (ht : CTab w) (H : ∀ w, CTab w → Calls Tryd.prog 10 #[.int .i64 a, dtv y m d] w fun e w' => e = .returned (numv n k) ∧ Below w.heap.size w w') (hk : (k != 0) = true) : Calls Tryd.prog 14 #[dtv y m d, .int .i64 a, .int .i64 b] w fun e w' => e = .returned (datv 0 0 0 k) ∧ Below w.heap.size w w' := by
  have S0 := Lib.hid (St.start ht)
  clear ht
  go_enter Tryd.func14, Tryd.ntmps14
  go_wp2_with fail
  refine (H _ ((S0.out.al _).al _).t).mono ?_
  rintro e w1 ⟨rfl, hb1⟩
  have S1 := Lib.hid (((S0.out.al _).al _).on hb1)
  have Rr_1 := Lib.hid (row_on (b := w.heap.size + 1) (o := zdate) (row_new1 _ _ _) hb1)
  obtain ⟨hc1, hf1⟩ := bcell hb1
  have hz1_0 : w.heap.size < w1.heap.size := by have := hb1.size; (try simp at this); omega
  have hz1_1 : w.heap.size + 1 < w1.heap.size := by have := hb1.size; (try simp at this); omega
  clear hb1
  go_wp2_with fail
  generalize hu : (((w1.setCell ⟨w.heap.size + 1, 0, none⟩ (.int .i64 0)).setCell ⟨w.heap.size + 1, 1, none⟩ (.int .i64 0)).setCell ⟨w.heap.size + 1, 2, none⟩ (.int .i64 0)) = u
  obtain ⟨k0, k1, k2⟩ := three_set _ _ _ Rr_1.out hu
  have Hb := Lib.hid (below_set3 S1.out.b (by omega) _ _ _ hu)
  clear hu
  exact bodyPost_ret (v := datv (0) (0) (0) (k)) (by simp [results, Tryd.results14, go_sem, k0, k1, k2]) rfl ⟨rfl, Hb.out⟩
theorem r5cv_ok (b y' m' d' k' : Int) (h1 : ¬ a < 1) (h2 : ¬ 2 < a) (h3 : ¬ b < 1) (h4 : ¬ 2 < b) (ht : CTab w) (H : ∀ w, CTab w → Calls Tryd.prog 10 #[.int .i64 a, dtv y m d] w fun e w' => e = .returned (numv n 0) ∧ Below w.heap.size w w') (H1 : ∀ w, CTab w → Calls Tryd.prog 12 #[.int .i64 b, .int .i64 n] w fun e w' => e = .returned (datv y' m' d' k') ∧ Below w.heap.size w w') : Calls Tryd.prog 14 #[dtv y m d, .int .i64 a, .int .i64 b] w fun e w' => e = .returned (datv y' m' d' k') ∧ Below w.heap.size w w' := by
  have S0 := Lib.hid (St.start ht)
  clear ht
  go_enter Tryd.func14, Tryd.ntmps14
  go_wp2_with fail
  refine (H _ ((S0.out.al _).al _).t).mono ?_
  rintro e w1 ⟨rfl, hb1⟩
  have S1 := Lib.hid (((S0.out.al _).al _).on hb1)
  have Rr_1 := Lib.hid (row_on (b := w.heap.size + 1) (o := zdate) (row_new1 _ _ _) hb1)
  obtain ⟨hc1, hf1⟩ := bcell hb1
  have hz1_0 : w.heap.size < w1.heap.size := by have := hb1.size; (try simp at this); omega
  have hz1_1 : w.heap.size + 1 < w1.heap.size := by have := hb1.size; (try simp at this); omega
  clear hb1
  go_wp2_with fail
  refine (H1 _ (S1.out).t).mono ?_
  rintro e w2 ⟨rfl, hb2⟩
  have S2 := Lib.hid ((S1.out).on hb2)
  have Rr_2 := Lib.hid (row_on Rr_1.out hb2)
  obtain ⟨hc2, hf2⟩ := bcell hb2
  have hz2_0 : w.heap.size < w2.heap.size := by have := hb2.size; (try simp at this); omega
  have hz2_1 : w.heap.size + 1 < w2.heap.size := by have := hb2.size; (try simp at this); omega
  clear hb2
  go_wp2_with fail
  generalize hu : (((w2.setCell ⟨w.heap.size + 1, 0, none⟩ (.int .i64 y')).setCell ⟨w.heap.size + 1, 1, none⟩ (.int .i64 m')).setCell ⟨w.heap.size + 1, 2, none⟩ (.int .i64 d')) = u
  obtain ⟨k0, k1, k2⟩ := three_set _ _ _ Rr_2.out hu
  have Hb := Lib.hid (below_set3 S2.out.b (by omega) _ _ _ hu)
  clear hu
  exact bodyPost_ret (v := datv (y') (m') (d') (k')) (by simp [results, Tryd.results14, go_sem, k0, k1, k2]) rfl ⟨rfl, Hb.out⟩
theorem r5sh_err (s : Int) (ht : CTab w) (H : ∀ w, CTab w → Calls Tryd.prog 10 #[.int .i64 a, dtv y m d] w fun e w' => e = .returned (numv n k) ∧ Below w.heap.size w w') (hk : (k != 0) = true) : Calls Tryd.prog 22 #[.int .i64 a, dtv y m d, .int .i64 s] w fun e w' => e = .returned (datv 0 0 0 k) ∧ Below w.heap.size w w' := by
  have S0 := Lib.hid (St.start ht)
  clear ht
  go_enter Tryd.func22, Tryd.ntmps22
  go_wp2_with fail
  refine (H _ ((S0.out.al _).al _).t).mono ?_
  rintro e w1 ⟨rfl, hb1⟩
  have S1 := Lib.hid (((S0.out.al _).al _).on hb1)
  have Rr_1 := Lib.hid (row_on (b := w.heap.size + 1) (o := zdate) (row_new1 _ _ _) hb1)
  obtain ⟨hc1, hf1⟩ := bcell hb1
  have hz1_0 : w.heap.size + 1 < w1.heap.size := by have := hb1.size; (try simp at this); omega
  clear hb1
  go_wp2_with fail
  generalize hu : (((w1.setCell ⟨w.heap.size + 1, 0, none⟩ (.int .i64 0)).setCell ⟨w.heap.size + 1, 1, none⟩ (.int .i64 0)).setCell ⟨w.heap.size + 1, 2, none⟩ (.int .i64 0)) = u
  obtain ⟨k0, k1, k2⟩ := three_set _ _ _ Rr_1.out hu
  have Hb := Lib.hid (below_set3 S1.out.b (by omega) _ _ _ hu)
  clear hu
  exact bodyPost_ret (v := datv (0) (0) (0) (k)) (by simp [results, Tryd.results22, go_sem, k0, k1, k2]) rfl ⟨rfl, Hb.out⟩
theorem r5sh_low (s : Int) (ht : CTab w) (H : ∀ w, CTab w → Calls Tryd.prog 10 #[.int .i64 a, dtv y m d] w fun e w' => e = .returned (numv n 0) ∧ Below w.heap.size w w') (hs : s < -1000000000000) : Calls Tryd.prog 22 #[.int .i64 a, dtv y m d, .int .i64 s] w fun e w' => e = .returned (datv 0 0 0 1) ∧ Below w.heap.size w w' := by
  have S0 := Lib.hid (St.start ht)
  clear ht
  go_enter Tryd.func22, Tryd.ntmps22
  go_wp2_with fail
  refine (H _ ((S0.out.al _).al _).t).mono ?_
  rintro e w1 ⟨rfl, hb1⟩
  have S1 := Lib.hid (((S0.out.al _).al _).on hb1)
  have Rr_1 := Lib.hid (row_on (b := w.heap.size + 1) (o := zdate) (row_new1 _ _ _) hb1)
  obtain ⟨hc1, hf1⟩ := bcell hb1
  have hz1_0 : w.heap.size + 1 < w1.heap.size := by have := hb1.size; (try simp at this); omega
  clear hb1
  go_wp2_with fail
  generalize hu : (((w1.setCell ⟨w.heap.size + 1, 0, none⟩ (.int .i64 0)).setCell ⟨w.heap.size + 1, 1, none⟩ (.int .i64 0)).setCell ⟨w.heap.size + 1, 2, none⟩ (.int .i64 0)) = u
  obtain ⟨k0, k1, k2⟩ := three_set _ _ _ Rr_1.out hu
  have Hb := Lib.hid (below_set3 S1.out.b (by omega) _ _ _ hu)
  clear hu
  exact bodyPost_ret (v := datv (0) (0) (0) (1)) (by simp [results, Tryd.results22, go_sem, k0, k1, k2]) rfl ⟨rfl, Hb.out⟩
theorem r5sh_high (s : Int) (ht : CTab w) (H : ∀ w, CTab w → Calls Tryd.prog 10 #[.int .i64 a, dtv y m d] w fun e w' => e = .returned (numv n 0) ∧ Below w.heap.size w w') (hs0 : ¬ s < -1000000000000) (hs : 1000000000000 < s) : Calls Tryd.prog 22 #[.int .i64 a, dtv y m d, .int .i64 s] w fun e w' => e = .returned (datv 0 0 0 1) ∧ Below w.heap.size w w' := by
  have S0 := Lib.hid (St.start ht)
  clear ht
  go_enter Tryd.func22, Tryd.ntmps22
  go_wp2_with fail
  refine (H _ ((S0.out.al _).al _).t).mono ?_
  rintro e w1 ⟨rfl, hb1⟩
  have S1 := Lib.hid (((S0.out.al _).al _).on hb1)
  have Rr_1 := Lib.hid (row_on (b := w.heap.size + 1) (o := zdate) (row_new1 _ _ _) hb1)
  obtain ⟨hc1, hf1⟩ := bcell hb1
  have hz1_0 : w.heap.size + 1 < w1.heap.size := by have := hb1.size; (try simp at this); omega
  clear hb1
  go_wp2_with fail
  generalize hu : (((w1.setCell ⟨w.heap.size + 1, 0, none⟩ (.int .i64 0)).setCell ⟨w.heap.size + 1, 1, none⟩ (.int .i64 0)).setCell ⟨w.heap.size + 1, 2, none⟩ (.int .i64 0)) = u
  obtain ⟨k0, k1, k2⟩ := three_set _ _ _ Rr_1.out hu
  have Hb := Lib.hid (below_set3 S1.out.b (by omega) _ _ _ hu)
  clear hu
  exact bodyPost_ret (v := datv (0) (0) (0) (1)) (by simp [results, Tryd.results22, go_sem, k0, k1, k2]) rfl ⟨rfl, Hb.out⟩
theorem r5sh_ok (s y' m' d' k' : Int) (ht : CTab w) (H : ∀ w, CTab w → Calls Tryd.prog 10 #[.int .i64 a, dtv y m d] w fun e w' => e = .returned (numv n 0) ∧ Below w.heap.size w w') (hs0 : -1000000000000 ≤ s) (hs : s ≤ 1000000000000) (n1 : -1 ≤ n) (n2 : n ≤ 365249999998) (H1 : ∀ w, CTab w → Calls Tryd.prog 12 #[.int .i64 a, .int .i64 (n + s)] w fun e w' => e = .returned (datv y' m' d' k') ∧ Below w.heap.size w w') : Calls Tryd.prog 22 #[.int .i64 a, dtv y m d, .int .i64 s] w fun e w' => e = .returned (datv y' m' d' k') ∧ Below w.heap.size w w' := by
  have S0 := Lib.hid (St.start ht)
  clear ht
  go_enter Tryd.func22, Tryd.ntmps22
  go_wp2_with fail
  refine (H _ ((S0.out.al _).al _).t).mono ?_
  rintro e w1 ⟨rfl, hb1⟩
  have S1 := Lib.hid (((S0.out.al _).al _).on hb1)
  have Rr_1 := Lib.hid (row_on (b := w.heap.size + 1) (o := zdate) (row_new1 _ _ _) hb1)
  obtain ⟨hc1, hf1⟩ := bcell hb1
  have hz1_0 : w.heap.size + 1 < w1.heap.size := by have := hb1.size; (try simp at this); omega
  clear hb1
  go_wp2_with fail
  refine (H1 _ (S1.out).t).mono ?_
  rintro e w2 ⟨rfl, hb2⟩
  have S2 := Lib.hid ((S1.out).on hb2)
  have Rr_2 := Lib.hid (row_on Rr_1.out hb2)
  obtain ⟨hc2, hf2⟩ := bcell hb2
  have hz2_0 : w.heap.size + 1 < w2.heap.size := by have := hb2.size; (try simp at this); omega
  clear hb2
  go_wp2_with fail
  generalize hu : (((w2.setCell ⟨w.heap.size + 1, 0, none⟩ (.int .i64 y')).setCell ⟨w.heap.size + 1, 1, none⟩ (.int .i64 m')).setCell ⟨w.heap.size + 1, 2, none⟩ (.int .i64 d')) = u
  obtain ⟨k0, k1, k2⟩ := three_set _ _ _ Rr_2.out hu
  have Hb := Lib.hid (below_set3 S2.out.b (by omega) _ _ _ hu)
  clear hu
  exact bodyPost_ret (v := datv (y') (m') (d') (k')) (by simp [results, Tryd.results22, go_sem, k0, k1, k2]) rfl ⟨rfl, Hb.out⟩
theorem r5yl_no1 (h1 : a < 1) (ht : CTab w) : Calls Tryd.prog 20 #[.int .i64 a, .int .i64 y] w fun e w' => e = .returned (numv 0 3) ∧ Below w.heap.size w w' := by
  have S0 := Lib.hid (St.start ht)
  clear ht
  go_enter Tryd.func20, Tryd.ntmps20
  go_wp2_with fail
  go_ret2
  exact ⟨rfl, (S0.out).b⟩
theorem r5yl_no2 (h1 : ¬ a < 1) (h2 : 2 < a) (ht : CTab w) : Calls Tryd.prog 20 #[.int .i64 a, .int .i64 y] w fun e w' => e = .returned (numv 0 3) ∧ Below w.heap.size w w' := by
  have S0 := Lib.hid (St.start ht)
  clear ht
  go_enter Tryd.func20, Tryd.ntmps20
  go_wp2_with fail
  go_ret2
  exact ⟨rfl, (S0.out).b⟩
theorem r5yl_out (h1 : ¬ a < 1) (h2 : ¬ 2 < a) (Hi : ∀ w, Calls Tryd.prog 34 #[.int .i64 y] w fun e w' => e = .returned (.bool false) ∧ w = w') (ht : CTab w) : Calls Tryd.prog 20 #[.int .i64 a, .int .i64 y] w fun e w' => e = .returned (numv 0 1) ∧ Below w.heap.size w w' := by
  have S0 := Lib.hid (St.start ht)
  clear ht
  go_enter Tryd.func20, Tryd.ntmps20
  go_wp2_with fail
  refine (Hi _).mono ?_
  rintro e wq ⟨rfl, rfl⟩
  go_wp2_with fail
  go_ret2
  exact ⟨rfl, (S0.out).b⟩
theorem r5yl_true (h1 : ¬ a < 1) (h2 : ¬ 2 < a) (Hi : ∀ w, Calls Tryd.prog 34 #[.int .i64 y] w fun e w' => e = .returned (.bool true) ∧ w = w') (Hl : ∀ w, Calls Tryd.prog 26 #[.int .i64 a, .int .i64 y] w fun e w' => e = .returned (.bool true) ∧ w = w') (ht : CTab w) : Calls Tryd.prog 20 #[.int .i64 a, .int .i64 y] w fun e w' => e = .returned (numv 366 0) ∧ Below w.heap.size w w' := by
  have S0 := Lib.hid (St.start ht)
  clear ht
  go_enter Tryd.func20, Tryd.ntmps20
  go_wp2_with fail
  refine (Hi _).mono ?_
  rintro e wq ⟨rfl, rfl⟩
  go_wp2_with fail
  refine (Hl _).mono ?_
  rintro e wq ⟨rfl, rfl⟩
  go_wp2_with fail
  go_ret2
  exact ⟨rfl, (S0.out).b⟩
theorem r5yl_false (h1 : ¬ a < 1) (h2 : ¬ 2 < a) (Hi : ∀ w, Calls Tryd.prog 34 #[.int .i64 y] w fun e w' => e = .returned (.bool true) ∧ w = w') (Hl : ∀ w, Calls Tryd.prog 26 #[.int .i64 a, .int .i64 y] w fun e w' => e = .returned (.bool false) ∧ w = w') (ht : CTab w) : Calls Tryd.prog 20 #[.int .i64 a, .int .i64 y] w fun e w' => e = .returned (numv 365 0) ∧ Below w.heap.size w w' := by
  have S0 := Lib.hid (St.start ht)
  clear ht
  go_enter Tryd.func20, Tryd.ntmps20
  go_wp2_with fail
  refine (Hi _).mono ?_
  rintro e wq ⟨rfl, rfl⟩
  go_wp2_with fail
  refine (Hl _).mono ?_
  rintro e wq ⟨rfl, rfl⟩
  go_wp2_with fail
  go_ret2
  exact ⟨rfl, (S0.out).b⟩
theorem r5oy_err (ht : CTab w) (H : ∀ w, CTab w → Calls Tryd.prog 10 #[.int .i64 a, dtv y m d] w fun e w' => e = .returned (numv n k) ∧ Below w.heap.size w w') (hk : (k != 0) = true) : Calls Tryd.prog 16 #[.int .i64 a, dtv y m d] w fun e w' => e = .returned (numv 0 k) ∧ Below w.heap.size w w' := by
  have S0 := Lib.hid (St.start ht)
  clear ht
  go_enter Tryd.func16, Tryd.ntmps16
  go_wp2_with fail
  refine (H _ (S0.out.al _).t).mono ?_
  rintro e w1 ⟨rfl, hb1⟩
  have S1 := Lib.hid ((S0.out.al _).on hb1)
  obtain ⟨hc1, hf1⟩ := bcell hb1
  clear hb1
  go_wp2_with fail
  go_ret2
  exact ⟨rfl, (S1.out).b⟩
theorem r5oy_ok (l : Bool) (m1 : 1 ≤ m) (m2 : m ≤ 12) (d1 : 1 ≤ d) (d2 : d ≤ 31) (ht : CTab w) (H : ∀ w, CTab w → Calls Tryd.prog 10 #[.int .i64 a, dtv y m d] w fun e w' => e = .returned (numv n 0) ∧ Below w.heap.size w w') (Hl : ∀ w, Calls Tryd.prog 26 #[.int .i64 a, .int .i64 y] w fun e w' => e = .returned (.bool l) ∧ w = w') : Calls Tryd.prog 16 #[.int .i64 a, dtv y m d] w fun e w' => e = .returned (numv (cum l m + d) 0) ∧ Below w.heap.size w w' := by
  have S0 := Lib.hid (St.start ht)
  clear ht
  go_enter Tryd.func16, Tryd.ntmps16
  go_wp2_with fail
  refine (H _ (S0.out.al _).t).mono ?_
  rintro e w1 ⟨rfl, hb1⟩
  have S1 := Lib.hid ((S0.out.al _).on hb1)
  obtain ⟨hc1, hf1⟩ := bcell hb1
  have hz1_0 : w.heap.size < w1.heap.size := by have := hb1.size; (try simp at this); omega
  clear hb1
  go_wp2_with fail
  go_loop [8, 9] (fun v k => ∃ j : Int, 1 ≤ j ∧ j ≤ m ∧ k = .int .i64 j ∧ v = .int .i64 (cum l j + d)) (fun _ k => (12 - intOf k).toNat)
  case atStart => exact ⟨1, by omega, m1, rfl, by rw [cum_one]; simp⟩
  case round =>
    obtain ⟨j, j1, j2, rfl, rfl⟩ := hrel
    have cb := cum_bd l j j1 (by omega)
    have db := dim_bd l j j1 (by omega)
    have cs := Lib.hid (cum_succ l j j1 (by omega))
    by_cases hlt : j < m
    · go_wp2_with (first | (go_at_call 26; refine (Hl _).mono ?_; rintro e w' ⟨rfl, rfl⟩) | (go_at_call 33; refine (rlen_any l j _).mono ?_; rintro e w' ⟨rfl, rfl⟩))
      go_round
      case rel => exact ⟨j + 1, by omega, by omega, rfl, by rw [cs.out]; go_num⟩
      case measure => simp [intOf]; omega
    · obtain rfl : j = m := by omega
      go_wp2_with fail
      go_ret2
      exact ⟨rfl, S1.out.b⟩
end
end Go.Proofs.YtdnglkccdmlplaaDoor
