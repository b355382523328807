/- The contracts of package civil's functions, whatever the calendar and the date. -/
import Derived.Test.YtdnglkccdmlplaaDoorCj
namespace Go.Proofs.YtdnglkccdmlplaaDoor
open Go.RowKit

/-! plain facts -/
theorem tE_first {c y m d : Int} (h : tE c y m d = 0) : tE c y 1 1 = 0 ∧ tN c y 1 1 = (calOf c).fst y ∧ tN c y m d - tN c y 1 1 + 1 = cum ((calOf c).lp y) m + d := by
  obtain ⟨hc, hv, hn⟩ := tE_zero h
  have hy := (calOf c).vld_iff.1 hv
  have hv1 : (calOf c).vld y 1 1 = true := (calOf c).vld_iff.2 ⟨hy.1, hy.2.1, by omega, by have := dim_bd ((calOf c).lp y) 1 (by omega) (by omega); omega⟩
  obtain ⟨a, b⟩ := tE_at hc hv1
  have e1 : (calOf c).num y 1 1 = (calOf c).fst y := by unfold Cal.num; rw [cum_one]; omega
  refine ⟨a, b.trans e1, ?_⟩
  rw [b, e1, hn]; unfold Cal.num; omega
theorem yE_last (c y : Int) : tE c y 12 31 = yE c y := by
  unfold tE yE; split
  · unfold dE; split
    · rename_i g
      have g := inY_iff.1 g
      have hd : dim ((calOf c).lp y) 12 = 31 := by cases (calOf c).lp y <;> rfl
      rw [if_pos ((calOf c).vld_iff.2 ⟨g.1, g.2, by omega, by omega⟩)]
    · rfl
  · rfl
theorem yN_last (c y : Int) : oN c y 12 31 = yN c y := by
  unfold oN yN; rw [yE_last]; split
  · have e2 := cum_end ((calOf c).lp y)
    have e1 := cum_succ ((calOf c).lp y) 12 (by omega) (by omega)
    have hd : dim ((calOf c).lp y) 12 = 31 := by cases (calOf c).lp y <;> rfl
    rw [show (12 : Int) + 1 = 13 from rfl] at e1; omega
  · rfl
theorem f_wrap (c n s : Int) (n1 : -1 ≤ n) (n2 : n ≤ 365249999998) (hs : inR s = true) : fE c (wrap64 (n + s)) = fE c (n + s) ∧ fY c (wrap64 (n + s)) = fY c (n + s) ∧ fM c (wrap64 (n + s)) = fM c (n + s) ∧ fD c (wrap64 (n + s)) = fD c (n + s) := by
  have hs := inR_iff.1 hs
  by_cases h : n + s ≤ 9223372036854775807 ∧ -9223372036854775808 ≤ n + s
  · rw [show wrap64 (n + s) = n + s from by unfold wrap64; omega]; exact ⟨rfl, rfl, rfl, rfl⟩
  · exact f_far (by unfold wrap64; omega) (by omega)
theorem yN_bd (c y : Int) : yN c y ≤ 366 := by
  unfold yN; have := l01_bd ((calOf c).lp y); split <;> omega
theorem yE_zero {c y : Int} (h : yE c y = 0) : okC c = true ∧ inY y = true ∧ yN c y = 365 + l01 ((calOf c).lp y) := by
  have h0 := h
  unfold yE at h; split at h
  · rename_i g
    split at h
    · rename_i g2; exact ⟨g, g2, by unfold yN; rw [if_pos h0]⟩
    · cases h
  · cases h
theorem yE_tE {c y : Int} (h : yE c y = 0) : tE c y 1 1 = 0 ∧ tN c y 1 1 = (calOf c).fst y := by
  rw [← yE_last] at h
  obtain ⟨a, b, _⟩ := tE_first h
  exact ⟨a, b⟩
theorem tE_ne {k : Int} (h : ¬ k = 0) : (k != 0) = true := by simpa using h

/-! Convert -/
section
variable (y m d a n k : Int) (w : World)
theorem ccv_no (b : Int) (hb : okC b = false) (ht : CTab w) : Calls Tryd.prog 13 #[dtv y m d, .int .i64 a, .int .i64 b] w fun e w' => e = .returned (datv 0 0 0 3) ∧ Below w.heap.size w w' := by
  have hn := hsn
  have H0 := fun w => choose0 b w hb
  have S0 := Lib.hid (St.start ht)
  clear ht
  go_enter Tryd.func13, Tryd.ntmps13
  go_wp2_with fail
  refine (H0 _).mono ?_
  rintro e w1 ⟨rfl, hb1⟩
  have S1 := Lib.hid (((S0.out.al _).al _).on hb1)
  have Rr_1 := Lib.hid (row_on (b := w.heap.size + 1) (o := zdate) (row_new1 _ _ _) hb1)
  obtain ⟨hc1, hf1⟩ := bcell hb1
  have hz1_0 : w.heap.size < w1.heap.size := by have := hb1.size; (try simp at this); omega
  have hz1_1 : w.heap.size + 1 < w1.heap.size := by have := hb1.size; (try simp at this); omega
  clear hb1
  go_wp2_with fail
  generalize hu : (((w1.setCell ⟨w.heap.size + 1, 0, none⟩ (.int .i64 0)).setCell ⟨w.heap.size + 1, 1, none⟩ (.int .i64 0)).setCell ⟨w.heap.size + 1, 2, none⟩ (.int .i64 0)).alloc (.cells #[.nilFunc, .nilFunc] 54) = u
  obtain ⟨k0, k1, k2, kb⟩ := three_al _ _ _ Rr_1.out hu
  have Hb := Lib.hid (kb _ S1.out.b (by omega))
  clear hu
  exact bodyPost_ret (v := datv (0) (0) (0) (3)) (by simp [results, Tryd.results13, go_sem, k0, k1, k2]) rfl ⟨rfl, Hb.out⟩
theorem ccv_err1 (ht : CTab w) (H : ∀ w, CTab w → Calls Tryd.prog 9 #[.int .i64 a, dtv y m d] w fun e w' => e = .returned (numv n k) ∧ Below w.heap.size w w') (hk : (k != 0) = true) : Calls Tryd.prog 13 #[dtv y m d, .int .i64 a, .int .i64 1] w fun e w' => e = .returned (datv 0 0 0 k) ∧ Below w.heap.size w w' := by
  have hn := hst
  have S0 := Lib.hid (St.start ht)
  clear ht
  go_enter Tryd.func13, Tryd.ntmps13
  go_wp2_with fail
  refine (choose1 _).mono ?_
  rintro e w1 ⟨rfl, hb1⟩
  have S1 := Lib.hid (((S0.out.al _).al _).on hb1)
  have Rr_1 := Lib.hid (row_on (b := w.heap.size + 1) (o := zdate) (row_new1 _ _ _) hb1)
  obtain ⟨hc1, hf1⟩ := bcell hb1
  have hz1_0 : w.heap.size < w1.heap.size := by have := hb1.size; (try simp at this); omega
  have hz1_1 : w.heap.size + 1 < w1.heap.size := by have := hb1.size; (try simp at this); omega
  clear hb1
  go_wp2_with fail
  refine (H _ (S1.out.al _).t).mono ?_
  rintro e w2 ⟨rfl, hb2⟩
  have S2 := Lib.hid ((S1.out.al _).on hb2)
  have Rr_2 := Lib.hid (row_on (row_al Rr_1.out _) hb2)
  obtain ⟨hc2, hf2⟩ := bcell hb2
  have hz2_0 : w.heap.size < w2.heap.size := by have := hb2.size; (try simp at this); omega
  have hz2_1 : w.heap.size + 1 < w2.heap.size := by have := hb2.size; (try simp at this); omega
  have hz2_2 : w1.heap.size < w2.heap.size := by have := hb2.size; (try simp at this); omega
  clear hb2
  go_wp2_with fail
  generalize hu : (((w2.setCell ⟨w.heap.size + 1, 0, none⟩ (.int .i64 0)).setCell ⟨w.heap.size + 1, 1, none⟩ (.int .i64 0)).setCell ⟨w.heap.size + 1, 2, none⟩ (.int .i64 0)) = u
  obtain ⟨k0, k1, k2⟩ := three_set _ _ _ Rr_2.out hu
  have Hb := Lib.hid (below_set3 S2.out.b (by omega) _ _ _ hu)
  clear hu
  exact bodyPost_ret (v := datv (0) (0) (0) (k)) (by simp [results, Tryd.results13, go_sem, k0, k1, k2]) rfl ⟨rfl, Hb.out⟩
theorem ccv_ok1 (y' m' d' k' : Int) (ht : CTab w) (H : ∀ w, CTab w → Calls Tryd.prog 9 #[.int .i64 a, dtv y m d] w fun e w' => e = .returned (numv n 0) ∧ Below w.heap.size w w') (H1 : ∀ w, CTab w → Calls Tryd.prog 40 #[.int .i64 n] w fun e w' => e = .returned (datv y' m' d' k') ∧ Below w.heap.size w w') : Calls Tryd.prog 13 #[dtv y m d, .int .i64 a, .int .i64 1] w fun e w' => e = .returned (datv y' m' d' k') ∧ Below w.heap.size w w' := by
  have hn := hst
  have S0 := Lib.hid (St.start ht)
  clear ht
  go_enter Tryd.func13, Tryd.ntmps13
  go_wp2_with fail
  refine (choose1 _).mono ?_
  rintro e w1 ⟨rfl, hb1⟩
  have S1 := Lib.hid (((S0.out.al _).al _).on hb1)
  have Rr_1 := Lib.hid (row_on (b := w.heap.size + 1) (o := zdate) (row_new1 _ _ _) hb1)
  obtain ⟨hc1, hf1⟩ := bcell hb1
  have hz1_0 : w.heap.size < w1.heap.size := by have := hb1.size; (try simp at this); omega
  have hz1_1 : w.heap.size + 1 < w1.heap.size := by have := hb1.size; (try simp at this); omega
  clear hb1
  go_wp2_with fail
  refine (H _ (S1.out.al _).t).mono ?_
  rintro e w2 ⟨rfl, hb2⟩
  have S2 := Lib.hid ((S1.out.al _).on hb2)
  have Rr_2 := Lib.hid (row_on (row_al Rr_1.out _) hb2)
  obtain ⟨hc2, hf2⟩ := bcell hb2
  have hz2_0 : w.heap.size < w2.heap.size := by have := hb2.size; (try simp at this); omega
  have hz2_1 : w.heap.size + 1 < w2.heap.size := by have := hb2.size; (try simp at this); omega
  have hz2_2 : w1.heap.size < w2.heap.size := by have := hb2.size; (try simp at this); omega
  clear hb2
  go_wp2_with fail
  refine (H1 _ (S2.out).t).mono ?_
  rintro e w3 ⟨rfl, hb3⟩
  have S3 := Lib.hid ((S2.out).on hb3)
  have Rr_3 := Lib.hid (row_on Rr_2.out hb3)
  obtain ⟨hc3, hf3⟩ := bcell hb3
  have hz3_0 : w.heap.size < w3.heap.size := by have := hb3.size; (try simp at this); omega
  have hz3_1 : w.heap.size + 1 < w3.heap.size := by have := hb3.size; (try simp at this); omega
  have hz3_2 : w1.heap.size < w3.heap.size := by have := hb3.size; (try simp at this); omega
  clear hb3
  go_wp2_with fail
  generalize hu : (((w3.setCell ⟨w.heap.size + 1, 0, none⟩ (.int .i64 y')).setCell ⟨w.heap.size + 1, 1, none⟩ (.int .i64 m')).setCell ⟨w.heap.size + 1, 2, none⟩ (.int .i64 d')) = u
  obtain ⟨k0, k1, k2⟩ := three_set _ _ _ Rr_3.out hu
  have Hb := Lib.hid (below_set3 S3.out.b (by omega) _ _ _ hu)
  clear hu
  exact bodyPost_ret (v := datv (y') (m') (d') (k')) (by simp [results, Tryd.results13, go_sem, k0, k1, k2]) rfl ⟨rfl, Hb.out⟩
theorem ccv_err2 (ht : CTab w) (H : ∀ w, CTab w → Calls Tryd.prog 9 #[.int .i64 a, dtv y m d] w fun e w' => e = .returned (numv n k) ∧ Below w.heap.size w w') (hk : (k != 0) = true) : Calls Tryd.prog 13 #[dtv y m d, .int .i64 a, .int .i64 2] w fun e w' => e = .returned (datv 0 0 0 k) ∧ Below w.heap.size w w' := by
  have hn := hst
  have S0 := Lib.hid (St.start ht)
  clear ht
  go_enter Tryd.func13, Tryd.ntmps13
  go_wp2_with fail
  refine (choose2 _).mono ?_
  rintro e w1 ⟨rfl, hb1⟩
  have S1 := Lib.hid (((S0.out.al _).al _).on hb1)
  have Rr_1 := Lib.hid (row_on (b := w.heap.size + 1) (o := zdate) (row_new1 _ _ _) hb1)
  obtain ⟨hc1, hf1⟩ := bcell hb1
  have hz1_0 : w.heap.size < w1.heap.size := by have := hb1.size; (try simp at this); omega
  have hz1_1 : w.heap.size + 1 < w1.heap.size := by have := hb1.size; (try simp at this); omega
  clear hb1
  go_wp2_with fail
  refine (H _ (S1.out.al _).t).mono ?_
  rintro e w2 ⟨rfl, hb2⟩
  have S2 := Lib.hid ((S1.out.al _).on hb2)
  have Rr_2 := Lib.hid (row_on (row_al Rr_1.out _) hb2)
  obtain ⟨hc2, hf2⟩ := bcell hb2
  have hz2_0 : w.heap.size < w2.heap.size := by have := hb2.size; (try simp at this); omega
  have hz2_1 : w.heap.size + 1 < w2.heap.size := by have := hb2.size; (try simp at this); omega
  have hz2_2 : w1.heap.size < w2.heap.size := by have := hb2.size; (try simp at this); omega
  clear hb2
  go_wp2_with fail
  generalize hu : (((w2.setCell ⟨w.heap.size + 1, 0, none⟩ (.int .i64 0)).setCell ⟨w.heap.size + 1, 1, none⟩ (.int .i64 0)).setCell ⟨w.heap.size + 1, 2, none⟩ (.int .i64 0)) = u
  obtain ⟨k0, k1, k2⟩ := three_set _ _ _ Rr_2.out hu
  have Hb := Lib.hid (below_set3 S2.out.b (by omega) _ _ _ hu)
  clear hu
  exact bodyPost_ret (v := datv (0) (0) (0) (k)) (by simp [results, Tryd.results13, go_sem, k0, k1, k2]) rfl ⟨rfl, Hb.out⟩
theorem ccv_ok2 (y' m' d' k' : Int) (ht : CTab w) (H : ∀ w, CTab w → Calls Tryd.prog 9 #[.int .i64 a, dtv y m d] w fun e w' => e = .returned (numv n 0) ∧ Below w.heap.size w w') (H1 : ∀ w, CTab w → Calls Tryd.prog 42 #[.int .i64 n] w fun e w' => e = .returned (datv y' m' d' k') ∧ Below w.heap.size w w') : Calls Tryd.prog 13 #[dtv y m d, .int .i64 a, .int .i64 2] w fun e w' => e = .returned (datv y' m' d' k') ∧ Below w.heap.size w w' := by
  have hn := hst
  have S0 := Lib.hid (St.start ht)
  clear ht
  go_enter Tryd.func13, Tryd.ntmps13
  go_wp2_with fail
  refine (choose2 _).mono ?_
  rintro e w1 ⟨rfl, hb1⟩
  have S1 := Lib.hid (((S0.out.al _).al _).on hb1)
  have Rr_1 := Lib.hid (row_on (b := w.heap.size + 1) (o := zdate) (row_new1 _ _ _) hb1)
  obtain ⟨hc1, hf1⟩ := bcell hb1
  have hz1_0 : w.heap.size < w1.heap.size := by have := hb1.size; (try simp at this); omega
  have hz1_1 : w.heap.size + 1 < w1.heap.size := by have := hb1.size; (try simp at this); omega
  clear hb1
  go_wp2_with fail
  refine (H _ (S1.out.al _).t).mono ?_
  rintro e w2 ⟨rfl, hb2⟩
  have S2 := Lib.hid ((S1.out.al _).on hb2)
  have Rr_2 := Lib.hid (row_on (row_al Rr_1.out _) hb2)
  obtain ⟨hc2, hf2⟩ := bcell hb2
  have hz2_0 : w.heap.size < w2.heap.size := by have := hb2.size; (try simp at this); omega
  have hz2_1 : w.heap.size + 1 < w2.heap.size := by have := hb2.size; (try simp at this); omega
  have hz2_2 : w1.heap.size < w2.heap.size := by have := hb2.size; (try simp at this); omega
  clear hb2
  go_wp2_with fail
  refine (H1 _ (S2.out).t).mono ?_
  rintro e w3 ⟨rfl, hb3⟩
  have S3 := Lib.hid ((S2.out).on hb3)
  have Rr_3 := Lib.hid (row_on Rr_2.out hb3)
  obtain ⟨hc3, hf3⟩ := bcell hb3
  have hz3_0 : w.heap.size < w3.heap.size := by have := hb3.size; (try simp at this); omega
  have hz3_1 : w.heap.size + 1 < w3.heap.size := by have := hb3.size; (try simp at this); omega
  have hz3_2 : w1.heap.size < w3.heap.size := by have := hb3.size; (try simp at this); omega
  clear hb3
  go_wp2_with fail
  generalize hu : (((w3.setCell ⟨w.heap.size + 1, 0, none⟩ (.int .i64 y')).setCell ⟨w.heap.size + 1, 1, none⟩ (.int .i64 m')).setCell ⟨w.heap.size + 1, 2, none⟩ (.int .i64 d')) = u
  obtain ⟨k0, k1, k2⟩ := three_set _ _ _ Rr_3.out hu
  have Hb := Lib.hid (below_set3 S3.out.b (by omega) _ _ _ hu)
  clear hu
  exact bodyPost_ret (v := datv (y') (m') (d') (k')) (by simp [results, Tryd.results13, go_sem, k0, k1, k2]) rfl ⟨rfl, Hb.out⟩
end

/-! whatever the date -/
section
variable (c y m d : Int) (w : World) (ht : CTab w)
include ht
theorem cofy_all : Calls Tryd.prog 15 #[.int .i64 c, dtv y m d] w fun e w' => e = .returned (numv (oN c y m d) (tE c y m d)) ∧ Below w.heap.size w w' := by
  by_cases h : tE c y m d = 0
  · obtain ⟨a, b, e⟩ := tE_first h
    have n1 := tN_bd c y m d
    have n2 := tN_bd c y 1 1
    have e2 : oN c y m d = tN c y m d - tN c y 1 1 + 1 := by unfold oN; rw [if_pos h, e]
    rw [h, e2]
    exact cofy_ok c y m d (tN c y m d) w (tN c y 1 1) ht (fun w ht => by have := ctoday_any y m d w c ht; rw [h] at this; exact this) (fun w ht => by have := ctoday_any y 1 1 w c ht; rw [a] at this; exact this) n1.1 n1.2 n2.1 n2.2
  · have e2 : oN c y m d = 0 := by unfold oN; rw [if_neg h]
    rw [e2]
    exact cofy_err c y m d _ _ w ht (fun w ht => ctoday_any y m d w c ht) (tE_ne h)
theorem cylen_all : Calls Tryd.prog 19 #[.int .i64 c, .int .i64 y] w fun e w' => e = .returned (numv (yN c y) (yE c y)) ∧ Below w.heap.size w w' := by
  rw [← yN_last, ← yE_last]
  exact cylen_any0 c y _ _ w ht (fun w ht => cofy_all c y 12 31 w ht)
theorem cwd_all : Calls Tryd.prog 23 #[.int .i64 c, dtv y m d] w fun e w' => e = .returned (numv (wN c y m d) (tE c y m d)) ∧ Below w.heap.size w w' := by
  by_cases h : tE c y m d = 0
  · have n1 := tN_bd c y m d
    have e2 : wN c y m d = tN c y m d % 7 := by unfold wN; rw [if_pos h]
    rw [h, e2]
    exact cwd_ok c y m d (tN c y m d) w (tN c y m d % 7) ht (fun w ht => by have := ctoday_any y m d w c ht; rw [h] at this; exact this) (fun w => of_any _ w (inR_iff.2 (by omega)))
  · have e2 : wN c y m d = 0 := by unfold wN; rw [if_neg h]
    rw [e2]
    exact cwd_err c y m d _ _ w ht (fun w ht => ctoday_any y m d w c ht) (tE_ne h)
theorem cshift_all (s : Int) (hs : inR s = true) : Calls Tryd.prog 21 #[.int .i64 c, dtv y m d, .int .i64 s] w fun e w' => e = .returned (datv (sY c y m d s) (sM c y m d s) (sD c y m d s) (sE c y m d s)) ∧ Below w.heap.size w w' := by
  by_cases h : tE c y m d = 0
  · have n1 := tN_bd c y m d
    obtain ⟨w1, w2, w3, w4⟩ := f_wrap c (tN c y m d) s n1.1 n1.2 hs
    have e1 : sE c y m d s = fE c (tN c y m d + s) := by unfold sE; rw [if_pos h]
    have e2 : sY c y m d s = fY c (tN c y m d + s) ∧ sM c y m d s = fM c (tN c y m d + s) ∧ sD c y m d s = fD c (tN c y m d + s) := by
      unfold sY sM sD; rw [e1]; split
      · exact ⟨rfl, rfl, rfl⟩
      · rename_i g
        obtain ⟨a, b, e⟩ := fE_no g
        exact ⟨a.symm, b.symm, e.symm⟩
    rw [e2.1, e2.2.1, e2.2.2, e1, ← w1, ← w2, ← w3, ← w4]
    exact cshift_ok c y m d (tN c y m d) s w _ _ _ _ ht (fun w ht => by have := ctoday_any y m d w c ht; rw [h] at this; exact this) (fun w ht => cfrom_any _ w c ht)
  · have e1 : sE c y m d s = tE c y m d := by unfold sE; rw [if_neg h]
    have e2 : sY c y m d s = 0 ∧ sM c y m d s = 0 ∧ sD c y m d s = 0 := by unfold sY sM sD; rw [e1, if_neg h, if_neg h, if_neg h]; exact ⟨rfl, rfl, rfl⟩
    rw [e2.1, e2.2.1, e2.2.2, e1]
    exact cshift_err c y m d _ _ s w ht (fun w ht => ctoday_any y m d w c ht) (tE_ne h)
theorem cfy_all (s : Int) : Calls Tryd.prog 17 #[.int .i64 c, .int .i64 y, .int .i64 s] w fun e w' => e = .returned (datv (xY c y s) (xM c y s) (xD c y s) (xE c y s)) ∧ Below w.heap.size w w' := by
  by_cases h : yE c y = 0
  · by_cases h1 : 1 ≤ s
    · by_cases h2 : s ≤ yN c y
      · have hb := yN_bd c y
        obtain ⟨t1, t2⟩ := yE_tE h
        have e0 : xE c y s = 0 := by unfold xE; rw [if_pos h, if_pos ⟨h1, h2⟩]
        have hz := yE_zero h
        have hl := l01_bd ((calOf c).lp y)
        have hy := inY_iff.1 hz.2.1
        have hi : InD (calOf c) (tN c y 1 1 + (s - 1)) := by
          have a := (calOf c).fst_mono 1 y (by omega) hy.1
          have b := (calOf c).fst_mono (y + 1) 1000000001 (by omega) (by omega)
          have st := (calOf c).step y hy.1
          rw [t2]; exact ⟨by omega, by omega⟩
        have ef : fE c (tN c y 1 1 + (s - 1)) = 0 := by unfold fE; rw [if_pos hz.1, if_pos hi]
        have e1 : sE c y 1 1 (s - 1) = 0 := by unfold sE; rw [if_pos t1, ef]
        have e2 : tN c y 1 1 + (s - 1) = (calOf c).fst y + s - 1 := by rw [t2]; omega
        have k1 : xY c y s = sY c y 1 1 (s - 1) ∧ xM c y s = sM c y 1 1 (s - 1) ∧ xD c y s = sD c y 1 1 (s - 1) := by
          unfold xY xM xD sY sM sD; rw [e0, e1, e2]; exact ⟨rfl, rfl, rfl⟩
        rw [k1.1, k1.2.1, k1.2.2, e0]
        exact cfy_ok c y (yN c y) s w _ _ _ _ ht (fun w ht => by have := cylen_all c y w ht; rw [h] at this; exact this) h1 h2 hb (fun w ht => by have := cshift_all c y 1 1 w ht (s - 1) (inR_iff.2 (by omega)); rw [e1] at this; exact this)
      · have e0 : xE c y s = 2 := by unfold xE; rw [if_pos h, if_neg (by omega)]
        have k1 : xY c y s = 0 ∧ xM c y s = 0 ∧ xD c y s = 0 := by unfold xY xM xD; rw [e0]; exact ⟨rfl, rfl, rfl⟩
        rw [k1.1, k1.2.1, k1.2.2, e0]
        exact cfy_high c y (yN c y) s w ht (fun w ht => by have := cylen_all c y w ht; rw [h] at this; exact this) (by omega) (by omega)
    · have e0 : xE c y s = 2 := by unfold xE; rw [if_pos h, if_neg (by omega)]
      have k1 : xY c y s = 0 ∧ xM c y s = 0 ∧ xD c y s = 0 := by unfold xY xM xD; rw [e0]; exact ⟨rfl, rfl, rfl⟩
      rw [k1.1, k1.2.1, k1.2.2, e0]
      exact cfy_low c y (yN c y) s w ht (fun w ht => by have := cylen_all c y w ht; rw [h] at this; exact this) (by omega)
  · have e0 : xE c y s = yE c y := by unfold xE; rw [if_neg h]
    have k1 : xY c y s = 0 ∧ xM c y s = 0 ∧ xD c y s = 0 := by unfold xY xM xD; rw [e0, if_neg h, if_neg h, if_neg h]; exact ⟨rfl, rfl, rfl⟩
    rw [k1.1, k1.2.1, k1.2.2, e0]
    exact cfy_err c y _ _ s w ht (fun w ht => cylen_all c y w ht) (tE_ne h)
theorem ccv_all (b : Int) : Calls Tryd.prog 13 #[dtv y m d, .int .i64 c, .int .i64 b] w fun e w' => e = .returned (datv (vY y m d c b) (vM y m d c b) (vD y m d c b) (vE y m d c b)) ∧ Below w.heap.size w w' := by
  cases hb : okC b
  · have e0 : vE y m d c b = 3 := by unfold vE; rw [hb]; rfl
    have k1 : vY y m d c b = 0 ∧ vM y m d c b = 0 ∧ vD y m d c b = 0 := by unfold vY vM vD; rw [e0]; exact ⟨rfl, rfl, rfl⟩
    rw [k1.1, k1.2.1, k1.2.2, e0]
    exact ccv_no y m d c w b hb ht
  · by_cases h : tE c y m d = 0
    · have e0 : vE y m d c b = fE b (tN c y m d) := by unfold vE; rw [if_pos hb, if_pos h]
      have k1 : vY y m d c b = fY b (tN c y m d) ∧ vM y m d c b = fM b (tN c y m d) ∧ vD y m d c b = fD b (tN c y m d) := by
        unfold vY vM vD; rw [e0]; split
        · exact ⟨rfl, rfl, rfl⟩
        · rename_i g
          obtain ⟨p, q, r⟩ := fE_no g
          exact ⟨p.symm, q.symm, r.symm⟩
      rw [k1.1, k1.2.1, k1.2.2, e0]
      have H : ∀ w, CTab w → Calls Tryd.prog 9 #[.int .i64 c, dtv y m d] w fun e w' => e = .returned (numv (tN c y m d) 0) ∧ Below w.heap.size w w' := fun w ht => by have := ctoday_any y m d w c ht; rw [h] at this; exact this
      rcases okC_iff.1 hb with rfl | rfl
      · exact ccv_ok1 y m d c _ w _ _ _ _ ht H (fun w ht => jfrom_all _ w ht.j)
      · exact ccv_ok2 y m d c _ w _ _ _ _ ht H (fun w ht => gfrom_all _ w ht.g)
    · have e0 : vE y m d c b = tE c y m d := by unfold vE; rw [if_pos hb, if_neg h]
      have k1 : vY y m d c b = 0 ∧ vM y m d c b = 0 ∧ vD y m d c b = 0 := by unfold vY vM vD; rw [e0, if_neg h, if_neg h, if_neg h]; exact ⟨rfl, rfl, rfl⟩
      rw [k1.1, k1.2.1, k1.2.2, e0]
      rcases okC_iff.1 hb with rfl | rfl
      · exact ccv_err1 y m d c _ _ w ht (fun w ht => ctoday_any y m d w c ht) (tE_ne h)
      · exact ccv_err2 y m d c _ _ w ht (fun w ht => ctoday_any y m d w c ht) (tE_ne h)
end
end Go.Proofs.YtdnglkccdmlplaaDoor
