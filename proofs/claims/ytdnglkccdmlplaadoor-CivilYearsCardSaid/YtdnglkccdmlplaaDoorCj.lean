/- The contracts of package civil's OfYear, YearLength, Weekday, Shift, FromYear. -/
import Derived.Test.YtdnglkccdmlplaaDoorCi
import Derived.Test.YtdnglkccdmlplaaDoorWo
namespace Go.Proofs.YtdnglkccdmlplaaDoor
open Go.RowKit

section
variable (c y m d n k : Int) (w : World)
theorem cofy_err (ht : CTab w) (H : ∀ w, CTab w → Calls Tryd.prog 9 #[.int .i64 c, dtv y m d] w fun e w' => e = .returned (numv n k) ∧ Below w.heap.size w w') (hk : (k != 0) = true) : Calls Tryd.prog 15 #[.int .i64 c, dtv y m d] w fun e w' => e = .returned (numv 0 k) ∧ Below w.heap.size w w' := by
  have S0 := Lib.hid (St.start ht)
  clear ht
  go_enter Tryd.func15, Tryd.ntmps15
  go_wp2_with fail
  refine (H _ (S0.out.al _).t).mono ?_
  rintro e w1 ⟨rfl, hb1⟩
  have S1 := Lib.hid ((S0.out.al _).on hb1)
  obtain ⟨hc1, hf1⟩ := bcell hb1
  clear hb1
  go_wp2_with fail
  go_ret2
  exact ⟨rfl, (S1.out).b⟩
theorem cofy_ok (f : Int) (ht : CTab w) (H : ∀ w, CTab w → Calls Tryd.prog 9 #[.int .i64 c, dtv y m d] w fun e w' => e = .returned (numv n 0) ∧ Below w.heap.size w w') (H1 : ∀ w, CTab w → Calls Tryd.prog 9 #[.int .i64 c, dtv y 1 1] w fun e w' => e = .returned (numv f 0) ∧ Below w.heap.size w w') (n1 : -1 ≤ n) (n2 : n ≤ 365249999998) (f1 : -1 ≤ f) (f2 : f ≤ 365249999998) : Calls Tryd.prog 15 #[.int .i64 c, dtv y m d] w fun e w' => e = .returned (numv (n - f + 1) 0) ∧ Below w.heap.size w w' := by
  have S0 := Lib.hid (St.start ht)
  clear ht
  go_enter Tryd.func15, Tryd.ntmps15
  go_wp2_with fail
  refine (H _ (S0.out.al _).t).mono ?_
  rintro e w1 ⟨rfl, hb1⟩
  have S1 := Lib.hid ((S0.out.al _).on hb1)
  obtain ⟨hc1, hf1⟩ := bcell hb1
  have hz1_0 : w.heap.size < w1.heap.size := by have := hb1.size; (try simp at this); omega
  clear hb1
  go_wp2_with fail
  refine (H1 _ (S1.out).t).mono ?_
  rintro e w2 ⟨rfl, hb2⟩
  have S2 := Lib.hid ((S1.out).on hb2)
  obtain ⟨hc2, hf2⟩ := bcell hb2
  have hz2_0 : w.heap.size < w2.heap.size := by have := hb2.size; (try simp at this); omega
  clear hb2
  go_wp2_with fail
  go_ret2
  exact ⟨rfl, (S2.out).b⟩
theorem cwd_err (ht : CTab w) (H : ∀ w, CTab w → Calls Tryd.prog 9 #[.int .i64 c, dtv y m d] w fun e w' => e = .returned (numv n k) ∧ Below w.heap.size w w') (hk : (k != 0) = true) : Calls Tryd.prog 23 #[.int .i64 c, dtv y m d] w fun e w' => e = .returned (numv 0 k) ∧ Below w.heap.size w w' := by
  have S0 := Lib.hid (St.start ht)
  clear ht
  go_enter Tryd.func23, Tryd.ntmps23
  go_wp2_with fail
  refine (H _ (S0.out.al _).t).mono ?_
  rintro e w1 ⟨rfl, hb1⟩
  have S1 := Lib.hid ((S0.out.al _).on hb1)
  obtain ⟨hc1, hf1⟩ := bcell hb1
  clear hb1
  go_wp2_with fail
  go_ret2
  exact ⟨rfl, (S1.out).b⟩
theorem cwd_ok (r : Int) (ht : CTab w) (H : ∀ w, CTab w → Calls Tryd.prog 9 #[.int .i64 c, dtv y m d] w fun e w' => e = .returned (numv n 0) ∧ Below w.heap.size w w') (H1 : ∀ w, Calls Tryd.prog 35 #[.int .i64 n] w fun e w' => e = .returned (.int .i64 r) ∧ Below w.heap.size w w') : Calls Tryd.prog 23 #[.int .i64 c, dtv y m d] w fun e w' => e = .returned (numv r 0) ∧ Below w.heap.size w w' := by
  have S0 := Lib.hid (St.start ht)
  clear ht
  go_enter Tryd.func23, Tryd.ntmps23
  go_wp2_with fail
  refine (H _ (S0.out.al _).t).mono ?_
  rintro e w1 ⟨rfl, hb1⟩
  have S1 := Lib.hid ((S0.out.al _).on hb1)
  obtain ⟨hc1, hf1⟩ := bcell hb1
  clear hb1
  go_wp2_with fail
  refine (H1 _).mono ?_
  rintro e w2 ⟨rfl, hb2⟩
  have S2 := Lib.hid ((S1.out).on hb2)
  obtain ⟨hc2, hf2⟩ := bcell hb2
  clear hb2
  go_wp2_with fail
  go_ret2
  exact ⟨rfl, (S2.out).b⟩
theorem cylen_any0 (ht : CTab w) (H : ∀ w, CTab w → Calls Tryd.prog 15 #[.int .i64 c, dtv y 12 31] w fun e w' => e = .returned (numv n k) ∧ Below w.heap.size w w') : Calls Tryd.prog 19 #[.int .i64 c, .int .i64 y] w fun e w' => e = .returned (numv n k) ∧ Below w.heap.size w w' := by
  have S0 := Lib.hid (St.start ht)
  clear ht
  go_enter Tryd.func19, Tryd.ntmps19
  go_wp2_with fail
  refine (H _ (S0.out).t).mono ?_
  rintro e w1 ⟨rfl, hb1⟩
  have S1 := Lib.hid ((S0.out).on hb1)
  obtain ⟨hc1, hf1⟩ := bcell hb1
  clear hb1
  go_wp2_with fail
  go_ret2
  exact ⟨rfl, (S1.out).b⟩
end
section
variable (c y m d n k s : Int) (w : World)
theorem cshift_err (ht : CTab w) (H : ∀ w, CTab w → Calls Tryd.prog 9 #[.int .i64 c, dtv y m d] w fun e w' => e = .returned (numv n k) ∧ Below w.heap.size w w') (hk : (k != 0) = true) : Calls Tryd.prog 21 #[.int .i64 c, dtv y m d, .int .i64 s] w fun e w' => e = .returned (datv 0 0 0 k) ∧ Below w.heap.size w w' := by
  have S0 := Lib.hid (St.start ht)
  clear ht
  go_enter Tryd.func21, Tryd.ntmps21
  go_wp2_with fail
  refine (H _ ((S0.out.al _).al _).t).mono ?_
  rintro e w1 ⟨rfl, hb1⟩
  have S1 := Lib.hid (((S0.out.al _).al _).on hb1)
  have Rr_1 := Lib.hid (row_on (b := w.heap.size + 1) (o := zdate) (row_new1 _ _ _) hb1)
  obtain ⟨hc1, hf1⟩ := bcell hb1
  have hz1_0 : w.heap.size + 1 < w1.heap.size := by have := hb1.size; (try simp at this); omega
  clear hb1
  go_wp2_with fail
  generalize hu : (((w1.setCell ⟨w.heap.size + 1, 0, none⟩ (.int .i64 0)).setCell ⟨w.heap.size + 1, 1, none⟩ (.int .i64 0)).setCell ⟨w.heap.size + 1, 2, none⟩ (.int .i64 0)) = u
  obtain ⟨k0, k1, k2⟩ := three_set _ _ _ Rr_1.out hu
  have Hb := Lib.hid (below_set3 S1.out.b (by omega) _ _ _ hu)
  clear hu
  exact bodyPost_ret (v := datv (0) (0) (0) (k)) (by simp [results, Tryd.results21, go_sem, k0, k1, k2]) rfl ⟨rfl, Hb.out⟩
theorem cshift_ok (y' m' d' k' : Int) (ht : CTab w) (H : ∀ w, CTab w → Calls Tryd.prog 9 #[.int .i64 c, dtv y m d] w fun e w' => e = .returned (numv n 0) ∧ Below w.heap.size w w') (H1 : ∀ w, CTab w → Calls Tryd.prog 11 #[.int .i64 c, .int .i64 (wrap64 (n + s))] w fun e w' => e = .returned (datv y' m' d' k') ∧ Below w.heap.size w w') : Calls Tryd.prog 21 #[.int .i64 c, dtv y m d, .int .i64 s] w fun e w' => e = .returned (datv y' m' d' k') ∧ Below w.heap.size w w' := by
  have S0 := Lib.hid (St.start ht)
  clear ht
  go_enter Tryd.func21, Tryd.ntmps21
  go_wp2_with fail
  refine (H _ ((S0.out.al _).al _).t).mono ?_
  rintro e w1 ⟨rfl, hb1⟩
  have S1 := Lib.hid (((S0.out.al _).al _).on hb1)
  have Rr_1 := Lib.hid (row_on (b := w.heap.size + 1) (o := zdate) (row_new1 _ _ _) hb1)
  obtain ⟨hc1, hf1⟩ := bcell hb1
  have hz1_0 : w.heap.size + 1 < w1.heap.size := by have := hb1.size; (try simp at this); omega
  clear hb1
  go_wp2_with fail
  refine (H1 _ (S1.out).t).mono ?_
  rintro e w2 ⟨rfl, hb2⟩
  have S2 := Lib.hid ((S1.out).on hb2)
  have Rr_2 := Lib.hid (row_on Rr_1.out hb2)
  obtain ⟨hc2, hf2⟩ := bcell hb2
  have hz2_0 : w.heap.size + 1 < w2.heap.size := by have := hb2.size; (try simp at this); omega
  clear hb2
  go_wp2_with fail
  generalize hu : (((w2.setCell ⟨w.heap.size + 1, 0, none⟩ (.int .i64 y')).setCell ⟨w.heap.size + 1, 1, none⟩ (.int .i64 m')).setCell ⟨w.heap.size + 1, 2, none⟩ (.int .i64 d')) = u
  obtain ⟨k0, k1, k2⟩ := three_set _ _ _ Rr_2.out hu
  have Hb := Lib.hid (below_set3 S2.out.b (by omega) _ _ _ hu)
  clear hu
  exact bodyPost_ret (v := datv (y') (m') (d') (k')) (by simp [results, Tryd.results21, go_sem, k0, k1, k2]) rfl ⟨rfl, Hb.out⟩
theorem cfy_err (ht : CTab w) (H : ∀ w, CTab w → Calls Tryd.prog 19 #[.int .i64 c, .int .i64 y] w fun e w' => e = .returned (numv n k) ∧ Below w.heap.size w w') (hk : (k != 0) = true) : Calls Tryd.prog 17 #[.int .i64 c, .int .i64 y, .int .i64 s] w fun e w' => e = .returned (datv 0 0 0 k) ∧ Below w.heap.size w w' := by
  have S0 := Lib.hid (St.start ht)
  clear ht
  go_enter Tryd.func17, Tryd.ntmps17
  go_wp2_with fail
  refine (H _ (S0.out.al _).t).mono ?_
  rintro e w1 ⟨rfl, hb1⟩
  have S1 := Lib.hid ((S0.out.al _).on hb1)
  have Rr_1 := Lib.hid (row_on (b := w.heap.size) (o := zdate) (heap_alloc_new _ _) hb1)
  obtain ⟨hc1, hf1⟩ := bcell hb1
  have hz1_0 : w.heap.size < w1.heap.size := by have := hb1.size; (try simp at this); omega
  clear hb1
  go_wp2_with fail
  generalize hu : (((w1.setCell ⟨w.heap.size, 0, none⟩ (.int .i64 0)).setCell ⟨w.heap.size, 1, none⟩ (.int .i64 0)).setCell ⟨w.heap.size, 2, none⟩ (.int .i64 0)) = u
  obtain ⟨k0, k1, k2⟩ := three_set _ _ _ Rr_1.out hu
  have Hb := Lib.hid (below_set3 S1.out.b (by omega) _ _ _ hu)
  clear hu
  exact bodyPost_ret (v := datv (0) (0) (0) (k)) (by simp [results, Tryd.results17, go_sem, k0, k1, k2]) rfl ⟨rfl, Hb.out⟩
theorem cfy_low (ht : CTab w) (H : ∀ w, CTab w → Calls Tryd.prog 19 #[.int .i64 c, .int .i64 y] w fun e w' => e = .returned (numv n 0) ∧ Below w.heap.size w w') (hs : s < 1) : Calls Tryd.prog 17 #[.int .i64 c, .int .i64 y, .int .i64 s] w fun e w' => e = .returned (datv 0 0 0 2) ∧ Below w.heap.size w w' := by
  have S0 := Lib.hid (St.start ht)
  clear ht
  go_enter Tryd.func17, Tryd.ntmps17
  go_wp2_with fail
  refine (H _ (S0.out.al _).t).mono ?_
  rintro e w1 ⟨rfl, hb1⟩
  have S1 := Lib.hid ((S0.out.al _).on hb1)
  have Rr_1 := Lib.hid (row_on (b := w.heap.size) (o := zdate) (heap_alloc_new _ _) hb1)
  obtain ⟨hc1, hf1⟩ := bcell hb1
  have hz1_0 : w.heap.size < w1.heap.size := by have := hb1.size; (try simp at this); omega
  clear hb1
  go_wp2_with fail
  generalize hu : (((w1.setCell ⟨w.heap.size, 0, none⟩ (.int .i64 0)).setCell ⟨w.heap.size, 1, none⟩ (.int .i64 0)).setCell ⟨w.heap.size, 2, none⟩ (.int .i64 0)) = u
  obtain ⟨k0, k1, k2⟩ := three_set _ _ _ Rr_1.out hu
  have Hb := Lib.hid (below_set3 S1.out.b (by omega) _ _ _ hu)
  clear hu
  exact bodyPost_ret (v := datv (0) (0) (0) (2)) (by simp [results, Tryd.results17, go_sem, k0, k1, k2]) rfl ⟨rfl, Hb.out⟩
theorem cfy_high (ht : CTab w) (H : ∀ w, CTab w → Calls Tryd.prog 19 #[.int .i64 c, .int .i64 y] w fun e w' => e = .returned (numv n 0) ∧ Below w.heap.size w w') (hs0 : ¬ s < 1) (hs : n < s) : Calls Tryd.prog 17 #[.int .i64 c, .int .i64 y, .int .i64 s] w fun e w' => e = .returned (datv 0 0 0 2) ∧ Below w.heap.size w w' := by
  have S0 := Lib.hid (St.start ht)
  clear ht
  go_enter Tryd.func17, Tryd.ntmps17
  go_wp2_with fail
  refine (H _ (S0.out.al _).t).mono ?_
  rintro e w1 ⟨rfl, hb1⟩
  have S1 := Lib.hid ((S0.out.al _).on hb1)
  have Rr_1 := Lib.hid (row_on (b := w.heap.size) (o := zdate) (heap_alloc_new _ _) hb1)
  obtain ⟨hc1, hf1⟩ := bcell hb1
  have hz1_0 : w.heap.size < w1.heap.size := by have := hb1.size; (try simp at this); omega
  clear hb1
  go_wp2_with fail
  generalize hu : (((w1.setCell ⟨w.heap.size, 0, none⟩ (.int .i64 0)).setCell ⟨w.heap.size, 1, none⟩ (.int .i64 0)).setCell ⟨w.heap.size, 2, none⟩ (.int .i64 0)) = u
  obtain ⟨k0, k1, k2⟩ := three_set _ _ _ Rr_1.out hu
  have Hb := Lib.hid (below_set3 S1.out.b (by omega) _ _ _ hu)
  clear hu
  exact bodyPost_ret (v := datv (0) (0) (0) (2)) (by simp [results, Tryd.results17, go_sem, k0, k1, k2]) rfl ⟨rfl, Hb.out⟩
theorem cfy_ok (y' m' d' k' : Int) (ht : CTab w) (H : ∀ w, CTab w → Calls Tryd.prog 19 #[.int .i64 c, .int .i64 y] w fun e w' => e = .returned (numv n 0) ∧ Below w.heap.size w w') (hs0 : 1 ≤ s) (hs : s ≤ n) (hn : n ≤ 366) (H1 : ∀ w, CTab w → Calls Tryd.prog 21 #[.int .i64 c, dtv y 1 1, .int .i64 (s - 1)] w fun e w' => e = .returned (datv y' m' d' k') ∧ Below w.heap.size w w') : Calls Tryd.prog 17 #[.int .i64 c, .int .i64 y, .int .i64 s] w fun e w' => e = .returned (datv y' m' d' k') ∧ Below w.heap.size w w' := by
  have S0 := Lib.hid (St.start ht)
  clear ht
  go_enter Tryd.func17, Tryd.ntmps17
  go_wp2_with fail
  refine (H _ (S0.out.al _).t).mono ?_
  rintro e w1 ⟨rfl, hb1⟩
  have S1 := Lib.hid ((S0.out.al _).on hb1)
  have Rr_1 := Lib.hid (row_on (b := w.heap.size) (o := zdate) (heap_alloc_new _ _) hb1)
  obtain ⟨hc1, hf1⟩ := bcell hb1
  have hz1_0 : w.heap.size < w1.heap.size := by have := hb1.size; (try simp at this); omega
  clear hb1
  go_wp2_with fail
  refine (H1 _ (S1.out).t).mono ?_
  rintro e w2 ⟨rfl, hb2⟩
  have S2 := Lib.hid ((S1.out).on hb2)
  have Rr_2 := Lib.hid (row_on Rr_1.out hb2)
  obtain ⟨hc2, hf2⟩ := bcell hb2
  have hz2_0 : w.heap.size < w2.heap.size := by have := hb2.size; (try simp at this); omega
  clear hb2
  go_wp2_with fail
  generalize hu : (((w2.setCell ⟨w.heap.size, 0, none⟩ (.int .i64 y')).setCell ⟨w.heap.size, 1, none⟩ (.int .i64 m')).setCell ⟨w.heap.size, 2, none⟩ (.int .i64 d')) = u
  obtain ⟨k0, k1, k2⟩ := three_set _ _ _ Rr_2.out hu
  have Hb := Lib.hid (below_set3 S2.out.b (by omega) _ _ _ hu)
  clear hu
  exact bodyPost_ret (v := datv (y') (m') (d') (k')) (by simp [results, Tryd.results17, go_sem, k0, k1, k2]) rfl ⟨rfl, Hb.out⟩
end
end Go.Proofs.YtdnglkccdmlplaaDoor
