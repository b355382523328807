/- The contract of the reference's Next; the fixed examples of the law (awake). -/
import Derived.Test.YtkegllacdhaioaaDoorJf
namespace Go.Proofs.YtkegllacdhaioaaDoor
open Go.RowKit

theorem ret_dt {a b c a' b' c' : Int} (h1 : a = a') (h2 : b = b') (h3 : c = c') : Ending.returned (.agg #[.int .i64 a, .int .i64 b, .int .i64 c]) = .returned (.agg #[.int .i64 a', .int .i64 b', .int .i64 c']) := by rw [h1, h2, h3]

theorem rnext_any (y m d : Int) (l : Bool) (w : World) (y1 : -1000000000000 ≤ y) (y2 : y ≤ 1000000000000) (m1 : -1000000000000 ≤ m) (m2 : m ≤ 1000000000000) (d1 : -1000000000000 ≤ d) (d2 : d ≤ 1000000000000) :
    Calls Tryd.prog 23 #[.agg #[.int .i64 y, .int .i64 m, .int .i64 d], .bool l] w fun e w' => e = .returned (.agg #[.int .i64 (Cal.nextY l y m d), .int .i64 (Cal.nextM l y m d), .int .i64 (Cal.nextD l y m d)]) ∧ Below w.heap.size w w' := by
  have Hl := fun w => rlen_any l m w
  by_cases h : d < dim l m
  · have e1 : Hid (Cal.nextY l y m d = y) := by show Cal.nextY l y m d = y; unfold Cal.nextY; rw [if_pos h]
    have e2 : Hid (Cal.nextM l y m d = m) := by show Cal.nextM l y m d = m; unfold Cal.nextM; rw [if_pos h]
    have e3 : Hid (Cal.nextD l y m d = d + 1) := by show Cal.nextD l y m d = d + 1; unfold Cal.nextD; rw [if_pos h]
    go_enter Tryd.func23, Tryd.ntmps23
    go_wp2_with fail
    go_quiet ((go_at_call 20; exact quiet_same (Hl _)))
    simp only [dn_al]
    rename_i nq
    have Hz : w.heap.size = (w.drewN nq).heap.size := rfl
    have Hb := Lib.hid (below_dn (Below.refl w.heap.size w) nq)
    generalize w.drewN nq = x at *
    rw [Hz]
    have Hz' := Lib.hid Hz
    clear Hz
    go_wp2
    refine bodyPost_ret (v := .agg #[.int .i64 y, .int .i64 m, .int .i64 (d + 1)]) (by simp [results, Tryd.results23, go_sem]) rfl ⟨ret_dt e1.out.symm e2.out.symm e3.out.symm, ?_⟩
    exact (Hb.out.alloc (by rw [Hz'.out]; exact Nat.le_refl _) _).alloc (by rw [Hz'.out]; simp) _
  · by_cases h2 : m < 12
    · have e1 : Hid (Cal.nextY l y m d = y) := by show Cal.nextY l y m d = y; unfold Cal.nextY; rw [if_neg h, if_pos h2]
      have e2 : Hid (Cal.nextM l y m d = m + 1) := by show Cal.nextM l y m d = m + 1; unfold Cal.nextM; rw [if_neg h, if_pos h2]
      have e3 : Hid (Cal.nextD l y m d = 1) := by show Cal.nextD l y m d = 1; unfold Cal.nextD; rw [if_neg h]
      go_enter Tryd.func23, Tryd.ntmps23
      go_wp2_with fail
      go_quiet ((go_at_call 20; exact quiet_same (Hl _)))
      simp only [dn_al]
      rename_i nq
      have Hz : w.heap.size = (w.drewN nq).heap.size := rfl
      have Hb := Lib.hid (below_dn (Below.refl w.heap.size w) nq)
      generalize w.drewN nq = x at *
      rw [Hz]
      have Hz' := Lib.hid Hz
      clear Hz
      go_wp2
      refine bodyPost_ret (v := .agg #[.int .i64 y, .int .i64 (m + 1), .int .i64 1]) (by simp [results, Tryd.results23, go_sem]) rfl ⟨ret_dt e1.out.symm e2.out.symm e3.out.symm, ?_⟩
      exact (Hb.out.alloc (by rw [Hz'.out]; exact Nat.le_refl _) _).alloc (by rw [Hz'.out]; simp) _
    · have e1 : Hid (Cal.nextY l y m d = y + 1) := by show Cal.nextY l y m d = y + 1; unfold Cal.nextY; rw [if_neg h, if_neg h2]
      have e2 : Hid (Cal.nextM l y m d = 1) := by show Cal.nextM l y m d = 1; unfold Cal.nextM; rw [if_neg h, if_neg h2]
      have e3 : Hid (Cal.nextD l y m d = 1) := by show Cal.nextD l y m d = 1; unfold Cal.nextD; rw [if_neg h]
      go_enter Tryd.func23, Tryd.ntmps23
      go_wp2_with fail
      go_quiet ((go_at_call 20; exact quiet_same (Hl _)))
      simp only [dn_al]
      rename_i nq
      have Hz : w.heap.size = (w.drewN nq).heap.size := rfl
      have Hb := Lib.hid (below_dn (Below.refl w.heap.size w) nq)
      generalize w.drewN nq = x at *
      rw [Hz]
      have Hz' := Lib.hid Hz
      clear Hz
      go_wp2
      refine bodyPost_ret (v := .agg #[.int .i64 (y + 1), .int .i64 1, .int .i64 1]) (by simp [results, Tryd.results23, go_sem]) rfl ⟨ret_dt e1.out.symm e2.out.symm e3.out.symm, ?_⟩
      exact (Hb.out.alloc (by rw [Hz'.out]; exact Nat.le_refl _) _).alloc (by rw [Hz'.out]; simp) _

theorem awake_any (w : World) (ht : Tab w) : Calls Tryd.prog 9 #[] w fun e w' => e = .returned (.bool true) ∧ Below w.heap.size w w' := by
  have H1 := fun w (ht : Tab w) => jday_at 1582 10 4 w ht (by decide)
  have H2 := fun w (ht : Tab w) => jday_at 4 2 29 w ht (by decide)
  have H3 := fun w (ht : Tab w) => jfrom_at (-1) 1 1 1 w ht (by decide) (by decide)
  have H4 := fun w (ht : Tab w) => jday_bad 5 2 29 w ht (by omega) (by omega) (by decide)
  have H5 := fun w => jfrom_no (-2) w (by omega)
  have H6 := fun w => jfirst_in 1 w (by omega) (by omega)
  simp only [show jul.num 1582 10 4 = 577735 by decide] at H1
  simp only [show jul.num 4 2 29 = 1153 by decide] at H2
  simp only [show jfst 1 = -1 by decide] at H6
  have Ht0 := Lib.hid ht
  clear ht
  go_enter Tryd.func9, Tryd.ntmps9
  go_wp2_with fail
  refine (H1 _ Ht0.out).mono ?_
  rintro e w1 ⟨rfl, hb1⟩
  have Ht1 := Lib.hid (Ht0.out.below hb1 Ht0.out.heap)
  go_wp2_with fail
  refine (H2 _ Ht1.out).mono ?_
  rintro e w2 ⟨rfl, hb2⟩
  have Ht2 := Lib.hid (Ht1.out.below hb2 Ht1.out.heap)
  go_wp2_with fail
  refine (H3 _ Ht2.out).mono ?_
  rintro e w3 ⟨rfl, hb3⟩
  have Ht3 := Lib.hid (Ht2.out.below hb3 Ht2.out.heap)
  go_wp2_with fail
  refine (H4 _ (Ht3.out.al _)).mono ?_
  rintro e w4 ⟨rfl, hb4⟩
  obtain ⟨hc4, hf4⟩ := bcell hb4
  have hz4 : w3.heap.size < w4.heap.size := by have := hb4.size; simp at this; omega
  go_wp2_with fail
  refine (H5 _).mono ?_
  rintro e w5 ⟨rfl, hb5⟩
  obtain ⟨hc5, hf5⟩ := bcell hb5
  have hz5 : w3.heap.size < w5.heap.size := by have := hb5.size; omega
  go_wp2_with fail
  refine (H6 _).mono ?_
  rintro e w6 ⟨rfl, rfl⟩
  go_wp2
  go_ret
  have h1 := hb1.size; have h2 := hb2.size; have h3 := hb3.size; have h4 := hb4.size; have h5 := hb5.size
  simp at h4
  exact ⟨rfl, (((((hb1.trans (hb2.mono h1)).trans (hb3.mono (by omega))).alloc (by omega) _).trans (hb4.mono (by simp; omega))).trans (hb5.mono (by omega))).alloc (by omega) _⟩
end Go.Proofs.YtkegllacdhaioaaDoor
