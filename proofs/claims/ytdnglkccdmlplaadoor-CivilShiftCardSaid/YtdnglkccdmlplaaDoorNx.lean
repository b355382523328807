/- The contracts of package computusref02's Less and Next. -/
import Derived.Test.YtdnglkccdmlplaaDoorCo
namespace Go.Proofs.YtdnglkccdmlplaaDoor
open Go.RowKit

theorem rless_any (y m d y' m' d' : Int) (w : World) :
    Calls Tryd.prog 27 #[.agg #[.int .i64 y, .int .i64 m, .int .i64 d], .agg #[.int .i64 y', .int .i64 m', .int .i64 d']] w fun e w' => e = .returned (.bool (Cal.less y m d y' m' d')) ∧ Below w.heap.size w w' := by
  cases h1 : (y != y')
  · cases h2 : (m != m')
    all_goals
      go_enter Tryd.func27, Tryd.ntmps27
      go_wp2
      go_ret
      exact ⟨ret_bool (by simp at h1 h2; unfold Cal.less; rw [Bool.eq_iff_iff, decide_eq_true_iff, decide_eq_true_iff]; omega), ((Below.refl _ _).alloc (Nat.le_refl _) _).alloc (by simp) _⟩
  · go_enter Tryd.func27, Tryd.ntmps27
    go_wp2
    go_ret
    exact ⟨ret_bool (by simp at h1; unfold Cal.less; rw [Bool.eq_iff_iff, decide_eq_true_iff, decide_eq_true_iff]; omega), ((Below.refl _ _).alloc (Nat.le_refl _) _).alloc (by simp) _⟩

theorem rnext_any (y m d : Int) (l : Bool) (w : World) (y1 : -1000000000000 ≤ y) (y2 : y ≤ 1000000000000) (m1 : -1000000000000 ≤ m) (m2 : m ≤ 1000000000000) (d1 : -1000000000000 ≤ d) (d2 : d ≤ 1000000000000) :
    Calls Tryd.prog 25 #[.agg #[.int .i64 y, .int .i64 m, .int .i64 d], .bool l] w fun e w' => e = .returned (.agg #[.int .i64 (Cal.nextY l y m d), .int .i64 (Cal.nextM l y m d), .int .i64 (Cal.nextD l y m d)]) ∧ Below w.heap.size w w' := by
  have Hl := fun w => rlen_any l m w
  by_cases h : d < dim l m
  · have e1 : Hid (Cal.nextY l y m d = y) := by show Cal.nextY l y m d = y; unfold Cal.nextY; rw [if_pos h]
    have e2 : Hid (Cal.nextM l y m d = m) := by show Cal.nextM l y m d = m; unfold Cal.nextM; rw [if_pos h]
    have e3 : Hid (Cal.nextD l y m d = d + 1) := by show Cal.nextD l y m d = d + 1; unfold Cal.nextD; rw [if_pos h]
    go_enter Tryd.func25, Tryd.ntmps25
    go_wp2_with fail
    go_quiet ((go_at_call 33; exact quiet_same (Hl _)))
    simp only [dn_al]
    rename_i nq
    have Hz : w.heap.size = (w.drewN nq).heap.size := rfl
    have Hb := Lib.hid (below_dn (Below.refl w.heap.size w) nq)
    generalize w.drewN nq = x at *
    rw [Hz]
    have Hz' := Lib.hid Hz
    clear Hz
    go_wp2
    refine bodyPost_ret (v := .agg #[.int .i64 y, .int .i64 m, .int .i64 (d + 1)]) (by simp [results, Tryd.results25, go_sem]) rfl ⟨ret_dt e1.out.symm e2.out.symm e3.out.symm, ?_⟩
    exact (Hb.out.alloc (by rw [Hz'.out]; exact Nat.le_refl _) _).alloc (by rw [Hz'.out]; simp) _
  · by_cases h2 : m < 12
    · have e1 : Hid (Cal.nextY l y m d = y) := by show Cal.nextY l y m d = y; unfold Cal.nextY; rw [if_neg h, if_pos h2]
      have e2 : Hid (Cal.nextM l y m d = m + 1) := by show Cal.nextM l y m d = m + 1; unfold Cal.nextM; rw [if_neg h, if_pos h2]
      have e3 : Hid (Cal.nextD l y m d = 1) := by show Cal.nextD l y m d = 1; unfold Cal.nextD; rw [if_neg h]
      go_enter Tryd.func25, Tryd.ntmps25
      go_wp2_with fail
      go_quiet ((go_at_call 33; exact quiet_same (Hl _)))
      simp only [dn_al]
      rename_i nq
      have Hz : w.heap.size = (w.drewN nq).heap.size := rfl
      have Hb := Lib.hid (below_dn (Below.refl w.heap.size w) nq)
      generalize w.drewN nq = x at *
      rw [Hz]
      have Hz' := Lib.hid Hz
      clear Hz
      go_wp2
      refine bodyPost_ret (v := .agg #[.int .i64 y, .int .i64 (m + 1), .int .i64 1]) (by simp [results, Tryd.results25, go_sem]) rfl ⟨ret_dt e1.out.symm e2.out.symm e3.out.symm, ?_⟩
      exact (Hb.out.alloc (by rw [Hz'.out]; exact Nat.le_refl _) _).alloc (by rw [Hz'.out]; simp) _
    · have e1 : Hid (Cal.nextY l y m d = y + 1) := by show Cal.nextY l y m d = y + 1; unfold Cal.nextY; rw [if_neg h, if_neg h2]
      have e2 : Hid (Cal.nextM l y m d = 1) := by show Cal.nextM l y m d = 1; unfold Cal.nextM; rw [if_neg h, if_neg h2]
      have e3 : Hid (Cal.nextD l y m d = 1) := by show Cal.nextD l y m d = 1; unfold Cal.nextD; rw [if_neg h]
      go_enter Tryd.func25, Tryd.ntmps25
      go_wp2_with fail
      go_quiet ((go_at_call 33; exact quiet_same (Hl _)))
      simp only [dn_al]
      rename_i nq
      have Hz : w.heap.size = (w.drewN nq).heap.size := rfl
      have Hb := Lib.hid (below_dn (Below.refl w.heap.size w) nq)
      generalize w.drewN nq = x at *
      rw [Hz]
      have Hz' := Lib.hid Hz
      clear Hz
      go_wp2
      refine bodyPost_ret (v := .agg #[.int .i64 (y + 1), .int .i64 1, .int .i64 1]) (by simp [results, Tryd.results25, go_sem]) rfl ⟨ret_dt e1.out.symm e2.out.symm e3.out.symm, ?_⟩
      exact (Hb.out.alloc (by rw [Hz'.out]; exact Nat.le_refl _) _).alloc (by rw [Hz'.out]; simp) _


end Go.Proofs.YtdnglkccdmlplaaDoor
