/- What earlier stages proved: Ja Jb Jc Jd Je. -/
import Derived.Test.YtnfeihbkemgecaaDoorKa
namespace Go.Proofs.YtnfeihbkemgecaaDoor
open Go.RowKit

def jlp (y : Int) : Bool := decide (y % 4 = 0)
def jfst (y : Int) : Int := -1 + (y - 1) * 365 + (y - 1) / 4
def jul : Cal := ⟨jlp, jfst, fun y _ => by
  unfold jfst jlp
  by_cases h : y % 4 = 0
  · rw [decide_eq_true h]; simp only [l01]; omega
  · rw [decide_eq_false h]; simp only [l01]; omega⟩
theorem jlp_tmod (y : Int) : (y.tmod 4 == 0) = jlp y := by
  unfold jlp; rw [Bool.eq_iff_iff, beq_iff_eq, decide_eq_true_iff]
  exact ⟨fun h => by have := Int.dvd_of_tmod_eq_zero h; omega, fun h => Int.tmod_eq_zero_of_dvd (by omega)⟩
def Tab (w : World) : Prop := ∀ i : Nat, i < 12 → w.cell? ⟨1, i, none⟩ = some (.int .i64 (lens.getD i 0))
theorem Tab.heap {w : World} (h : Tab w) : 1 < w.heap.size := World.block_lt_of_cell? w _ (h 0 (by omega))
theorem Tab.below {w w' : World} {n : Nat} (h : Tab w) (hb : Below n w w') (hn : 1 < n) : Tab w' := fun i hi => by
  rw [hb.cell (p := ⟨1, i, none⟩) hn]; exact h i hi

theorem Tab.on {w w' : World} (h : Tab w) (hb : Below w.heap.size w w') : Tab w' := h.below hb h.heap

theorem jleap_any (y : Int) (w : World) :
    Calls Tryd.prog 88 #[.int .i64 y] w fun e w' => e = .returned (.bool (jlp y)) ∧ w = w' := by
  go_enter Tryd.func88, Tryd.ntmps88
  go_wp2
  go_ret
  exact ⟨ret_bool (jlp_tmod y), rfl⟩
theorem jin_any (y : Int) (w : World) :
    Calls Tryd.prog 87 #[.int .i64 y] w fun e w' => e = .returned (.bool (inY y)) ∧ w = w' := by
  cases h0 : decide (1 ≤ y)
  all_goals
    go_enter Tryd.func87, Tryd.ntmps87
    go_wp2
    go_ret
    exact ⟨ret_bool (by simp [inY, h0]), rfl⟩
theorem jlen_any (y m : Int) (w : World) (ht : Tab w) :
    Calls Tryd.prog 72 #[.int .i64 y, .int .i64 m] w fun e w' => e = .returned (.int .i64 (dim (jlp y) m)) ∧ w = w' := by
  by_cases h : 1 ≤ m ∧ m ≤ 12
  · have h' : m = 1 ∨ m = 2 ∨ m = 3 ∨ m = 4 ∨ m = 5 ∨ m = 6 ∨ m = 7 ∨ m = 8 ∨ m = 9 ∨ m = 10 ∨ m = 11 ∨ m = 12 := by omega
    clear h
    rcases h' with rfl | rfl | rfl | rfl | rfl | rfl | rfl | rfl | rfl | rfl | rfl | rfl
    · have hc : w.cell? ⟨1, 0, none⟩ = some (.int .i64 31) := ht 0 (by omega)
      clear ht
      go_enter Tryd.func72, Tryd.ntmps72
      go_wp2
      go_ret
      exact ⟨rfl, rfl⟩
    · have hc : w.cell? ⟨1, 1, none⟩ = some (.int .i64 28) := ht 1 (by omega)
      clear ht
      cases hl : jlp y
      · have H := fun w => (jleap_any y w)
        simp only [hl] at H
        clear hl
        go_enter Tryd.func72, Tryd.ntmps72
        go_wp2_with (go_at_call 88; refine (H _).mono ?_; rintro e w' ⟨rfl, rfl⟩)
        go_ret
        exact ⟨rfl, rfl⟩
      · have H := fun w => (jleap_any y w)
        simp only [hl] at H
        clear hl
        go_enter Tryd.func72, Tryd.ntmps72
        go_wp2_with (go_at_call 88; refine (H _).mono ?_; rintro e w' ⟨rfl, rfl⟩)
        go_ret
        exact ⟨rfl, rfl⟩
    · have hc : w.cell? ⟨1, 2, none⟩ = some (.int .i64 31) := ht 2 (by omega)
      clear ht
      go_enter Tryd.func72, Tryd.ntmps72
      go_wp2
      go_ret
      exact ⟨rfl, rfl⟩
    · have hc : w.cell? ⟨1, 3, none⟩ = some (.int .i64 30) := ht 3 (by omega)
      clear ht
      go_enter Tryd.func72, Tryd.ntmps72
      go_wp2
      go_ret
      exact ⟨rfl, rfl⟩
    · have hc : w.cell? ⟨1, 4, none⟩ = some (.int .i64 31) := ht 4 (by omega)
      clear ht
      go_enter Tryd.func72, Tryd.ntmps72
      go_wp2
      go_ret
      exact ⟨rfl, rfl⟩
    · have hc : w.cell? ⟨1, 5, none⟩ = some (.int .i64 30) := ht 5 (by omega)
      clear ht
      go_enter Tryd.func72, Tryd.ntmps72
      go_wp2
      go_ret
      exact ⟨rfl, rfl⟩
    · have hc : w.cell? ⟨1, 6, none⟩ = some (.int .i64 31) := ht 6 (by omega)
      clear ht
      go_enter Tryd.func72, Tryd.ntmps72
      go_wp2
      go_ret
      exact ⟨rfl, rfl⟩
    · have hc : w.cell? ⟨1, 7, none⟩ = some (.int .i64 31) := ht 7 (by omega)
      clear ht
      go_enter Tryd.func72, Tryd.ntmps72
      go_wp2
      go_ret
      exact ⟨rfl, rfl⟩
    · have hc : w.cell? ⟨1, 8, none⟩ = some (.int .i64 30) := ht 8 (by omega)
      clear ht
      go_enter Tryd.func72, Tryd.ntmps72
      go_wp2
      go_ret
      exact ⟨rfl, rfl⟩
    · have hc : w.cell? ⟨1, 9, none⟩ = some (.int .i64 31) := ht 9 (by omega)
      clear ht
      go_enter Tryd.func72, Tryd.ntmps72
      go_wp2
      go_ret
      exact ⟨rfl, rfl⟩
    · have hc : w.cell? ⟨1, 10, none⟩ = some (.int .i64 30) := ht 10 (by omega)
      clear ht
      go_enter Tryd.func72, Tryd.ntmps72
      go_wp2
      go_ret
      exact ⟨rfl, rfl⟩
    · have hc : w.cell? ⟨1, 11, none⟩ = some (.int .i64 31) := ht 11 (by omega)
      clear ht
      go_enter Tryd.func72, Tryd.ntmps72
      go_wp2
      go_ret
      exact ⟨rfl, rfl⟩
  · have h0 := Lib.hid (dim_out (jlp y) m (by omega))
    clear ht
    by_cases h1 : m < 1
    · clear h
      go_enter Tryd.func72, Tryd.ntmps72
      go_wp2
      go_ret
      exact ⟨ret_int h0.out.symm, rfl⟩
    · have h2 : 12 < m := by omega
      clear h
      go_enter Tryd.func72, Tryd.ntmps72
      go_wp2
      go_ret
      exact ⟨ret_int h0.out.symm, rfl⟩
end Go.Proofs.YtnfeihbkemgecaaDoor

namespace Go.Proofs.YtnfeihbkemgecaaDoor
open Go.RowKit

theorem jfirst_in (y : Int) (w : World) (h1 : 1 ≤ y) (h2 : y ≤ 1000000000) :
    Calls Tryd.prog 70 #[.int .i64 y] w fun e w' => e = .returned (.tuple #[.int .i64 (jfst y), .int .i64 0]) ∧ w = w' := by
  have H := fun w => jin_any y w
  simp only [inY_iff.2 ⟨h1, h2⟩] at H
  go_enter Tryd.func70, Tryd.ntmps70
  go_wp2_with (go_at_call 87; refine (H _).mono ?_; rintro e w' ⟨rfl, rfl⟩)
  go_ret2
  exact ⟨ret_ii (by unfold jfst; omega) rfl, rfl⟩
theorem jfirst_out (y : Int) (w : World) (h : ¬ (1 ≤ y ∧ y ≤ 1000000000)) :
    Calls Tryd.prog 70 #[.int .i64 y] w fun e w' => e = .returned (.tuple #[.int .i64 0, .int .i64 1]) ∧ w = w' := by
  have H := fun w => jin_any y w
  simp only [inY_false h] at H
  clear h
  go_enter Tryd.func70, Tryd.ntmps70
  go_wp2_with (go_at_call 87; refine (H _).mono ?_; rintro e w' ⟨rfl, rfl⟩)
  go_ret2
  exact ⟨rfl, rfl⟩
theorem split_any (D : Int) (w : World) (h1 : 0 ≤ D) (h2 : D ≤ 400000000000) (c : Int) (c1 : 0 ≤ c) (c2 : c ≤ 3)
    (hc : ∀ w, Calls Tryd.prog 89 #[.int .i64 (D % 1461 / 365), .int .i64 0, .int .i64 3] w fun e w' => e = .returned (.int .i64 c) ∧ w = w') :
    Calls Tryd.prog 73 #[.int .i64 D] w fun e w' => e = .returned (.tuple #[.int .i64 (1 + 4 * (D / 1461) + c), .int .i64 (D % 1461 - c * 365)]) ∧ w = w' := by
  go_enter Tryd.func73, Tryd.ntmps73
  go_wp2_with (go_at_call 89; refine (hc _).mono ?_; rintro e w' ⟨rfl, rfl⟩)
  go_ret2
  exact ⟨rfl, rfl⟩
theorem split_at (y r : Int) (w : World) (h1 : 1 ≤ y) (h2 : y ≤ 1000000000) (r1 : 0 ≤ r) (r2 : r < 365 + l01 (jlp y)) (D : Int) (hD : D = jfst y + 1 + r) :
    Calls Tryd.prog 73 #[.int .i64 D] w fun e w' => e = .returned (.tuple #[.int .i64 y, .int .i64 r]) ∧ w = w' := by
  have e0 : l01 (jlp y) = if y % 4 = 0 then 1 else 0 := by
    unfold jlp; by_cases g : y % 4 = 0
    · rw [decide_eq_true g, if_pos g]; rfl
    · rw [decide_eq_false g, if_neg g]; rfl
  have e1 : D / 1461 = (y - 1) / 4 := by unfold jfst at hD; split at e0 <;> omega
  have e2 : D % 1461 = (y - 1) % 4 * 365 + r := by unfold jfst at hD; omega
  have ec : clampI (D % 1461 / 365) 0 3 = (y - 1) % 4 := by
    rw [e2]; unfold clampI
    split at e0 <;> (repeat' split) <;> omega
  have H := split_any D w (by unfold jfst at hD; omega) (by have := l01_bd (jlp y); unfold jfst at hD; omega) ((y - 1) % 4) (by omega) (by omega) (fun w => by rw [← ec]; exact clamp_any _ _ _ w)
  have f1 : 1 + 4 * (D / 1461) + (y - 1) % 4 = y := by omega
  have f2 : D % 1461 - (y - 1) % 4 * 365 = r := by omega
  rw [f1, f2] at H
  exact H

end Go.Proofs.YtnfeihbkemgecaaDoor

namespace Go.Proofs.YtnfeihbkemgecaaDoor
open Go.RowKit

theorem Tab.dn {w : World} (h : Tab w) (n : Nat) : Tab (w.drewN n) := h.below (below_dn (Below.refl w.heap.size w) n) h.heap
theorem Tab.al {w : World} (h : Tab w) (o : Obj) : Tab (w.alloc o) := h.below ((Below.refl w.heap.size w).alloc (Nat.le_refl _) o) h.heap

theorem vld_not1 {y m d : Int} (h : inY y = false) : jul.vld y m d = false := by
  cases g : jul.vld y m d with
  | false => rfl
  | true => have := jul.vld_iff.1 g; rw [inY_iff.2 ⟨this.1, this.2.1⟩] at h; cases h
theorem vld_not2 {y m d : Int} (h : ¬ 1 ≤ d) : jul.vld y m d = false := by
  cases g : jul.vld y m d with
  | false => rfl
  | true => have := jul.vld_iff.1 g; omega
theorem vld_is {y m d : Int} (h : inY y = true) (h1 : 1 ≤ d) : decide (d ≤ dim (jlp y) m) = jul.vld y m d := by
  rw [inY_iff] at h
  rw [Bool.eq_iff_iff, decide_eq_true_iff, jul.vld_iff]
  exact ⟨fun g => ⟨h.1, h.2, h1, g⟩, fun g => g.2.2.2⟩

theorem jvalid_any (y m d : Int) (w : World) (ht : Tab w) :
    Calls Tryd.prog 71 #[.agg #[.int .i64 y, .int .i64 m, .int .i64 d]] w fun e w' => e = .returned (.bool (jul.vld y m d)) ∧ Below w.heap.size w w' := by
  have Hi := fun w => jin_any y w
  cases h : inY y
  · simp only [h] at Hi
    have hv := Lib.hid (vld_not1 (m := m) (d := d) h)
    clear h
    go_enter Tryd.func71, Tryd.ntmps71
    go_wp2_with fail
    go_quiet ((go_at_call 87; exact quiet_same (Hi _)))
    go_wp2
    go_ret
    exact ⟨ret_bool hv.out.symm, below_dn ((Below.refl _ _).alloc (Nat.le_refl _) _) _⟩
  · simp only [h] at Hi
    by_cases hd : 1 ≤ d
    · have hv := Lib.hid (vld_is (m := m) h hd)
      have Hl := fun n => jlen_any y m _ ((ht.al (Obj.cells #[Value.int IntKind.i64 y, Value.int IntKind.i64 m, Value.int IntKind.i64 d] 24)).dn n)
      clear h ht
      go_enter Tryd.func71, Tryd.ntmps71
      go_wp2_with fail
      go_quiet ((first | (go_at_call 87; exact quiet_same (Hi _)) | (go_at_call 72; exact quiet_same (Hl _))))
      go_wp2
      go_ret
      exact ⟨ret_bool hv.out, below_dn ((Below.refl _ _).alloc (Nat.le_refl _) _) _⟩
    · have hv := Lib.hid (vld_not2 (y := y) (m := m) hd)
      have hd : decide (1 ≤ d) = false := by simpa using hd
      clear h ht
      go_enter Tryd.func71, Tryd.ntmps71
      go_wp2_with fail
      go_quiet ((go_at_call 87; exact quiet_same (Hi _)))
      go_wp2
      go_ret
      exact ⟨ret_bool hv.out.symm, below_dn ((Below.refl _ _).alloc (Nat.le_refl _) _) _⟩

end Go.Proofs.YtnfeihbkemgecaaDoor

namespace Go.Proofs.YtnfeihbkemgecaaDoor
open Go.RowKit

theorem jday_out (y m d : Int) (w : World) (h : ¬ (1 ≤ y ∧ y ≤ 1000000000)) :
    Calls Tryd.prog 54 #[.agg #[.int .i64 y, .int .i64 m, .int .i64 d]] w fun e w' => e = .returned (.tuple #[.int .i64 0, .int .i64 1]) ∧ Below w.heap.size w w' := by
  have Hf := fun w => jfirst_out y w h
  clear h
  go_enter Tryd.func54, Tryd.ntmps54
  go_wp2_with (go_at_call 70; refine (Hf _).mono ?_; rintro e w' ⟨rfl, rfl⟩)
  go_ret2
  exact ⟨rfl, (Below.refl _ _).alloc (Nat.le_refl _) _⟩

theorem jday_bad (y m d : Int) (w : World) (ht : Tab w) (h1 : 1 ≤ y) (h2 : y ≤ 1000000000) (hv : jul.vld y m d = false) :
    Calls Tryd.prog 54 #[.agg #[.int .i64 y, .int .i64 m, .int .i64 d]] w fun e w' => e = .returned (.tuple #[.int .i64 0, .int .i64 2]) ∧ Below w.heap.size w w' := by
  have Hf := fun w => jfirst_in y w h1 h2
  have Hv := jvalid_any y m d _ (ht.al (Obj.cells #[Value.int IntKind.i64 y, Value.int IntKind.i64 m, Value.int IntKind.i64 d] 24))
  simp only [hv] at Hv
  clear hv ht
  go_enter Tryd.func54, Tryd.ntmps54
  go_wp2_with fail
  refine (Hf _).mono ?_
  rintro e w' ⟨rfl, rfl⟩
  go_wp2_with fail
  refine Hv.mono ?_
  rintro e w1 ⟨rfl, hb⟩
  go_wp2
  go_ret2
  exact ⟨rfl, below_al1 hb⟩

set_option maxHeartbeats 400000 in
theorem jday_at (y m d : Int) (w : World) (ht : Tab w) (hv : jul.vld y m d = true) :
    Calls Tryd.prog 54 #[.agg #[.int .i64 y, .int .i64 m, .int .i64 d]] w fun e w' => e = .returned (.tuple #[.int .i64 (jul.num y m d), .int .i64 0]) ∧ Below w.heap.size w w' := by
  obtain ⟨y1, y2, d1, d2⟩ := jul.vld_iff.1 hv
  obtain ⟨m1, m2⟩ := jul.vld_month hv
  have hd31 := (dim_bd (jul.lp y) m m1 m2).2
  have Hf := fun w => jfirst_in y w y1 y2
  have Hv := jvalid_any y m d _ (ht.al (Obj.cells #[Value.int IntKind.i64 y, Value.int IntKind.i64 m, Value.int IntKind.i64 d] 24))
  simp only [hv] at Hv
  have Ht := Lib.hid (ht.al (Obj.cells #[Value.int IntKind.i64 y, Value.int IntKind.i64 m, Value.int IntKind.i64 d] 24))
  have d31 : d ≤ 31 := by omega
  have hn : Hid (jul.num y m d = jfst y + cum (jlp y) m + d - 1) := rfl
  have hf1 : -1 ≤ jfst y := by unfold jfst; omega
  have hf2 : jfst y ≤ 366000000000 := by unfold jfst; omega
  generalize jul.num y m d = R at *
  clear hv ht d2 hd31
  go_enter Tryd.func54, Tryd.ntmps54
  go_wp2_with fail
  refine (Hf _).mono ?_
  rintro e w' ⟨rfl, rfl⟩
  go_wp2_with fail
  refine Hv.mono ?_
  rintro e w1 ⟨rfl, hb⟩
  obtain ⟨hc, hfz⟩ := bcell hb
  have Ht1 := Lib.hid (Ht.out.on hb)
  have Hb := Lib.hid (below_al1 hb)
  have hz : w.heap.size < w1.heap.size := by have := hb.size; simp at this; omega
  clear hb Hv Hf Ht
  go_wp2_with fail
  go_loop [4, 6] (fun n k => ∃ j : Int, 1 ≤ j ∧ j ≤ m ∧ k = .int .i64 j ∧ n = .int .i64 (jfst y + cum (jlp y) j)) (fun _ k => (12 - intOf k).toNat)
  case atStart => exact ⟨1, by omega, m1, rfl, by rw [cum_one]; simp⟩
  case round =>
    obtain ⟨j, j1, j2, rfl, rfl⟩ := hrel
    have cb := cum_bd (jlp y) j j1 (by omega)
    have db := dim_bd (jlp y) j j1 (by omega)
    have cs := Lib.hid (cum_succ (jlp y) j j1 (by omega))
    by_cases hlt : j < m
    · go_wp2_with (go_at_call 72; refine (jlen_any y j _ Ht1.out).mono ?_; rintro e w' ⟨rfl, rfl⟩)
      go_round
      case rel => exact ⟨j + 1, by omega, by omega, rfl, by rw [cs.out]; go_num⟩
      case measure => simp [intOf]; omega
    · obtain rfl : j = m := by omega
      go_wp2_with fail
      go_ret2
      exact ⟨ret_ii hn.out.symm rfl, Hb.out⟩

end Go.Proofs.YtnfeihbkemgecaaDoor

namespace Go.Proofs.YtnfeihbkemgecaaDoor
open Go.RowKit

theorem jfrom_no (n : Int) (w : World) (h : n < -1 ∨ 365249999998 < n) :
    Calls Tryd.prog 55 #[.int .i64 n] w fun e w' => e = .returned (.tuple #[.agg #[.int .i64 0, .int .i64 0, .int .i64 0], .int .i64 1]) ∧ Below w.heap.size w w' := by
  rcases h with h | h
  · go_enter Tryd.func55, Tryd.ntmps55
    go_wp2
    exact bodyPost_ret (v := .tuple #[.agg #[.int .i64 0, .int .i64 0, .int .i64 0], .int .i64 1]) (by simp [results, Tryd.results55, go_sem]) rfl ⟨rfl, (Below.refl _ _).alloc (Nat.le_refl _) _⟩
  · have h' : ¬ n < -1 := by omega
    go_enter Tryd.func55, Tryd.ntmps55
    go_wp2
    exact bodyPost_ret (v := .tuple #[.agg #[.int .i64 0, .int .i64 0, .int .i64 0], .int .i64 1]) (by simp [results, Tryd.results55, go_sem]) rfl ⟨rfl, (Below.refl _ _).alloc (Nat.le_refl _) _⟩

set_option maxHeartbeats 400000 in
theorem jfrom_at (n y m d : Int) (w : World) (ht : Tab w) (hv : jul.vld y m d = true) (hn : jul.num y m d = n) :
    Calls Tryd.prog 55 #[.int .i64 n] w fun e w' => e = .returned (.tuple #[.agg #[.int .i64 y, .int .i64 m, .int .i64 d], .int .i64 0]) ∧ Below w.heap.size w w' := by
  obtain ⟨y1, y2, d1, d2⟩ := jul.vld_iff.1 hv
  obtain ⟨m1, m2⟩ := jul.vld_month hv
  obtain ⟨q1, q2⟩ := jul.doy_bd hv
  have hd31 := (dim_bd (jul.lp y) m m1 m2).2
  have hr := jul.num_range hv
  have n1 : -1 ≤ n := by rw [← hn]; have : jul.fst 1 = -1 := by decide
                         omega
  have n2 : n ≤ 365249999998 := by rw [← hn]; have : jul.fst 1000000001 = 365249999999 := by decide
                                   omega
  have d31 : d ≤ 31 := by omega
  have hD : n + 1 = jfst y + 1 + (cum (jlp y) m + d - 1) := by rw [← hn]; show jfst y + cum (jlp y) m + d - 1 + 1 = _; omega
  have Hs := fun w => split_at y (cum (jlp y) m + d - 1) w y1 y2 q1 q2 (n + 1) hD
  have cbm := cum_bd (jlp y) m m1 (by omega)
  have Ht := ht.al (Obj.cells #[Value.int IntKind.i64 0, Value.int IntKind.i64 0, Value.int IntKind.i64 0] 24)
  have Hl := fun k => jlen_any y k _ Ht
  have d2 : d ≤ dim (jlp y) m := d2
  clear hv ht hd31 hD hn hr Ht q1 q2
  go_enter Tryd.func55, Tryd.ntmps55
  go_wp2_with fail
  refine (Hs _).mono ?_
  rintro e w' ⟨rfl, rfl⟩
  go_wp2_with fail
  go_loop [5, 6] (fun r k => ∃ j : Int, 1 ≤ j ∧ j ≤ m ∧ k = .int .i64 j ∧ r = .int .i64 (cum (jlp y) m + d - 1 - cum (jlp y) j)) (fun _ k => (12 - intOf k).toNat)
  case atStart => exact ⟨1, by omega, m1, rfl, by rw [cum_one]; simp⟩
  case round =>
    obtain ⟨j, j1, j2, rfl, rfl⟩ := hrel
    have cb := cum_bd (jlp y) j j1 (by omega)
    have db := dim_bd (jlp y) j j1 (by omega)
    by_cases hlt : j < m
    · have cn := cum_next (jlp y) j m j1 hlt (by omega)
      have cs := Lib.hid (cum_succ (jlp y) j j1 (by omega))
      have ht : dim (jlp y) j ≤ cum (jlp y) m + d - 1 - cum (jlp y) j := by omega
      go_wp2_with (go_at_call 72; refine (Hl _).mono ?_; rintro e w' ⟨rfl, rfl⟩)
      go_round
      case rel => exact ⟨j + 1, by omega, by omega, rfl, by rw [cs.out]; go_num⟩
      case measure => simp [intOf]; omega
    · obtain rfl : j = m := by omega
      have ht : ¬ dim (jlp y) j ≤ cum (jlp y) j + d - 1 - cum (jlp y) j := by omega
      have hd : cum (jlp y) j + d - 1 - cum (jlp y) j + 1 = d := by omega
      have Hd := Lib.hid hd
      clear hd
      go_wp2_with (go_at_call 72; refine (Hl _).mono ?_; rintro e w' ⟨rfl, rfl⟩)
      refine bodyPost_ret (v := .tuple #[.agg #[.int .i64 y, .int .i64 j, .int .i64 (cum (jlp y) j + d - 1 - cum (jlp y) j + 1)], .int .i64 0]) (by simp [results, Tryd.results55, go_sem]) rfl ⟨by rw [Hd.out], ?_⟩
      exact (Below.refl _ _).alloc (Nat.le_refl _) _
end Go.Proofs.YtnfeihbkemgecaaDoor
