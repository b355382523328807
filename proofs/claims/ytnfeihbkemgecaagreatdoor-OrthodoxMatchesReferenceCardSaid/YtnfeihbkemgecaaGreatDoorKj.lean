/- What earlier stages proved: Ja Jb Jc Jd Je Jf. -/
import Derived.Test.YtnfeihbkemgecaaGreatDoorKa
namespace Go.Proofs.YtnfeihbkemgecaaGreatDoor
open Go.RowKit

def jlp (y : Int) : Bool := decide (y % 4 = 0)
def jfst (y : Int) : Int := -1 + (y - 1) * 365 + (y - 1) / 4
def jul : Cal := ⟨jlp, jfst, fun y _ => by
  unfold jfst jlp
  by_cases h : y % 4 = 0
  · rw [decide_eq_true h]; simp only [l01]; omega
  · rw [decide_eq_false h]; simp only [l01]; omega⟩
theorem jlp_tmod (y : Int) : (y.tmod 4 == 0) = jlp y := by
  unfold jlp; rw [Bool.eq_iff_iff, beq_iff_eq, decide_eq_true_iff]
  exact ⟨fun h => by have := Int.dvd_of_tmod_eq_zero h; omega, fun h => Int.tmod_eq_zero_of_dvd (by omega)⟩
theorem jlp_fmod (y : Int) : (y.fmod 4 == 0) = jlp y := by
  unfold jlp; rw [Bool.eq_iff_iff, beq_iff_eq, decide_eq_true_iff, Int.fmod_eq_emod_of_nonneg _ (by omega)]
def Tab (w : World) : Prop := ∀ i : Nat, i < 12 → w.cell? ⟨0, i, none⟩ = some (.int .i64 (lens.getD i 0))
theorem Tab.heap {w : World} (h : Tab w) : 0 < w.heap.size := World.block_lt_of_cell? w _ (h 0 (by omega))
theorem Tab.below {w w' : World} {n : Nat} (h : Tab w) (hb : Below n w w') (hn : 0 < n) : Tab w' := fun i hi => by
  rw [hb.cell (p := ⟨0, i, none⟩) hn]; exact h i hi

theorem Tab.on {w w' : World} (h : Tab w) (hb : Below w.heap.size w w') : Tab w' := h.below hb h.heap

theorem jleap_any (y : Int) (w : World) :
    Calls Tryz.prog 96 #[.int .i64 y] w fun e w' => e = .returned (.bool (jlp y)) ∧ w = w' := by
  go_enter Tryz.func96, Tryz.ntmps96
  go_wp2
  go_ret
  exact ⟨ret_bool (jlp_tmod y), rfl⟩
theorem rleap_any (y : Int) (w : World) (hy : inR y = true) :
    Calls Tryz.prog 38 #[.int .i64 y] w fun e w' => e = .returned (.bool (jlp y)) ∧ w = w' := by
  have H := fun w => rmod_any y 4 w hy (by decide) (by simp [spl, fits])
  go_enter Tryz.func38, Tryz.ntmps38
  go_wp2_with (go_at_call 48; refine (H _).mono ?_; rintro e w' ⟨rfl, rfl⟩)
  go_ret
  exact ⟨ret_bool (jlp_fmod y), rfl⟩
theorem jin_any (y : Int) (w : World) :
    Calls Tryz.prog 95 #[.int .i64 y] w fun e w' => e = .returned (.bool (inY y)) ∧ w = w' := by
  cases h0 : decide (1 ≤ y)
  all_goals
    go_enter Tryz.func95, Tryz.ntmps95
    go_wp2
    go_ret
    exact ⟨ret_bool (by simp [inY, h0]), rfl⟩
theorem jlen_any (y m : Int) (w : World) (ht : Tab w) :
    Calls Tryz.prog 72 #[.int .i64 y, .int .i64 m] w fun e w' => e = .returned (.int .i64 (dim (jlp y) m)) ∧ w = w' := by
  by_cases h : 1 ≤ m ∧ m ≤ 12
  · have h' : m = 1 ∨ m = 2 ∨ m = 3 ∨ m = 4 ∨ m = 5 ∨ m = 6 ∨ m = 7 ∨ m = 8 ∨ m = 9 ∨ m = 10 ∨ m = 11 ∨ m = 12 := by omega
    clear h
    rcases h' with rfl | rfl | rfl | rfl | rfl | rfl | rfl | rfl | rfl | rfl | rfl | rfl
    · have hc : w.cell? ⟨0, 0, none⟩ = some (.int .i64 31) := ht 0 (by omega)
      clear ht
      go_enter Tryz.func72, Tryz.ntmps72
      go_wp2
      go_ret
      exact ⟨rfl, rfl⟩
    · have hc : w.cell? ⟨0, 1, none⟩ = some (.int .i64 28) := ht 1 (by omega)
      clear ht
      cases hl : jlp y
      · have H := fun w => (jleap_any y w)
        simp only [hl] at H
        clear hl
        go_enter Tryz.func72, Tryz.ntmps72
        go_wp2_with (go_at_call 96; refine (H _).mono ?_; rintro e w' ⟨rfl, rfl⟩)
        go_ret
        exact ⟨rfl, rfl⟩
      · have H := fun w => (jleap_any y w)
        simp only [hl] at H
        clear hl
        go_enter Tryz.func72, Tryz.ntmps72
        go_wp2_with (go_at_call 96; refine (H _).mono ?_; rintro e w' ⟨rfl, rfl⟩)
        go_ret
        exact ⟨rfl, rfl⟩
    · have hc : w.cell? ⟨0, 2, none⟩ = some (.int .i64 31) := ht 2 (by omega)
      clear ht
      go_enter Tryz.func72, Tryz.ntmps72
      go_wp2
      go_ret
      exact ⟨rfl, rfl⟩
    · have hc : w.cell? ⟨0, 3, none⟩ = some (.int .i64 30) := ht 3 (by omega)
      clear ht
      go_enter Tryz.func72, Tryz.ntmps72
      go_wp2
      go_ret
      exact ⟨rfl, rfl⟩
    · have hc : w.cell? ⟨0, 4, none⟩ = some (.int .i64 31) := ht 4 (by omega)
      clear ht
      go_enter Tryz.func72, Tryz.ntmps72
      go_wp2
      go_ret
      exact ⟨rfl, rfl⟩
    · have hc : w.cell? ⟨0, 5, none⟩ = some (.int .i64 30) := ht 5 (by omega)
      clear ht
      go_enter Tryz.func72, Tryz.ntmps72
      go_wp2
      go_ret
      exact ⟨rfl, rfl⟩
    · have hc : w.cell? ⟨0, 6, none⟩ = some (.int .i64 31) := ht 6 (by omega)
      clear ht
      go_enter Tryz.func72, Tryz.ntmps72
      go_wp2
      go_ret
      exact ⟨rfl, rfl⟩
    · have hc : w.cell? ⟨0, 7, none⟩ = some (.int .i64 31) := ht 7 (by omega)
      clear ht
      go_enter Tryz.func72, Tryz.ntmps72
      go_wp2
      go_ret
      exact ⟨rfl, rfl⟩
    · have hc : w.cell? ⟨0, 8, none⟩ = some (.int .i64 30) := ht 8 (by omega)
      clear ht
      go_enter Tryz.func72, Tryz.ntmps72
      go_wp2
      go_ret
      exact ⟨rfl, rfl⟩
    · have hc : w.cell? ⟨0, 9, none⟩ = some (.int .i64 31) := ht 9 (by omega)
      clear ht
      go_enter Tryz.func72, Tryz.ntmps72
      go_wp2
      go_ret
      exact ⟨rfl, rfl⟩
    · have hc : w.cell? ⟨0, 10, none⟩ = some (.int .i64 30) := ht 10 (by omega)
      clear ht
      go_enter Tryz.func72, Tryz.ntmps72
      go_wp2
      go_ret
      exact ⟨rfl, rfl⟩
    · have hc : w.cell? ⟨0, 11, none⟩ = some (.int .i64 31) := ht 11 (by omega)
      clear ht
      go_enter Tryz.func72, Tryz.ntmps72
      go_wp2
      go_ret
      exact ⟨rfl, rfl⟩
  · have h0 := Lib.hid (dim_out (jlp y) m (by omega))
    clear ht
    by_cases h1 : m < 1
    · clear h
      go_enter Tryz.func72, Tryz.ntmps72
      go_wp2
      go_ret
      exact ⟨ret_int h0.out.symm, rfl⟩
    · have h2 : 12 < m := by omega
      clear h
      go_enter Tryz.func72, Tryz.ntmps72
      go_wp2
      go_ret
      exact ⟨ret_int h0.out.symm, rfl⟩
end Go.Proofs.YtnfeihbkemgecaaGreatDoor

namespace Go.Proofs.YtnfeihbkemgecaaGreatDoor
open Go.RowKit

theorem jfirst_in (y : Int) (w : World) (h1 : 1 ≤ y) (h2 : y ≤ 1000000000) :
    Calls Tryz.prog 70 #[.int .i64 y] w fun e w' => e = .returned (.tuple #[.int .i64 (jfst y), .int .i64 0]) ∧ w = w' := by
  have H := fun w => jin_any y w
  simp only [inY_iff.2 ⟨h1, h2⟩] at H
  go_enter Tryz.func70, Tryz.ntmps70
  go_wp2_with (go_at_call 95; refine (H _).mono ?_; rintro e w' ⟨rfl, rfl⟩)
  go_ret2
  exact ⟨ret_ii (by unfold jfst; omega) rfl, rfl⟩
theorem jfirst_out (y : Int) (w : World) (h : ¬ (1 ≤ y ∧ y ≤ 1000000000)) :
    Calls Tryz.prog 70 #[.int .i64 y] w fun e w' => e = .returned (.tuple #[.int .i64 0, .int .i64 1]) ∧ w = w' := by
  have H := fun w => jin_any y w
  simp only [inY_false h] at H
  clear h
  go_enter Tryz.func70, Tryz.ntmps70
  go_wp2_with (go_at_call 95; refine (H _).mono ?_; rintro e w' ⟨rfl, rfl⟩)
  go_ret2
  exact ⟨rfl, rfl⟩
theorem rfirst_in (y : Int) (w : World) (h1 : 1 ≤ y) (h2 : y ≤ 1000000001) :
    Calls Tryz.prog 37 #[.int .i64 y] w fun e w' => e = .returned (.int .i64 (jfst y)) ∧ w = w' := by
  go_enter Tryz.func37, Tryz.ntmps37
  go_wp2
  go_ret
  exact ⟨ret_int (by unfold jfst; omega), rfl⟩

theorem split_any (D : Int) (w : World) (h1 : 0 ≤ D) (h2 : D ≤ 400000000000) (c : Int) (c1 : 0 ≤ c) (c2 : c ≤ 3)
    (hc : ∀ w, Calls Tryz.prog 97 #[.int .i64 (D % 1461 / 365), .int .i64 0, .int .i64 3] w fun e w' => e = .returned (.int .i64 c) ∧ w = w') :
    Calls Tryz.prog 73 #[.int .i64 D] w fun e w' => e = .returned (.tuple #[.int .i64 (1 + 4 * (D / 1461) + c), .int .i64 (D % 1461 - c * 365)]) ∧ w = w' := by
  go_enter Tryz.func73, Tryz.ntmps73
  go_wp2_with (go_at_call 97; refine (hc _).mono ?_; rintro e w' ⟨rfl, rfl⟩)
  go_ret2
  exact ⟨rfl, rfl⟩
theorem split_at (y r : Int) (w : World) (h1 : 1 ≤ y) (h2 : y ≤ 1000000000) (r1 : 0 ≤ r) (r2 : r < 365 + l01 (jlp y)) (D : Int) (hD : D = jfst y + 1 + r) :
    Calls Tryz.prog 73 #[.int .i64 D] w fun e w' => e = .returned (.tuple #[.int .i64 y, .int .i64 r]) ∧ w = w' := by
  have e0 : l01 (jlp y) = if y % 4 = 0 then 1 else 0 := by
    unfold jlp; by_cases g : y % 4 = 0
    · rw [decide_eq_true g, if_pos g]; rfl
    · rw [decide_eq_false g, if_neg g]; rfl
  have e1 : D / 1461 = (y - 1) / 4 := by unfold jfst at hD; split at e0 <;> omega
  have e2 : D % 1461 = (y - 1) % 4 * 365 + r := by unfold jfst at hD; omega
  have ec : clampI (D % 1461 / 365) 0 3 = (y - 1) % 4 := by
    rw [e2]; unfold clampI
    split at e0 <;> (repeat' split) <;> omega
  have H := split_any D w (by unfold jfst at hD; omega) (by have := l01_bd (jlp y); unfold jfst at hD; omega) ((y - 1) % 4) (by omega) (by omega) (fun w => by rw [← ec]; exact clamp_any _ _ _ w)
  have f1 : 1 + 4 * (D / 1461) + (y - 1) % 4 = y := by omega
  have f2 : D % 1461 - (y - 1) % 4 * 365 = r := by omega
  rw [f1, f2] at H
  exact H

end Go.Proofs.YtnfeihbkemgecaaGreatDoor

namespace Go.Proofs.YtnfeihbkemgecaaGreatDoor
open Go.RowKit

theorem Tab.dn {w : World} (h : Tab w) (n : Nat) : Tab (w.drewN n) := h.below (below_dn (Below.refl w.heap.size w) n) h.heap
theorem Tab.al {w : World} (h : Tab w) (o : Obj) : Tab (w.alloc o) := h.below ((Below.refl w.heap.size w).alloc (Nat.le_refl _) o) h.heap

theorem vld_not1 {y m d : Int} (h : inY y = false) : jul.vld y m d = false := by
  cases g : jul.vld y m d with
  | false => rfl
  | true => have := jul.vld_iff.1 g; rw [inY_iff.2 ⟨this.1, this.2.1⟩] at h; cases h
theorem vld_not2 {y m d : Int} (h : ¬ 1 ≤ d) : jul.vld y m d = false := by
  cases g : jul.vld y m d with
  | false => rfl
  | true => have := jul.vld_iff.1 g; omega
theorem vld_is {y m d : Int} (h : inY y = true) (h1 : 1 ≤ d) : decide (d ≤ dim (jlp y) m) = jul.vld y m d := by
  rw [inY_iff] at h
  rw [Bool.eq_iff_iff, decide_eq_true_iff, jul.vld_iff]
  exact ⟨fun g => ⟨h.1, h.2, h1, g⟩, fun g => g.2.2.2⟩

theorem jvalid_any (y m d : Int) (w : World) (ht : Tab w) :
    Calls Tryz.prog 71 #[.agg #[.int .i64 y, .int .i64 m, .int .i64 d]] w fun e w' => e = .returned (.bool (jul.vld y m d)) ∧ Below w.heap.size w w' := by
  have Hi := fun w => jin_any y w
  cases h : inY y
  · simp only [h] at Hi
    have hv := Lib.hid (vld_not1 (m := m) (d := d) h)
    clear h
    go_enter Tryz.func71, Tryz.ntmps71
    go_wp2_with fail
    go_quiet ((go_at_call 95; exact quiet_same (Hi _)))
    go_wp2
    go_ret
    exact ⟨ret_bool hv.out.symm, below_dn ((Below.refl _ _).alloc (Nat.le_refl _) _) _⟩
  · simp only [h] at Hi
    by_cases hd : 1 ≤ d
    · have hv := Lib.hid (vld_is (m := m) h hd)
      have Hl := fun n => jlen_any y m _ ((ht.al (Obj.cells #[Value.int IntKind.i64 y, Value.int IntKind.i64 m, Value.int IntKind.i64 d] 23)).dn n)
      clear h ht
      go_enter Tryz.func71, Tryz.ntmps71
      go_wp2_with fail
      go_quiet ((first | (go_at_call 95; exact quiet_same (Hi _)) | (go_at_call 72; exact quiet_same (Hl _))))
      go_wp2
      go_ret
      exact ⟨ret_bool hv.out, below_dn ((Below.refl _ _).alloc (Nat.le_refl _) _) _⟩
    · have hv := Lib.hid (vld_not2 (y := y) (m := m) hd)
      have hd : decide (1 ≤ d) = false := by simpa using hd
      clear h ht
      go_enter Tryz.func71, Tryz.ntmps71
      go_wp2_with fail
      go_quiet ((go_at_call 95; exact quiet_same (Hi _)))
      go_wp2
      go_ret
      exact ⟨ret_bool hv.out.symm, below_dn ((Below.refl _ _).alloc (Nat.le_refl _) _) _⟩

theorem rvalid_any (y m d : Int) (w : World) (hy : inR y = true) :
    Calls Tryz.prog 36 #[.agg #[.int .i64 y, .int .i64 m, .int .i64 d]] w fun e w' => e = .returned (.bool (jul.vld y m d)) ∧ Below w.heap.size w w' := by
  have Hi := fun w => rin_any y w
  have Hp := fun w => rleap_any y w hy
  have Hl := fun w => rlen_any (jlp y) m w
  clear hy
  cases h : inY y
  · simp only [h] at Hi
    have hv := Lib.hid (vld_not1 (m := m) (d := d) h)
    clear h
    go_enter Tryz.func36, Tryz.ntmps36
    go_wp2_with fail
    go_quiet ((go_at_call 15; exact quiet_same (Hi _)))
    go_wp2
    go_ret
    exact ⟨ret_bool hv.out.symm, below_dn ((Below.refl _ _).alloc (Nat.le_refl _) _) _⟩
  · simp only [h] at Hi
    by_cases hd : 1 ≤ d
    · have hv := Lib.hid (vld_is (m := m) h hd)
      clear h
      go_enter Tryz.func36, Tryz.ntmps36
      go_wp2_with fail
      go_quiet ((first | (go_at_call 15; exact quiet_same (Hi _)) | (go_at_call 38; exact quiet_same (Hp _)) | (go_at_call 28; exact quiet_same (Hl _))))
      go_wp2
      go_ret
      exact ⟨ret_bool hv.out, below_dn ((Below.refl _ _).alloc (Nat.le_refl _) _) _⟩
    · have hv := Lib.hid (vld_not2 (y := y) (m := m) hd)
      have hd : decide (1 ≤ d) = false := by simpa using hd
      clear h
      go_enter Tryz.func36, Tryz.ntmps36
      go_wp2_with fail
      go_quiet ((go_at_call 15; exact quiet_same (Hi _)))
      go_wp2
      go_ret
      exact ⟨ret_bool hv.out.symm, below_dn ((Below.refl _ _).alloc (Nat.le_refl _) _) _⟩
end Go.Proofs.YtnfeihbkemgecaaGreatDoor

namespace Go.Proofs.YtnfeihbkemgecaaGreatDoor
open Go.RowKit

theorem jday_out (y m d : Int) (w : World) (h : ¬ (1 ≤ y ∧ y ≤ 1000000000)) :
    Calls Tryz.prog 56 #[.agg #[.int .i64 y, .int .i64 m, .int .i64 d]] w fun e w' => e = .returned (.tuple #[.int .i64 0, .int .i64 1]) ∧ Below w.heap.size w w' := by
  have Hf := fun w => jfirst_out y w h
  clear h
  go_enter Tryz.func56, Tryz.ntmps56
  go_wp2_with (go_at_call 70; refine (Hf _).mono ?_; rintro e w' ⟨rfl, rfl⟩)
  go_ret2
  exact ⟨rfl, (Below.refl _ _).alloc (Nat.le_refl _) _⟩

theorem jday_bad (y m d : Int) (w : World) (ht : Tab w) (h1 : 1 ≤ y) (h2 : y ≤ 1000000000) (hv : jul.vld y m d = false) :
    Calls Tryz.prog 56 #[.agg #[.int .i64 y, .int .i64 m, .int .i64 d]] w fun e w' => e = .returned (.tuple #[.int .i64 0, .int .i64 2]) ∧ Below w.heap.size w w' := by
  have Hf := fun w => jfirst_in y w h1 h2
  have Hv := jvalid_any y m d _ (ht.al (Obj.cells #[Value.int IntKind.i64 y, Value.int IntKind.i64 m, Value.int IntKind.i64 d] 23))
  simp only [hv] at Hv
  clear hv ht
  go_enter Tryz.func56, Tryz.ntmps56
  go_wp2_with fail
  refine (Hf _).mono ?_
  rintro e w' ⟨rfl, rfl⟩
  go_wp2_with fail
  refine Hv.mono ?_
  rintro e w1 ⟨rfl, hb⟩
  go_wp2
  go_ret2
  exact ⟨rfl, below_al1 hb⟩

set_option maxHeartbeats 400000 in
theorem jday_at (y m d : Int) (w : World) (ht : Tab w) (hv : jul.vld y m d = true) :
    Calls Tryz.prog 56 #[.agg #[.int .i64 y, .int .i64 m, .int .i64 d]] w fun e w' => e = .returned (.tuple #[.int .i64 (jul.num y m d), .int .i64 0]) ∧ Below w.heap.size w w' := by
  obtain ⟨y1, y2, d1, d2⟩ := jul.vld_iff.1 hv
  obtain ⟨m1, m2⟩ := jul.vld_month hv
  have hd31 := (dim_bd (jul.lp y) m m1 m2).2
  have Hf := fun w => jfirst_in y w y1 y2
  have Hv := jvalid_any y m d _ (ht.al (Obj.cells #[Value.int IntKind.i64 y, Value.int IntKind.i64 m, Value.int IntKind.i64 d] 23))
  simp only [hv] at Hv
  have Ht := Lib.hid (ht.al (Obj.cells #[Value.int IntKind.i64 y, Value.int IntKind.i64 m, Value.int IntKind.i64 d] 23))
  have d31 : d ≤ 31 := by omega
  have hn : Hid (jul.num y m d = jfst y + cum (jlp y) m + d - 1) := rfl
  have hf1 : -1 ≤ jfst y := by unfold jfst; omega
  have hf2 : jfst y ≤ 366000000000 := by unfold jfst; omega
  generalize jul.num y m d = R at *
  clear hv ht d2 hd31
  go_enter Tryz.func56, Tryz.ntmps56
  go_wp2_with fail
  refine (Hf _).mono ?_
  rintro e w' ⟨rfl, rfl⟩
  go_wp2_with fail
  refine Hv.mono ?_
  rintro e w1 ⟨rfl, hb⟩
  obtain ⟨hc, hfz⟩ := bcell hb
  have Ht1 := Lib.hid (Ht.out.on hb)
  have Hb := Lib.hid (below_al1 hb)
  have hz : w.heap.size < w1.heap.size := by have := hb.size; simp at this; omega
  clear hb Hv Hf Ht
  go_wp2_with fail
  go_loop [4, 6] (fun n k => ∃ j : Int, 1 ≤ j ∧ j ≤ m ∧ k = .int .i64 j ∧ n = .int .i64 (jfst y + cum (jlp y) j)) (fun _ k => (12 - intOf k).toNat)
  case atStart => exact ⟨1, by omega, m1, rfl, by rw [cum_one]; simp⟩
  case round =>
    obtain ⟨j, j1, j2, rfl, rfl⟩ := hrel
    have cb := cum_bd (jlp y) j j1 (by omega)
    have db := dim_bd (jlp y) j j1 (by omega)
    have cs := Lib.hid (cum_succ (jlp y) j j1 (by omega))
    by_cases hlt : j < m
    · go_wp2_with (go_at_call 72; refine (jlen_any y j _ Ht1.out).mono ?_; rintro e w' ⟨rfl, rfl⟩)
      go_round
      case rel => exact ⟨j + 1, by omega, by omega, rfl, by rw [cs.out]; go_num⟩
      case measure => simp [intOf]; omega
    · obtain rfl : j = m := by omega
      go_wp2_with fail
      go_ret2
      exact ⟨ret_ii hn.out.symm rfl, Hb.out⟩

theorem rday_out (y m d : Int) (w : World) (h : ¬ (1 ≤ y ∧ y ≤ 1000000000)) :
    Calls Tryz.prog 21 #[.agg #[.int .i64 y, .int .i64 m, .int .i64 d]] w fun e w' => e = .returned (.tuple #[.int .i64 0, .int .i64 1]) ∧ Below w.heap.size w w' := by
  have Hi := fun w => rin_any y w
  simp only [inY_false h] at Hi
  clear h
  go_enter Tryz.func21, Tryz.ntmps21
  go_wp2_with (go_at_call 15; refine (Hi _).mono ?_; rintro e w' ⟨rfl, rfl⟩)
  go_ret2
  exact ⟨rfl, (Below.refl _ _).alloc (Nat.le_refl _) _⟩

theorem rday_bad (y m d : Int) (w : World) (h1 : 1 ≤ y) (h2 : y ≤ 1000000000) (hv : jul.vld y m d = false) :
    Calls Tryz.prog 21 #[.agg #[.int .i64 y, .int .i64 m, .int .i64 d]] w fun e w' => e = .returned (.tuple #[.int .i64 0, .int .i64 2]) ∧ Below w.heap.size w w' := by
  have Hi := fun w => rin_any y w
  simp only [inY_iff.2 ⟨h1, h2⟩] at Hi
  have Hv := fun w => rvalid_any y m d w (inR_iff.2 (by omega))
  simp only [hv] at Hv
  clear hv
  go_enter Tryz.func21, Tryz.ntmps21
  go_wp2_with fail
  refine (Hi _).mono ?_
  rintro e w' ⟨rfl, rfl⟩
  go_wp2_with fail
  refine (Hv _).mono ?_
  rintro e w1 ⟨rfl, hb⟩
  go_wp2
  go_ret2
  exact ⟨rfl, below_al1 hb⟩

set_option maxHeartbeats 400000 in
theorem rday_at (y m d : Int) (w : World) (hv : jul.vld y m d = true) :
    Calls Tryz.prog 21 #[.agg #[.int .i64 y, .int .i64 m, .int .i64 d]] w fun e w' => e = .returned (.tuple #[.int .i64 (jul.num y m d), .int .i64 0]) ∧ Below w.heap.size w w' := by
  obtain ⟨y1, y2, d1, d2⟩ := jul.vld_iff.1 hv
  obtain ⟨m1, m2⟩ := jul.vld_month hv
  have hd31 := (dim_bd (jul.lp y) m m1 m2).2
  have Hi := fun w => rin_any y w
  simp only [inY_iff.2 ⟨y1, y2⟩] at Hi
  have Hf := fun w => rfirst_in y w y1 (by omega)
  have Hp := fun w => rleap_any y w (inR_iff.2 (by omega))
  have Hv := fun w => rvalid_any y m d w (inR_iff.2 (by omega))
  simp only [hv] at Hv
  have d31 : d ≤ 31 := by omega
  have hn : Hid (jul.num y m d = jfst y + cum (jlp y) m + d - 1) := rfl
  have hf1 : -1 ≤ jfst y := by unfold jfst; omega
  have hf2 : jfst y ≤ 366000000000 := by unfold jfst; omega
  generalize jul.num y m d = R at *
  clear hv d2 hd31
  go_enter Tryz.func21, Tryz.ntmps21
  go_wp2_with fail
  refine (Hi _).mono ?_
  rintro e w' ⟨rfl, rfl⟩
  go_wp2_with fail
  refine (Hv _).mono ?_
  rintro e w1 ⟨rfl, hb⟩
  obtain ⟨hc, hfz⟩ := bcell hb
  have Hb := Lib.hid (below_al1 hb)
  have hz : w.heap.size < w1.heap.size := by have := hb.size; simp at this; omega
  clear hb Hv
  go_wp2_with fail
  refine (Hf _).mono ?_
  rintro e w' ⟨rfl, rfl⟩
  go_wp2_with fail
  go_loop [4, 5] (fun n k => ∃ j : Int, 1 ≤ j ∧ j ≤ m ∧ k = .int .i64 j ∧ n = .int .i64 (jfst y + cum (jlp y) j)) (fun _ k => (12 - intOf k).toNat)
  case atStart => exact ⟨1, by omega, m1, rfl, by rw [cum_one]; simp⟩
  case round =>
    obtain ⟨j, j1, j2, rfl, rfl⟩ := hrel
    have cb := cum_bd (jlp y) j j1 (by omega)
    have db := dim_bd (jlp y) j j1 (by omega)
    have cs := Lib.hid (cum_succ (jlp y) j j1 (by omega))
    by_cases hlt : j < m
    · go_wp2_with (first | (go_at_call 38; refine (Hp _).mono ?_; rintro e w' ⟨rfl, rfl⟩) | (go_at_call 28; refine (rlen_any (jlp y) j _).mono ?_; rintro e w' ⟨rfl, rfl⟩))
      go_round
      case rel => exact ⟨j + 1, by omega, by omega, rfl, by rw [cs.out]; go_num⟩
      case measure => simp [intOf]; omega
    · obtain rfl : j = m := by omega
      go_wp2_with fail
      go_ret2
      exact ⟨ret_ii hn.out.symm rfl, Hb.out⟩
end Go.Proofs.YtnfeihbkemgecaaGreatDoor

namespace Go.Proofs.YtnfeihbkemgecaaGreatDoor
open Go.RowKit

theorem jfrom_no (n : Int) (w : World) (h : n < -1 ∨ 365249999998 < n) :
    Calls Tryz.prog 57 #[.int .i64 n] w fun e w' => e = .returned (.tuple #[.agg #[.int .i64 0, .int .i64 0, .int .i64 0], .int .i64 1]) ∧ Below w.heap.size w w' := by
  rcases h with h | h
  · go_enter Tryz.func57, Tryz.ntmps57
    go_wp2
    exact bodyPost_ret (v := .tuple #[.agg #[.int .i64 0, .int .i64 0, .int .i64 0], .int .i64 1]) (by simp [results, Tryz.results57, go_sem]) rfl ⟨rfl, (Below.refl _ _).alloc (Nat.le_refl _) _⟩
  · have h' : ¬ n < -1 := by omega
    go_enter Tryz.func57, Tryz.ntmps57
    go_wp2
    exact bodyPost_ret (v := .tuple #[.agg #[.int .i64 0, .int .i64 0, .int .i64 0], .int .i64 1]) (by simp [results, Tryz.results57, go_sem]) rfl ⟨rfl, (Below.refl _ _).alloc (Nat.le_refl _) _⟩

set_option maxHeartbeats 400000 in
theorem jfrom_at (n y m d : Int) (w : World) (ht : Tab w) (hv : jul.vld y m d = true) (hn : jul.num y m d = n) :
    Calls Tryz.prog 57 #[.int .i64 n] w fun e w' => e = .returned (.tuple #[.agg #[.int .i64 y, .int .i64 m, .int .i64 d], .int .i64 0]) ∧ Below w.heap.size w w' := by
  obtain ⟨y1, y2, d1, d2⟩ := jul.vld_iff.1 hv
  obtain ⟨m1, m2⟩ := jul.vld_month hv
  obtain ⟨q1, q2⟩ := jul.doy_bd hv
  have hd31 := (dim_bd (jul.lp y) m m1 m2).2
  have hr := jul.num_range hv
  have n1 : -1 ≤ n := by rw [← hn]; have : jul.fst 1 = -1 := by decide
                         omega
  have n2 : n ≤ 365249999998 := by rw [← hn]; have : jul.fst 1000000001 = 365249999999 := by decide
                                   omega
  have d31 : d ≤ 31 := by omega
  have hD : n + 1 = jfst y + 1 + (cum (jlp y) m + d - 1) := by rw [← hn]; show jfst y + cum (jlp y) m + d - 1 + 1 = _; omega
  have Hs := fun w => split_at y (cum (jlp y) m + d - 1) w y1 y2 q1 q2 (n + 1) hD
  have cbm := cum_bd (jlp y) m m1 (by omega)
  have Ht := ht.al (Obj.cells #[Value.int IntKind.i64 0, Value.int IntKind.i64 0, Value.int IntKind.i64 0] 23)
  have Hl := fun k => jlen_any y k _ Ht
  have d2 : d ≤ dim (jlp y) m := d2
  clear hv ht hd31 hD hn hr Ht q1 q2
  go_enter Tryz.func57, Tryz.ntmps57
  go_wp2_with fail
  refine (Hs _).mono ?_
  rintro e w' ⟨rfl, rfl⟩
  go_wp2_with fail
  go_loop [5, 6] (fun r k => ∃ j : Int, 1 ≤ j ∧ j ≤ m ∧ k = .int .i64 j ∧ r = .int .i64 (cum (jlp y) m + d - 1 - cum (jlp y) j)) (fun _ k => (12 - intOf k).toNat)
  case atStart => exact ⟨1, by omega, m1, rfl, by rw [cum_one]; simp⟩
  case round =>
    obtain ⟨j, j1, j2, rfl, rfl⟩ := hrel
    have cb := cum_bd (jlp y) j j1 (by omega)
    have db := dim_bd (jlp y) j j1 (by omega)
    by_cases hlt : j < m
    · have cn := cum_next (jlp y) j m j1 hlt (by omega)
      have cs := Lib.hid (cum_succ (jlp y) j j1 (by omega))
      have ht : dim (jlp y) j ≤ cum (jlp y) m + d - 1 - cum (jlp y) j := by omega
      go_wp2_with (go_at_call 72; refine (Hl _).mono ?_; rintro e w' ⟨rfl, rfl⟩)
      go_round
      case rel => exact ⟨j + 1, by omega, by omega, rfl, by rw [cs.out]; go_num⟩
      case measure => simp [intOf]; omega
    · obtain rfl : j = m := by omega
      have ht : ¬ dim (jlp y) j ≤ cum (jlp y) j + d - 1 - cum (jlp y) j := by omega
      have hd : cum (jlp y) j + d - 1 - cum (jlp y) j + 1 = d := by omega
      have Hd := Lib.hid hd
      clear hd
      go_wp2_with (go_at_call 72; refine (Hl _).mono ?_; rintro e w' ⟨rfl, rfl⟩)
      refine bodyPost_ret (v := .tuple #[.agg #[.int .i64 y, .int .i64 j, .int .i64 (cum (jlp y) j + d - 1 - cum (jlp y) j + 1)], .int .i64 0]) (by simp [results, Tryz.results57, go_sem]) rfl ⟨by rw [Hd.out], ?_⟩
      exact (Below.refl _ _).alloc (Nat.le_refl _) _
end Go.Proofs.YtnfeihbkemgecaaGreatDoor

namespace Go.Proofs.YtnfeihbkemgecaaGreatDoor
open Go.RowKit

theorem rfrom_no (n : Int) (w : World) (h : n < -1 ∨ 365249999998 < n) :
    Calls Tryz.prog 61 #[.int .i64 n] w fun e w' => e = .returned (.tuple #[.agg #[.int .i64 0, .int .i64 0, .int .i64 0], .int .i64 1]) ∧ Below w.heap.size w w' := by
  have e : jfst 1000000001 = 365249999999 := by decide
  have Hf := fun w => rfirst_in 1000000001 w (by omega) (by omega)
  simp only [e] at Hf
  clear e
  rcases h with h | h
  · go_enter Tryz.func61, Tryz.ntmps61
    go_wp2
    exact bodyPost_ret (v := .tuple #[.agg #[.int .i64 0, .int .i64 0, .int .i64 0], .int .i64 1]) (by simp [results, Tryz.results61, go_sem]) rfl ⟨rfl, (Below.refl _ _).alloc (Nat.le_refl _) _⟩
  · have h' : ¬ n < -1 := by omega
    have h2 : 365249999999 ≤ n := by omega
    clear h
    go_enter Tryz.func61, Tryz.ntmps61
    go_wp2_with (go_at_call 37; refine (Hf _).mono ?_; rintro e w' ⟨rfl, rfl⟩)
    exact bodyPost_ret (v := .tuple #[.agg #[.int .i64 0, .int .i64 0, .int .i64 0], .int .i64 1]) (by simp [results, Tryz.results61, go_sem]) rfl ⟨rfl, (Below.refl _ _).alloc (Nat.le_refl _) _⟩

theorem jfst_le {a b : Int} (h1 : 1 ≤ a) (h : a ≤ b) : jfst a ≤ jfst b := jul.fst_mono a b h1 h

set_option maxHeartbeats 1000000 in
theorem rfrom_at (n y m d : Int) (w : World) (hv : jul.vld y m d = true) (hn : jul.num y m d = n) :
    Calls Tryz.prog 61 #[.int .i64 n] w fun e w' => e = .returned (.tuple #[.agg #[.int .i64 y, .int .i64 m, .int .i64 d], .int .i64 0]) ∧ Below w.heap.size w w' := by
  have e : jfst 1000000001 = 365249999999 := by decide
  have Hf1 := fun w => rfirst_in 1000000001 w (by omega) (by omega)
  simp only [e] at Hf1
  obtain ⟨y1, y2, d1, d2⟩ := jul.vld_iff.1 hv
  obtain ⟨m1, m2⟩ := jul.vld_month hv
  have hr := jul.num_bd hv
  have hr2 := jul.num_range hv
  have n1 : -1 ≤ n := by rw [← hn]; have : jul.fst 1 = -1 := by decide
                         omega
  have n2 : n < 365249999999 := by rw [← hn]; have : jul.fst 1000000001 = 365249999999 := by decide
                                   omega
  have hd31 := (dim_bd (jul.lp y) m m1 m2).2
  have d31 : d ≤ 31 := by omega
  have hlo : jfst y ≤ n := by rw [← hn]; exact hr.1
  have hhi : n < jfst (y + 1) := by rw [← hn]; exact hr.2
  have hD : n - jfst y + 1 = cum (jlp y) m + d := by rw [← hn]; show jfst y + cum (jlp y) m + d - 1 - jfst y + 1 = _; omega
  have HD := Lib.hid hD
  have cbm := cum_bd (jlp y) m m1 (by omega)
  have d2 : d ≤ dim (jlp y) m := d2
  have Hp := fun w => rleap_any y w (inR_iff.2 (by omega))
  have Hl := fun k => rlen_any (jlp y) k
  have hmon1 : ∀ k, 1 ≤ k → k ≤ y → jfst k ≤ n := fun k k1 k2 => Int.le_trans (jfst_le k1 k2) hlo
  have hmon2 : ∀ k, y < k → n < jfst k := fun k k1 => Int.lt_of_lt_of_le hhi (jfst_le (by omega) (by omega))
  have M1 := Lib.hid hmon1
  have M2 := Lib.hid hmon2
  clear hmon1 hmon2 hv hd31 hD hn hr hr2 e hlo hhi
  go_enter Tryz.func61, Tryz.ntmps61
  go_wp2_with (go_at_call 37; refine (Hf1 _).mono ?_; rintro e w' ⟨rfl, rfl⟩)
  go_loop [4, 5] (fun l h => ∃ a b : Int, 1 ≤ a ∧ a ≤ y ∧ y ≤ b ∧ b ≤ 1000000000 ∧ l = .int .i64 a ∧ h = .int .i64 b) (fun l h => (intOf h - intOf l).toNat)
  case atStart => exact ⟨1, 1000000000, by omega, by omega, by omega, by omega, rfl, rfl⟩
  case round =>
    obtain ⟨a, b, a1, a2, b1, b2, rfl, rfl⟩ := hrel
    by_cases hlt : a < b
    · have Hf := fun w => rfirst_in ((a + b + 1) / 2) w (by omega) (by omega)
      by_cases hm : (a + b + 1) / 2 ≤ y
      · have hle := M1.out ((a + b + 1) / 2) (by omega) hm
        go_wp2_with (go_at_call 37; refine (Hf _).mono ?_; rintro e w' ⟨rfl, rfl⟩)
        go_round
        case rel => exact ⟨_, b, by omega, hm, b1, b2, rfl, rfl⟩
        case measure => simp [intOf]; omega
      · have hle := M2.out ((a + b + 1) / 2) (by omega)
        have hle : ¬ jfst ((a + b + 1) / 2) ≤ n := by omega
        go_wp2_with (go_at_call 37; refine (Hf _).mono ?_; rintro e w' ⟨rfl, rfl⟩)
        go_round
        case rel => exact ⟨a, _, a1, a2, by omega, by omega, rfl, rfl⟩
        case measure => simp [intOf]; omega
    · obtain rfl : a = y := by omega
      have Hf := fun w => rfirst_in a w (by omega) (by omega)
      have hf1 : -1 ≤ jfst a := by unfold jfst; omega
      have hf2 : jfst a ≤ 366000000000 := by unfold jfst; omega
      go_wp2_with (go_at_call 37; refine (Hf _).mono ?_; rintro e w' ⟨rfl, rfl⟩)
      clear M1 M2 Hf Hf1 hf1 hf2
      go_loopw [] (fun wr => ∃ (nq : Nat) (j : Int), 1 ≤ j ∧ j ≤ m ∧ wr = ((w.drewN nq).alloc (Obj.cells #[Value.int IntKind.i64 0, Value.int IntKind.i64 0, Value.int IntKind.i64 0] 23)).alloc (Obj.cells #[Value.int IntKind.i64 a, Value.int IntKind.i64 j, Value.int IntKind.i64 (cum (jlp a) m + d - cum (jlp a) j)] 23)) (fun wr => (12 - intOf ((wr.cell? ⟨w.heap.size + 1, 1, none⟩).getD undef)).toNat)
      case atStart => exact ⟨0, 1, by omega, m1, by rw [cum_one, HD.out]; simp [World.drewN]⟩
      case round =>
        obtain ⟨na, j, j1, j2, rfl⟩ := hrel
        have cb := cum_bd (jlp a) j j1 (by omega)
        have db := dim_bd (jlp a) j j1 (by omega)
        by_cases hlt : j < m
        · have cn := cum_next (jlp a) j m j1 hlt (by omega)
          have cs := Lib.hid (cum_succ (jlp a) j j1 (by omega))
          have ht : dim (jlp a) j < cum (jlp a) m + d - cum (jlp a) j := by omega
          go_wp2_with fail
          go_quiet ((first | (go_at_call 38; exact quiet_same (Hp _)) | (go_at_call 28; exact quiet_same (Hl _ _))))
          go_wp2_with fail
          go_region_with (first | (go_at_call 38; refine (Hp _).mono ?_; rintro e w' ⟨rfl, rfl⟩) | (go_at_call 28; refine (Hl _ _).mono ?_; rintro e w' ⟨rfl, rfl⟩))
          all_goals
            go_wp2_with fail
          all_goals
            refine ⟨⟨na + (nq + 1), j + 1, by omega, by omega, ?_⟩, ?_⟩
            · rw [cs.out]
              refine (two_set (w.drewN na) _ _ _ _ _ _ _ (nq + 1)).trans ?_
              rw [dn_dn]
              rw [show cum (jlp a) m + d - cum (jlp a) j - dim (jlp a) j = cum (jlp a) m + d - (cum (jlp a) j + dim (jlp a) j) from by omega]
            · have e1 := two_set (w.drewN na) (Obj.cells #[Value.int IntKind.i64 0, Value.int IntKind.i64 0, Value.int IntKind.i64 0] 23) 23 (.int .i64 a) (.int .i64 j) (.int .i64 (cum (jlp a) m + d - cum (jlp a) j)) (.int .i64 (j + 1)) (.int .i64 (cum (jlp a) m + d - cum (jlp a) j - dim (jlp a) j)) (nq + 1)
              rw [show (w.drewN na).heap.size = w.heap.size from rfl] at e1
              rw [e1]
              have e2 := cell_mid (w.drewN na) (Obj.cells #[Value.int IntKind.i64 0, Value.int IntKind.i64 0, Value.int IntKind.i64 0] 23) 23 (.int .i64 a) (.int .i64 j) (.int .i64 (cum (jlp a) m + d - cum (jlp a) j))
              have e3 := cell_mid ((w.drewN na).drewN (nq + 1)) (Obj.cells #[Value.int IntKind.i64 0, Value.int IntKind.i64 0, Value.int IntKind.i64 0] 23) 23 (.int .i64 a) (.int .i64 (j + 1)) (.int .i64 (cum (jlp a) m + d - cum (jlp a) j - dim (jlp a) j))
              rw [show (w.drewN na).heap.size = w.heap.size from rfl] at e2
              rw [show ((w.drewN na).drewN (nq + 1)).heap.size = w.heap.size from rfl] at e3
              rw [e2, e3]
              simp [intOf]; omega
        · obtain rfl : j = m := by omega
          have ht : ¬ dim (jlp a) j < cum (jlp a) j + d - cum (jlp a) j := by omega
          have hd : cum (jlp a) j + d - cum (jlp a) j = d := by omega
          have Hd := Lib.hid hd
          clear hd
          go_wp2_with fail
          go_quiet ((first | (go_at_call 38; exact quiet_same (Hp _)) | (go_at_call 28; exact quiet_same (Hl _ _))))
          simp only [dn_al, dn_dn]
          have Hz : w.heap.size = (w.drewN (na + nq)).heap.size := rfl
          have Hb := Lib.hid (below_dn (Below.refl w.heap.size w) (na + nq))
          generalize w.drewN (na + nq) = x at *
          rw [Hz]
          have Hz' := Lib.hid Hz
          clear Hz
          go_wp2
          refine bodyPost_ret (v := .tuple #[.agg #[.int .i64 a, .int .i64 j, .int .i64 (cum (jlp a) j + d - cum (jlp a) j)], .int .i64 0]) (by simp [results, Tryz.results61, go_sem]) rfl ⟨by rw [Hd.out], ?_⟩
          exact (Hb.out.alloc (by rw [Hz'.out]; exact Nat.le_refl _) _).alloc (by rw [Hz'.out]; simp) _
end Go.Proofs.YtnfeihbkemgecaaGreatDoor
