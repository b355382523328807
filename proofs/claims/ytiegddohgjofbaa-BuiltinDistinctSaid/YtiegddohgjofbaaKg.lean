/- What earlier stages proved: Ga Gb Gc Gd. -/
import Derived.Test.YtiegddohgjofbaaKa
import Derived.Laws.Rows
namespace Go.Proofs.Ytiegddohgjofbaa
open Go.RowKit

def glp (y : Int) : Bool := (decide (y % 4 = 0) && !decide (y % 100 = 0)) || decide (y % 400 = 0)
theorem glp_iff {y : Int} : glp y = true ↔ (y % 4 = 0 ∧ ¬ y % 100 = 0) ∨ y % 400 = 0 := by simp [glp]
theorem glp_if (y : Int) : l01 (glp y) = if (y % 4 = 0 ∧ ¬ y % 100 = 0) ∨ y % 400 = 0 then 1 else 0 := by
  by_cases h : (y % 4 = 0 ∧ ¬ y % 100 = 0) ∨ y % 400 = 0
  · rw [glp_iff.2 h, if_pos h]; rfl
  · rw [if_neg h]
    cases g : glp y with
    | false => rfl
    | true => exact absurd (glp_iff.1 g) h
def gfst (y : Int) : Int := 1 + (y - 1) * 365 + ((y - 1) / 4 - (y - 1) / 100 + (y - 1) / 400)
theorem gstep (y : Int) : gfst (y + 1) = gfst y + 365 + l01 (glp y) := by
  rw [glp_if]; unfold gfst
  split <;> omega
def greg : Cal := ⟨glp, gfst, fun y _ => gstep y⟩
theorem fm0 (y c : Int) (hc : 0 ≤ c) : (y.fmod c == 0) = decide (y % c = 0) := by
  rw [Bool.eq_iff_iff, beq_iff_eq, decide_eq_true_iff, Int.fmod_eq_emod_of_nonneg _ hc]
theorem fm1 (y c : Int) (hc : 0 ≤ c) : (y.fmod c != 0) = !decide (y % c = 0) := by rw [bne, fm0 y c hc]

theorem sleap_any (y : Int) (w : World) (hy : inR y = true) :
    Calls Try.prog 35 #[.int .i64 y] w fun e w' => e = .returned (.bool (glp y)) ∧ w = w' := by
  have H4 := fun w => rmod_any y 4 w hy (by decide) (by simp [spl, fits])
  have H100 := fun w => rmod_any y 100 w hy (by decide) (by simp [spl, fits])
  have H400 := fun w => rmod_any y 400 w hy (by decide) (by simp [spl, fits])
  have e4 := fm0 y 4 (by omega)
  have e100 := fm1 y 100 (by omega)
  have e400 := fm0 y 400 (by omega)
  have hv : Hid (glp y = ((decide (y % 4 = 0) && !decide (y % 100 = 0)) || decide (y % 400 = 0))) := rfl
  generalize decide (y % 4 = 0) = a at *
  generalize decide (y % 100 = 0) = b at *
  generalize decide (y % 400 = 0) = c at *
  generalize glp y = R at *
  clear hy
  cases c
  · cases a
    · go_enter Try.func35, Try.ntmps35
      go_wp2_with fail
      refine (H400 _).mono ?_
      rintro e w' ⟨rfl, rfl⟩
      go_wp2_with fail
      refine (H4 _).mono ?_
      rintro e w' ⟨rfl, rfl⟩
      go_wp2_with fail
      go_ret
      exact ⟨ret_bool (by rw [hv.out]; simp), rfl⟩
    · go_enter Try.func35, Try.ntmps35
      go_wp2_with fail
      refine (H400 _).mono ?_
      rintro e w' ⟨rfl, rfl⟩
      go_wp2_with fail
      refine (H4 _).mono ?_
      rintro e w' ⟨rfl, rfl⟩
      go_wp2_with fail
      refine (H100 _).mono ?_
      rintro e w' ⟨rfl, rfl⟩
      go_wp2_with fail
      go_ret
      exact ⟨ret_bool (by rw [hv.out]; simp), rfl⟩
  · go_enter Try.func35, Try.ntmps35
    go_wp2_with fail
    refine (H400 _).mono ?_
    rintro e w' ⟨rfl, rfl⟩
    go_wp2_with fail
    go_ret
    exact ⟨ret_bool (by rw [hv.out]; simp), rfl⟩
end Go.Proofs.Ytiegddohgjofbaa

namespace Go.Proofs.Ytiegddohgjofbaa
open Go.RowKit

theorem sfirst_in (y : Int) (w : World) (h1 : 1 ≤ y) (h2 : y ≤ 1000000001) :
    Calls Try.prog 32 #[.int .i64 y] w fun e w' => e = .returned (.int .i64 (gfst y)) ∧ w = w' := by
  go_enter Try.func32, Try.ntmps32
  go_wp2
  go_ret
  exact ⟨ret_int (by unfold gfst; omega), rfl⟩

end Go.Proofs.Ytiegddohgjofbaa

namespace Go.Proofs.Ytiegddohgjofbaa
open Go.RowKit

theorem gvld_not1 {y m d : Int} (h : inY y = false) : greg.vld y m d = false := by
  cases g : greg.vld y m d with
  | false => rfl
  | true => have := greg.vld_iff.1 g; rw [inY_iff.2 ⟨this.1, this.2.1⟩] at h; cases h
theorem gvld_not2 {y m d : Int} (h : ¬ 1 ≤ d) : greg.vld y m d = false := by
  cases g : greg.vld y m d with
  | false => rfl
  | true => have := greg.vld_iff.1 g; omega
theorem gvld_is {y m d : Int} (h : inY y = true) (h1 : 1 ≤ d) : decide (d ≤ dim (glp y) m) = greg.vld y m d := by
  rw [inY_iff] at h
  rw [Bool.eq_iff_iff, decide_eq_true_iff, greg.vld_iff]
  exact ⟨fun g => ⟨h.1, h.2, h1, g⟩, fun g => g.2.2.2⟩

theorem svalid_any (y m d : Int) (w : World) (hy : inR y = true) :
    Calls Try.prog 34 #[.agg #[.int .i64 y, .int .i64 m, .int .i64 d]] w fun e w' => e = .returned (.bool (greg.vld y m d)) ∧ Below w.heap.size w w' := by
  have Hi := fun w => rin_any y w
  have Hp := fun w => sleap_any y w hy
  have Hl := fun w => rlen_any (glp y) m w
  clear hy
  cases h : inY y
  · simp only [h] at Hi
    have hv := Lib.hid (gvld_not1 (m := m) (d := d) h)
    clear h
    go_enter Try.func34, Try.ntmps34
    go_wp2_with fail
    go_quiet ((go_at_call 33; exact quiet_same (Hi _)))
    go_wp2
    go_ret
    exact ⟨ret_bool hv.out.symm, below_dn ((Below.refl _ _).alloc (Nat.le_refl _) _) _⟩
  · simp only [h] at Hi
    by_cases hd : 1 ≤ d
    · have hv := Lib.hid (gvld_is (m := m) h hd)
      clear h
      go_enter Try.func34, Try.ntmps34
      go_wp2_with fail
      go_quiet ((first | (go_at_call 33; exact quiet_same (Hi _)) | (go_at_call 35; exact quiet_same (Hp _)) | (go_at_call 30; exact quiet_same (Hl _))))
      go_wp2
      go_ret
      exact ⟨ret_bool hv.out, below_dn ((Below.refl _ _).alloc (Nat.le_refl _) _) _⟩
    · have hv := Lib.hid (gvld_not2 (y := y) (m := m) hd)
      have hd : decide (1 ≤ d) = false := by simpa using hd
      clear h
      go_enter Try.func34, Try.ntmps34
      go_wp2_with fail
      go_quiet ((go_at_call 33; exact quiet_same (Hi _)))
      go_wp2
      go_ret
      exact ⟨ret_bool hv.out.symm, below_dn ((Below.refl _ _).alloc (Nat.le_refl _) _) _⟩
end Go.Proofs.Ytiegddohgjofbaa

namespace Go.Proofs.Ytiegddohgjofbaa
open Go.RowKit

theorem sday_out (y m d : Int) (w : World) (h : ¬ (1 ≤ y ∧ y ≤ 1000000000)) :
    Calls Try.prog 31 #[.agg #[.int .i64 y, .int .i64 m, .int .i64 d]] w fun e w' => e = .returned (.tuple #[.int .i64 0, .int .i64 1]) ∧ Below w.heap.size w w' := by
  have Hi := fun w => rin_any y w
  simp only [inY_false h] at Hi
  clear h
  go_enter Try.func31, Try.ntmps31
  go_wp2_with (go_at_call 33; refine (Hi _).mono ?_; rintro e w' ⟨rfl, rfl⟩)
  go_ret2
  exact ⟨rfl, (Below.refl _ _).alloc (Nat.le_refl _) _⟩

theorem sday_bad (y m d : Int) (w : World) (h1 : 1 ≤ y) (h2 : y ≤ 1000000000) (hv : greg.vld y m d = false) :
    Calls Try.prog 31 #[.agg #[.int .i64 y, .int .i64 m, .int .i64 d]] w fun e w' => e = .returned (.tuple #[.int .i64 0, .int .i64 2]) ∧ Below w.heap.size w w' := by
  have Hi := fun w => rin_any y w
  simp only [inY_iff.2 ⟨h1, h2⟩] at Hi
  have Hv := fun w => svalid_any y m d w (inR_iff.2 (by omega))
  simp only [hv] at Hv
  clear hv
  go_enter Try.func31, Try.ntmps31
  go_wp2_with fail
  refine (Hi _).mono ?_
  rintro e w' ⟨rfl, rfl⟩
  go_wp2_with fail
  refine (Hv _).mono ?_
  rintro e w1 ⟨rfl, hb⟩
  go_wp2
  go_ret2
  exact ⟨rfl, below_al1 hb⟩

set_option maxHeartbeats 400000 in
theorem sday_at (y m d : Int) (w : World) (hv : greg.vld y m d = true) :
    Calls Try.prog 31 #[.agg #[.int .i64 y, .int .i64 m, .int .i64 d]] w fun e w' => e = .returned (.tuple #[.int .i64 (greg.num y m d), .int .i64 0]) ∧ Below w.heap.size w w' := by
  obtain ⟨y1, y2, d1, d2⟩ := greg.vld_iff.1 hv
  obtain ⟨m1, m2⟩ := greg.vld_month hv
  have hd31 := (dim_bd (greg.lp y) m m1 m2).2
  have Hi := fun w => rin_any y w
  simp only [inY_iff.2 ⟨y1, y2⟩] at Hi
  have Hf := fun w => sfirst_in y w y1 (by omega)
  have Hp := fun w => sleap_any y w (inR_iff.2 (by omega))
  have Hv := fun w => svalid_any y m d w (inR_iff.2 (by omega))
  simp only [hv] at Hv
  have d31 : d ≤ 31 := by omega
  have hn : Hid (greg.num y m d = gfst y + cum (glp y) m + d - 1) := rfl
  have hf1 : 1 ≤ gfst y := by unfold gfst; omega
  have hf2 : gfst y ≤ 366000000000 := by unfold gfst; omega
  generalize greg.num y m d = R at *
  clear hv d2 hd31
  go_enter Try.func31, Try.ntmps31
  go_wp2_with fail
  refine (Hi _).mono ?_
  rintro e w' ⟨rfl, rfl⟩
  go_wp2_with fail
  refine (Hv _).mono ?_
  rintro e w1 ⟨rfl, hb⟩
  obtain ⟨hc, hfz⟩ := bcell hb
  have Hb := Lib.hid (below_al1 hb)
  have hz : w.heap.size < w1.heap.size := by have := hb.size; simp at this; omega
  clear hb Hv
  go_wp2_with fail
  refine (Hf _).mono ?_
  rintro e w' ⟨rfl, rfl⟩
  go_wp2_with fail
  go_loop [4, 5] (fun n k => ∃ j : Int, 1 ≤ j ∧ j ≤ m ∧ k = .int .i64 j ∧ n = .int .i64 (gfst y + cum (glp y) j)) (fun _ k => (12 - intOf k).toNat)
  case atStart => exact ⟨1, by omega, m1, rfl, by rw [cum_one]; simp⟩
  case round =>
    obtain ⟨j, j1, j2, rfl, rfl⟩ := hrel
    have cb := cum_bd (glp y) j j1 (by omega)
    have db := dim_bd (glp y) j j1 (by omega)
    have cs := Lib.hid (cum_succ (glp y) j j1 (by omega))
    by_cases hlt : j < m
    · go_wp2_with (first | (go_at_call 35; refine (Hp _).mono ?_; rintro e w' ⟨rfl, rfl⟩) | (go_at_call 30; refine (rlen_any (glp y) j _).mono ?_; rintro e w' ⟨rfl, rfl⟩))
      go_round
      case rel => exact ⟨j + 1, by omega, by omega, rfl, by rw [cs.out]; go_num⟩
      case measure => simp [intOf]; omega
    · obtain rfl : j = m := by omega
      go_wp2_with fail
      go_ret2
      exact ⟨ret_ii hn.out.symm rfl, Hb.out⟩
end Go.Proofs.Ytiegddohgjofbaa
