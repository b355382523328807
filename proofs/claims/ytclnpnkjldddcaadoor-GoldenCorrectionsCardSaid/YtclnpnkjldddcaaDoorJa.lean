/- The contracts of package julian's leaves and of its reference's: Leap, Length, inRange, First; intmath's Clamp. Each returns what the plain functions say, and leaves memory as it was. Length is asked in a memory in which the table of lengths reads as the program's text lays it. -/
import Derived.Test.YtclnpnkjldddcaaDoorCo
namespace Go.Proofs.YtclnpnkjldddcaaDoor
open Go.RowKit

/-! the Julian calendar -/
def jlp (y : Int) : Bool := decide (y % 4 = 0)
def jfst (y : Int) : Int := -1 + (y - 1) * 365 + (y - 1) / 4
def jul : Cal := ⟨jlp, jfst, fun y _ => by
  unfold jfst jlp
  by_cases h : y % 4 = 0
  · rw [decide_eq_true h]; simp only [l01]; omega
  · rw [decide_eq_false h]; simp only [l01]; omega⟩
theorem jlp_tmod (y : Int) : (y.tmod 4 == 0) = jlp y := by
  unfold jlp; rw [Bool.eq_iff_iff, beq_iff_eq, decide_eq_true_iff]
  exact ⟨fun h => by have := Int.dvd_of_tmod_eq_zero h; omega, fun h => Int.tmod_eq_zero_of_dvd (by omega)⟩
theorem jlp_fmod (y : Int) : (y.fmod 4 == 0) = jlp y := by
  unfold jlp; rw [Bool.eq_iff_iff, beq_iff_eq, decide_eq_true_iff, Int.fmod_eq_emod_of_nonneg _ (by omega)]
/-! the table of lengths -/
def Tab (w : World) : Prop := ∀ i : Nat, i < 12 → w.cell? ⟨0, i, none⟩ = some (.int .i64 (lens.getD i 0))
theorem Tab.heap {w : World} (h : Tab w) : 0 < w.heap.size := World.block_lt_of_cell? w _ (h 0 (by omega))
theorem Tab.below {w w' : World} {n : Nat} (h : Tab w) (hb : Below n w w') (hn : 0 < n) : Tab w' := fun i hi => by
  rw [hb.cell (p := ⟨0, i, none⟩) hn]; exact h i hi

theorem Tab.on {w w' : World} (h : Tab w) (hb : Below w.heap.size w w') : Tab w' := h.below hb h.heap

/-! the leaves -/
theorem jleap_any (y : Int) (w : World) :
    Calls Tryd.prog 75 #[.int .i64 y] w fun e w' => e = .returned (.bool (jlp y)) ∧ w = w' := by
  go_enter Tryd.func75, Tryd.ntmps75
  go_wp2
  go_ret
  exact ⟨ret_bool (jlp_tmod y), rfl⟩
theorem rleap_any (y : Int) (w : World) (hy : inR y = true) :
    Calls Tryd.prog 36 #[.int .i64 y] w fun e w' => e = .returned (.bool (jlp y)) ∧ w = w' := by
  have H := fun w => rmod_any y 4 w hy (by decide) (by simp [spl, fits])
  go_enter Tryd.func36, Tryd.ntmps36
  go_wp2_with (go_at_call 41; refine (H _).mono ?_; rintro e w' ⟨rfl, rfl⟩)
  go_ret
  exact ⟨ret_bool (jlp_fmod y), rfl⟩
theorem jin_any (y : Int) (w : World) :
    Calls Tryd.prog 74 #[.int .i64 y] w fun e w' => e = .returned (.bool (inY y)) ∧ w = w' := by
  cases h0 : decide (1 ≤ y)
  all_goals
    go_enter Tryd.func74, Tryd.ntmps74
    go_wp2
    go_ret
    exact ⟨ret_bool (by simp [inY, h0]), rfl⟩
theorem jlen_any (y m : Int) (w : World) (ht : Tab w) :
    Calls Tryd.prog 68 #[.int .i64 y, .int .i64 m] w fun e w' => e = .returned (.int .i64 (dim (jlp y) m)) ∧ w = w' := by
  by_cases h : 1 ≤ m ∧ m ≤ 12
  · have h' : m = 1 ∨ m = 2 ∨ m = 3 ∨ m = 4 ∨ m = 5 ∨ m = 6 ∨ m = 7 ∨ m = 8 ∨ m = 9 ∨ m = 10 ∨ m = 11 ∨ m = 12 := by omega
    clear h
    rcases h' with rfl | rfl | rfl | rfl | rfl | rfl | rfl | rfl | rfl | rfl | rfl | rfl
    · have hc : w.cell? ⟨0, 0, none⟩ = some (.int .i64 31) := ht 0 (by omega)
      clear ht
      go_enter Tryd.func68, Tryd.ntmps68
      go_wp2
      go_ret
      exact ⟨rfl, rfl⟩
    · have hc : w.cell? ⟨0, 1, none⟩ = some (.int .i64 28) := ht 1 (by omega)
      clear ht
      cases hl : jlp y
      · have H := fun w => (jleap_any y w)
        simp only [hl] at H
        clear hl
        go_enter Tryd.func68, Tryd.ntmps68
        go_wp2_with (go_at_call 75; refine (H _).mono ?_; rintro e w' ⟨rfl, rfl⟩)
        go_ret
        exact ⟨rfl, rfl⟩
      · have H := fun w => (jleap_any y w)
        simp only [hl] at H
        clear hl
        go_enter Tryd.func68, Tryd.ntmps68
        go_wp2_with (go_at_call 75; refine (H _).mono ?_; rintro e w' ⟨rfl, rfl⟩)
        go_ret
        exact ⟨rfl, rfl⟩
    · have hc : w.cell? ⟨0, 2, none⟩ = some (.int .i64 31) := ht 2 (by omega)
      clear ht
      go_enter Tryd.func68, Tryd.ntmps68
      go_wp2
      go_ret
      exact ⟨rfl, rfl⟩
    · have hc : w.cell? ⟨0, 3, none⟩ = some (.int .i64 30) := ht 3 (by omega)
      clear ht
      go_enter Tryd.func68, Tryd.ntmps68
      go_wp2
      go_ret
      exact ⟨rfl, rfl⟩
    · have hc : w.cell? ⟨0, 4, none⟩ = some (.int .i64 31) := ht 4 (by omega)
      clear ht
      go_enter Tryd.func68, Tryd.ntmps68
      go_wp2
      go_ret
      exact ⟨rfl, rfl⟩
    · have hc : w.cell? ⟨0, 5, none⟩ = some (.int .i64 30) := ht 5 (by omega)
      clear ht
      go_enter Tryd.func68, Tryd.ntmps68
      go_wp2
      go_ret
      exact ⟨rfl, rfl⟩
    · have hc : w.cell? ⟨0, 6, none⟩ = some (.int .i64 31) := ht 6 (by omega)
      clear ht
      go_enter Tryd.func68, Tryd.ntmps68
      go_wp2
      go_ret
      exact ⟨rfl, rfl⟩
    · have hc : w.cell? ⟨0, 7, none⟩ = some (.int .i64 31) := ht 7 (by omega)
      clear ht
      go_enter Tryd.func68, Tryd.ntmps68
      go_wp2
      go_ret
      exact ⟨rfl, rfl⟩
    · have hc : w.cell? ⟨0, 8, none⟩ = some (.int .i64 30) := ht 8 (by omega)
      clear ht
      go_enter Tryd.func68, Tryd.ntmps68
      go_wp2
      go_ret
      exact ⟨rfl, rfl⟩
    · have hc : w.cell? ⟨0, 9, none⟩ = some (.int .i64 31) := ht 9 (by omega)
      clear ht
      go_enter Tryd.func68, Tryd.ntmps68
      go_wp2
      go_ret
      exact ⟨rfl, rfl⟩
    · have hc : w.cell? ⟨0, 10, none⟩ = some (.int .i64 30) := ht 10 (by omega)
      clear ht
      go_enter Tryd.func68, Tryd.ntmps68
      go_wp2
      go_ret
      exact ⟨rfl, rfl⟩
    · have hc : w.cell? ⟨0, 11, none⟩ = some (.int .i64 31) := ht 11 (by omega)
      clear ht
      go_enter Tryd.func68, Tryd.ntmps68
      go_wp2
      go_ret
      exact ⟨rfl, rfl⟩
  · have h0 := Lib.hid (dim_out (jlp y) m (by omega))
    clear ht
    by_cases h1 : m < 1
    · clear h
      go_enter Tryd.func68, Tryd.ntmps68
      go_wp2
      go_ret
      exact ⟨ret_int h0.out.symm, rfl⟩
    · have h2 : 12 < m := by omega
      clear h
      go_enter Tryd.func68, Tryd.ntmps68
      go_wp2
      go_ret
      exact ⟨ret_int h0.out.symm, rfl⟩
end Go.Proofs.YtclnpnkjldddcaaDoor
