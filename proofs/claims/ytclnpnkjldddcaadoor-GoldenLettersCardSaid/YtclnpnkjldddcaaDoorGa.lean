/- The contracts of package gregorian's leaves and of its reference's: Leap, inRange, Length, First. Each returns what the plain functions say, and leaves memory as it was. Length is asked in a memory in which the tables read as the program's text lays them. -/
import Derived.Test.YtclnpnkjldddcaaDoorCo
namespace Go.Proofs.YtclnpnkjldddcaaDoor
open Go.RowKit

/-! the Gregorian calendar -/
def glp (y : Int) : Bool := (decide (y % 4 = 0) && !decide (y % 100 = 0)) || decide (y % 400 = 0)
theorem glp_iff {y : Int} : glp y = true ↔ (y % 4 = 0 ∧ ¬ y % 100 = 0) ∨ y % 400 = 0 := by simp [glp]
theorem glp_if (y : Int) : l01 (glp y) = if (y % 4 = 0 ∧ ¬ y % 100 = 0) ∨ y % 400 = 0 then 1 else 0 := by
  by_cases h : (y % 4 = 0 ∧ ¬ y % 100 = 0) ∨ y % 400 = 0
  · rw [glp_iff.2 h, if_pos h]; rfl
  · rw [if_neg h]
    cases g : glp y with
    | false => rfl
    | true => exact absurd (glp_iff.1 g) h
def gfst (y : Int) : Int := 1 + (y - 1) * 365 + ((y - 1) / 4 - (y - 1) / 100 + (y - 1) / 400)
theorem gstep (y : Int) : gfst (y + 1) = gfst y + 365 + l01 (glp y) := by
  rw [glp_if]; unfold gfst
  split <;> omega
def greg : Cal := ⟨glp, gfst, fun y _ => gstep y⟩
theorem gfst_le {a b : Int} (h1 : 1 ≤ a) (h : a ≤ b) : gfst a ≤ gfst b := greg.fst_mono a b h1 h

theorem tm0 (y c : Int) : (y.tmod c == 0) = decide (y % c = 0) := by
  rw [Bool.eq_iff_iff, beq_iff_eq, decide_eq_true_iff]
  exact ⟨fun h => Int.emod_eq_zero_of_dvd (Int.dvd_of_tmod_eq_zero h), fun h => Int.tmod_eq_zero_of_dvd (Int.dvd_of_emod_eq_zero h)⟩
theorem tm1 (y c : Int) : (y.tmod c != 0) = !decide (y % c = 0) := by rw [bne, tm0]
theorem fm0 (y c : Int) (hc : 0 ≤ c) : (y.fmod c == 0) = decide (y % c = 0) := by
  rw [Bool.eq_iff_iff, beq_iff_eq, decide_eq_true_iff, Int.fmod_eq_emod_of_nonneg _ hc]
theorem fm1 (y c : Int) (hc : 0 ≤ c) : (y.fmod c != 0) = !decide (y % c = 0) := by rw [bne, fm0 y c hc]

/-! the tables -/
def grp : Array Value := #[.int .i64 400, .int .i64 146097, .int .i64 2499999, .int .i64 100, .int .i64 36524, .int .i64 3, .int .i64 4, .int .i64 1461, .int .i64 24, .int .i64 1, .int .i64 365, .int .i64 3]
structure GTab (w : World) : Prop where
  len : ∀ i : Nat, i < 12 → w.cell? ⟨1, i, none⟩ = some (.int .i64 (lens.getD i 0))
  grp : ∃ t fr, w.heap[2]? = some (.cells grp t fr)
theorem GTab.heap {w : World} (h : GTab w) : 1 < w.heap.size := World.block_lt_of_cell? w _ (h.len 0 (by omega))
theorem GTab.heap2 {w : World} (h : GTab w) : 2 < w.heap.size := by
  obtain ⟨t, fr, hg⟩ := h.grp
  rcases Nat.lt_or_ge 2 w.heap.size with g | g
  · exact g
  · rw [Array.getElem?_eq_none g] at hg; cases hg
theorem GTab.below {w w' : World} {n : Nat} (h : GTab w) (hb : Below n w w') (hn : 1 < n) (hm : 2 < n) : GTab w' :=
  ⟨fun i hi => by rw [hb.cell (p := ⟨1, i, none⟩) hn]; exact h.len i hi, by rw [hb.block _ hm]; exact h.grp⟩
theorem GTab.on {w w' : World} (h : GTab w) (hb : Below w.heap.size w w') : GTab w' := h.below hb h.heap h.heap2
theorem GTab.dn {w : World} (h : GTab w) (n : Nat) : GTab (w.drewN n) := h.on (below_dn (Below.refl w.heap.size w) n)
theorem GTab.al {w : World} (h : GTab w) (o : Obj) : GTab (w.alloc o) := h.on ((Below.refl w.heap.size w).alloc (Nat.le_refl _) o)

/-! the leaves -/
theorem gleap_any (y : Int) (w : World) :
    Calls Tryd.prog 78 #[.int .i64 y] w fun e w' => e = .returned (.bool (glp y)) ∧ w = w' := by
  have e4 := tm0 y 4
  have e100 := tm1 y 100
  have e400 := tm0 y 400
  have hv : Hid (glp y = ((decide (y % 4 = 0) && !decide (y % 100 = 0)) || decide (y % 400 = 0))) := rfl
  generalize decide (y % 4 = 0) = a at *
  generalize decide (y % 100 = 0) = b at *
  generalize decide (y % 400 = 0) = c at *
  generalize glp y = R at *
  cases a <;> cases b
  all_goals
    go_enter Tryd.func78, Tryd.ntmps78
    go_wp2
    go_ret
    exact ⟨ret_bool (by rw [hv.out]; rfl), rfl⟩
theorem sleap_any (y : Int) (w : World) (hy : inR y = true) :
    Calls Tryd.prog 37 #[.int .i64 y] w fun e w' => e = .returned (.bool (glp y)) ∧ w = w' := by
  have H4 := fun w => rmod_any y 4 w hy (by decide) (by simp [spl, fits])
  have H100 := fun w => rmod_any y 100 w hy (by decide) (by simp [spl, fits])
  have H400 := fun w => rmod_any y 400 w hy (by decide) (by simp [spl, fits])
  have e4 := fm0 y 4 (by omega)
  have e100 := fm1 y 100 (by omega)
  have e400 := fm0 y 400 (by omega)
  have hv : Hid (glp y = ((decide (y % 4 = 0) && !decide (y % 100 = 0)) || decide (y % 400 = 0))) := rfl
  generalize decide (y % 4 = 0) = a at *
  generalize decide (y % 100 = 0) = b at *
  generalize decide (y % 400 = 0) = c at *
  generalize glp y = R at *
  clear hy
  cases c
  · cases a
    · go_enter Tryd.func37, Tryd.ntmps37
      go_wp2_with fail
      refine (H400 _).mono ?_
      rintro e w' ⟨rfl, rfl⟩
      go_wp2_with fail
      refine (H4 _).mono ?_
      rintro e w' ⟨rfl, rfl⟩
      go_wp2_with fail
      go_ret
      exact ⟨ret_bool (by rw [hv.out]; simp), rfl⟩
    · go_enter Tryd.func37, Tryd.ntmps37
      go_wp2_with fail
      refine (H400 _).mono ?_
      rintro e w' ⟨rfl, rfl⟩
      go_wp2_with fail
      refine (H4 _).mono ?_
      rintro e w' ⟨rfl, rfl⟩
      go_wp2_with fail
      refine (H100 _).mono ?_
      rintro e w' ⟨rfl, rfl⟩
      go_wp2_with fail
      go_ret
      exact ⟨ret_bool (by rw [hv.out]; simp), rfl⟩
  · go_enter Tryd.func37, Tryd.ntmps37
    go_wp2_with fail
    refine (H400 _).mono ?_
    rintro e w' ⟨rfl, rfl⟩
    go_wp2_with fail
    go_ret
    exact ⟨ret_bool (by rw [hv.out]; simp), rfl⟩
theorem gin_any (y : Int) (w : World) :
    Calls Tryd.prog 77 #[.int .i64 y] w fun e w' => e = .returned (.bool (inY y)) ∧ w = w' := by
  cases h0 : decide (1 ≤ y)
  all_goals
    go_enter Tryd.func77, Tryd.ntmps77
    go_wp2
    go_ret
    exact ⟨ret_bool (by simp [inY, h0]), rfl⟩
theorem glen_any (y m : Int) (w : World) (ht : GTab w) :
    Calls Tryd.prog 72 #[.int .i64 y, .int .i64 m] w fun e w' => e = .returned (.int .i64 (dim (glp y) m)) ∧ w = w' := by
  by_cases h : 1 ≤ m ∧ m ≤ 12
  · have h' : m = 1 ∨ m = 2 ∨ m = 3 ∨ m = 4 ∨ m = 5 ∨ m = 6 ∨ m = 7 ∨ m = 8 ∨ m = 9 ∨ m = 10 ∨ m = 11 ∨ m = 12 := by omega
    clear h
    rcases h' with rfl | rfl | rfl | rfl | rfl | rfl | rfl | rfl | rfl | rfl | rfl | rfl
    · have hc : w.cell? ⟨1, 0, none⟩ = some (.int .i64 31) := ht.len 0 (by omega)
      clear ht
      go_enter Tryd.func72, Tryd.ntmps72
      go_wp2
      go_ret
      exact ⟨rfl, rfl⟩
    · have hc : w.cell? ⟨1, 1, none⟩ = some (.int .i64 28) := ht.len 1 (by omega)
      clear ht
      cases hl : glp y
      · have H := fun w => (gleap_any y w)
        simp only [hl] at H
        clear hl
        go_enter Tryd.func72, Tryd.ntmps72
        go_wp2_with (go_at_call 78; refine (H _).mono ?_; rintro e w' ⟨rfl, rfl⟩)
        go_ret
        exact ⟨rfl, rfl⟩
      · have H := fun w => (gleap_any y w)
        simp only [hl] at H
        clear hl
        go_enter Tryd.func72, Tryd.ntmps72
        go_wp2_with (go_at_call 78; refine (H _).mono ?_; rintro e w' ⟨rfl, rfl⟩)
        go_ret
        exact ⟨rfl, rfl⟩
    · have hc : w.cell? ⟨1, 2, none⟩ = some (.int .i64 31) := ht.len 2 (by omega)
      clear ht
      go_enter Tryd.func72, Tryd.ntmps72
      go_wp2
      go_ret
      exact ⟨rfl, rfl⟩
    · have hc : w.cell? ⟨1, 3, none⟩ = some (.int .i64 30) := ht.len 3 (by omega)
      clear ht
      go_enter Tryd.func72, Tryd.ntmps72
      go_wp2
      go_ret
      exact ⟨rfl, rfl⟩
    · have hc : w.cell? ⟨1, 4, none⟩ = some (.int .i64 31) := ht.len 4 (by omega)
      clear ht
      go_enter Tryd.func72, Tryd.ntmps72
      go_wp2
      go_ret
      exact ⟨rfl, rfl⟩
    · have hc : w.cell? ⟨1, 5, none⟩ = some (.int .i64 30) := ht.len 5 (by omega)
      clear ht
      go_enter Tryd.func72, Tryd.ntmps72
      go_wp2
      go_ret
      exact ⟨rfl, rfl⟩
    · have hc : w.cell? ⟨1, 6, none⟩ = some (.int .i64 31) := ht.len 6 (by omega)
      clear ht
      go_enter Tryd.func72, Tryd.ntmps72
      go_wp2
      go_ret
      exact ⟨rfl, rfl⟩
    · have hc : w.cell? ⟨1, 7, none⟩ = some (.int .i64 31) := ht.len 7 (by omega)
      clear ht
      go_enter Tryd.func72, Tryd.ntmps72
      go_wp2
      go_ret
      exact ⟨rfl, rfl⟩
    · have hc : w.cell? ⟨1, 8, none⟩ = some (.int .i64 30) := ht.len 8 (by omega)
      clear ht
      go_enter Tryd.func72, Tryd.ntmps72
      go_wp2
      go_ret
      exact ⟨rfl, rfl⟩
    · have hc : w.cell? ⟨1, 9, none⟩ = some (.int .i64 31) := ht.len 9 (by omega)
      clear ht
      go_enter Tryd.func72, Tryd.ntmps72
      go_wp2
      go_ret
      exact ⟨rfl, rfl⟩
    · have hc : w.cell? ⟨1, 10, none⟩ = some (.int .i64 30) := ht.len 10 (by omega)
      clear ht
      go_enter Tryd.func72, Tryd.ntmps72
      go_wp2
      go_ret
      exact ⟨rfl, rfl⟩
    · have hc : w.cell? ⟨1, 11, none⟩ = some (.int .i64 31) := ht.len 11 (by omega)
      clear ht
      go_enter Tryd.func72, Tryd.ntmps72
      go_wp2
      go_ret
      exact ⟨rfl, rfl⟩
  · have h0 := Lib.hid (dim_out (glp y) m (by omega))
    clear ht
    by_cases h1 : m < 1
    · clear h
      go_enter Tryd.func72, Tryd.ntmps72
      go_wp2
      go_ret
      exact ⟨ret_int h0.out.symm, rfl⟩
    · have h2 : 12 < m := by omega
      clear h
      go_enter Tryd.func72, Tryd.ntmps72
      go_wp2
      go_ret
      exact ⟨ret_int h0.out.symm, rfl⟩
end Go.Proofs.YtclnpnkjldddcaaDoor
