/- What earlier stages proved: Ga Gb Gc Gd Ge. -/
import Derived.Test.YtnfeihbkemgecaaDoorKa
import Derived.Laws.Rows
namespace Go.Proofs.YtnfeihbkemgecaaDoor
open Go.RowKit

def glp (y : Int) : Bool := (decide (y % 4 = 0) && !decide (y % 100 = 0)) || decide (y % 400 = 0)
theorem glp_iff {y : Int} : glp y = true ↔ (y % 4 = 0 ∧ ¬ y % 100 = 0) ∨ y % 400 = 0 := by simp [glp]
theorem glp_if (y : Int) : l01 (glp y) = if (y % 4 = 0 ∧ ¬ y % 100 = 0) ∨ y % 400 = 0 then 1 else 0 := by
  by_cases h : (y % 4 = 0 ∧ ¬ y % 100 = 0) ∨ y % 400 = 0
  · rw [glp_iff.2 h, if_pos h]; rfl
  · rw [if_neg h]
    cases g : glp y with
    | false => rfl
    | true => exact absurd (glp_iff.1 g) h
def gfst (y : Int) : Int := 1 + (y - 1) * 365 + ((y - 1) / 4 - (y - 1) / 100 + (y - 1) / 400)
theorem gstep (y : Int) : gfst (y + 1) = gfst y + 365 + l01 (glp y) := by
  rw [glp_if]; unfold gfst
  split <;> omega
def greg : Cal := ⟨glp, gfst, fun y _ => gstep y⟩
theorem tm0 (y c : Int) : (y.tmod c == 0) = decide (y % c = 0) := by
  rw [Bool.eq_iff_iff, beq_iff_eq, decide_eq_true_iff]
  exact ⟨fun h => Int.emod_eq_zero_of_dvd (Int.dvd_of_tmod_eq_zero h), fun h => Int.tmod_eq_zero_of_dvd (Int.dvd_of_emod_eq_zero h)⟩
theorem tm1 (y c : Int) : (y.tmod c != 0) = !decide (y % c = 0) := by rw [bne, tm0]
theorem fm0 (y c : Int) (hc : 0 ≤ c) : (y.fmod c == 0) = decide (y % c = 0) := by
  rw [Bool.eq_iff_iff, beq_iff_eq, decide_eq_true_iff, Int.fmod_eq_emod_of_nonneg _ hc]
theorem fm1 (y c : Int) (hc : 0 ≤ c) : (y.fmod c != 0) = !decide (y % c = 0) := by rw [bne, fm0 y c hc]

def grp : Array Value := #[.int .i64 400, .int .i64 146097, .int .i64 2499999, .int .i64 100, .int .i64 36524, .int .i64 3, .int .i64 4, .int .i64 1461, .int .i64 24, .int .i64 1, .int .i64 365, .int .i64 3]
structure GTab (w : World) : Prop where
  len : ∀ i : Nat, i < 12 → w.cell? ⟨2, i, none⟩ = some (.int .i64 (lens.getD i 0))
  grp : ∃ t fr, w.heap[3]? = some (.cells grp t fr)
theorem GTab.heap {w : World} (h : GTab w) : 2 < w.heap.size := World.block_lt_of_cell? w _ (h.len 0 (by omega))
theorem GTab.heap2 {w : World} (h : GTab w) : 3 < w.heap.size := by
  obtain ⟨t, fr, hg⟩ := h.grp
  rcases Nat.lt_or_ge 3 w.heap.size with g | g
  · exact g
  · rw [Array.getElem?_eq_none g] at hg; cases hg
theorem GTab.below {w w' : World} {n : Nat} (h : GTab w) (hb : Below n w w') (hn : 2 < n) (hm : 3 < n) : GTab w' :=
  ⟨fun i hi => by rw [hb.cell (p := ⟨2, i, none⟩) hn]; exact h.len i hi, by rw [hb.block _ hm]; exact h.grp⟩
theorem GTab.on {w w' : World} (h : GTab w) (hb : Below w.heap.size w w') : GTab w' := h.below hb h.heap h.heap2
theorem GTab.dn {w : World} (h : GTab w) (n : Nat) : GTab (w.drewN n) := h.on (below_dn (Below.refl w.heap.size w) n)
theorem GTab.al {w : World} (h : GTab w) (o : Obj) : GTab (w.alloc o) := h.on ((Below.refl w.heap.size w).alloc (Nat.le_refl _) o)

theorem gleap_any (y : Int) (w : World) :
    Calls Tryd.prog 91 #[.int .i64 y] w fun e w' => e = .returned (.bool (glp y)) ∧ w = w' := by
  have e4 := tm0 y 4
  have e100 := tm1 y 100
  have e400 := tm0 y 400
  have hv : Hid (glp y = ((decide (y % 4 = 0) && !decide (y % 100 = 0)) || decide (y % 400 = 0))) := rfl
  generalize decide (y % 4 = 0) = a at *
  generalize decide (y % 100 = 0) = b at *
  generalize decide (y % 400 = 0) = c at *
  generalize glp y = R at *
  cases a <;> cases b
  all_goals
    go_enter Tryd.func91, Tryd.ntmps91
    go_wp2
    go_ret
    exact ⟨ret_bool (by rw [hv.out]; rfl), rfl⟩
theorem sleap_any (y : Int) (w : World) (hy : inR y = true) :
    Calls Tryd.prog 30 #[.int .i64 y] w fun e w' => e = .returned (.bool (glp y)) ∧ w = w' := by
  have H4 := fun w => rmod_any y 4 w hy (by decide) (by simp [spl, fits])
  have H100 := fun w => rmod_any y 100 w hy (by decide) (by simp [spl, fits])
  have H400 := fun w => rmod_any y 400 w hy (by decide) (by simp [spl, fits])
  have e4 := fm0 y 4 (by omega)
  have e100 := fm1 y 100 (by omega)
  have e400 := fm0 y 400 (by omega)
  have hv : Hid (glp y = ((decide (y % 4 = 0) && !decide (y % 100 = 0)) || decide (y % 400 = 0))) := rfl
  generalize decide (y % 4 = 0) = a at *
  generalize decide (y % 100 = 0) = b at *
  generalize decide (y % 400 = 0) = c at *
  generalize glp y = R at *
  clear hy
  cases c
  · cases a
    · go_enter Tryd.func30, Tryd.ntmps30
      go_wp2_with fail
      refine (H400 _).mono ?_
      rintro e w' ⟨rfl, rfl⟩
      go_wp2_with fail
      refine (H4 _).mono ?_
      rintro e w' ⟨rfl, rfl⟩
      go_wp2_with fail
      go_ret
      exact ⟨ret_bool (by rw [hv.out]; simp), rfl⟩
    · go_enter Tryd.func30, Tryd.ntmps30
      go_wp2_with fail
      refine (H400 _).mono ?_
      rintro e w' ⟨rfl, rfl⟩
      go_wp2_with fail
      refine (H4 _).mono ?_
      rintro e w' ⟨rfl, rfl⟩
      go_wp2_with fail
      refine (H100 _).mono ?_
      rintro e w' ⟨rfl, rfl⟩
      go_wp2_with fail
      go_ret
      exact ⟨ret_bool (by rw [hv.out]; simp), rfl⟩
  · go_enter Tryd.func30, Tryd.ntmps30
    go_wp2_with fail
    refine (H400 _).mono ?_
    rintro e w' ⟨rfl, rfl⟩
    go_wp2_with fail
    go_ret
    exact ⟨ret_bool (by rw [hv.out]; simp), rfl⟩
theorem gin_any (y : Int) (w : World) :
    Calls Tryd.prog 90 #[.int .i64 y] w fun e w' => e = .returned (.bool (inY y)) ∧ w = w' := by
  cases h0 : decide (1 ≤ y)
  all_goals
    go_enter Tryd.func90, Tryd.ntmps90
    go_wp2
    go_ret
    exact ⟨ret_bool (by simp [inY, h0]), rfl⟩
theorem glen_any (y m : Int) (w : World) (ht : GTab w) :
    Calls Tryd.prog 76 #[.int .i64 y, .int .i64 m] w fun e w' => e = .returned (.int .i64 (dim (glp y) m)) ∧ w = w' := by
  by_cases h : 1 ≤ m ∧ m ≤ 12
  · have h' : m = 1 ∨ m = 2 ∨ m = 3 ∨ m = 4 ∨ m = 5 ∨ m = 6 ∨ m = 7 ∨ m = 8 ∨ m = 9 ∨ m = 10 ∨ m = 11 ∨ m = 12 := by omega
    clear h
    rcases h' with rfl | rfl | rfl | rfl | rfl | rfl | rfl | rfl | rfl | rfl | rfl | rfl
    · have hc : w.cell? ⟨2, 0, none⟩ = some (.int .i64 31) := ht.len 0 (by omega)
      clear ht
      go_enter Tryd.func76, Tryd.ntmps76
      go_wp2
      go_ret
      exact ⟨rfl, rfl⟩
    · have hc : w.cell? ⟨2, 1, none⟩ = some (.int .i64 28) := ht.len 1 (by omega)
      clear ht
      cases hl : glp y
      · have H := fun w => (gleap_any y w)
        simp only [hl] at H
        clear hl
        go_enter Tryd.func76, Tryd.ntmps76
        go_wp2_with (go_at_call 91; refine (H _).mono ?_; rintro e w' ⟨rfl, rfl⟩)
        go_ret
        exact ⟨rfl, rfl⟩
      · have H := fun w => (gleap_any y w)
        simp only [hl] at H
        clear hl
        go_enter Tryd.func76, Tryd.ntmps76
        go_wp2_with (go_at_call 91; refine (H _).mono ?_; rintro e w' ⟨rfl, rfl⟩)
        go_ret
        exact ⟨rfl, rfl⟩
    · have hc : w.cell? ⟨2, 2, none⟩ = some (.int .i64 31) := ht.len 2 (by omega)
      clear ht
      go_enter Tryd.func76, Tryd.ntmps76
      go_wp2
      go_ret
      exact ⟨rfl, rfl⟩
    · have hc : w.cell? ⟨2, 3, none⟩ = some (.int .i64 30) := ht.len 3 (by omega)
      clear ht
      go_enter Tryd.func76, Tryd.ntmps76
      go_wp2
      go_ret
      exact ⟨rfl, rfl⟩
    · have hc : w.cell? ⟨2, 4, none⟩ = some (.int .i64 31) := ht.len 4 (by omega)
      clear ht
      go_enter Tryd.func76, Tryd.ntmps76
      go_wp2
      go_ret
      exact ⟨rfl, rfl⟩
    · have hc : w.cell? ⟨2, 5, none⟩ = some (.int .i64 30) := ht.len 5 (by omega)
      clear ht
      go_enter Tryd.func76, Tryd.ntmps76
      go_wp2
      go_ret
      exact ⟨rfl, rfl⟩
    · have hc : w.cell? ⟨2, 6, none⟩ = some (.int .i64 31) := ht.len 6 (by omega)
      clear ht
      go_enter Tryd.func76, Tryd.ntmps76
      go_wp2
      go_ret
      exact ⟨rfl, rfl⟩
    · have hc : w.cell? ⟨2, 7, none⟩ = some (.int .i64 31) := ht.len 7 (by omega)
      clear ht
      go_enter Tryd.func76, Tryd.ntmps76
      go_wp2
      go_ret
      exact ⟨rfl, rfl⟩
    · have hc : w.cell? ⟨2, 8, none⟩ = some (.int .i64 30) := ht.len 8 (by omega)
      clear ht
      go_enter Tryd.func76, Tryd.ntmps76
      go_wp2
      go_ret
      exact ⟨rfl, rfl⟩
    · have hc : w.cell? ⟨2, 9, none⟩ = some (.int .i64 31) := ht.len 9 (by omega)
      clear ht
      go_enter Tryd.func76, Tryd.ntmps76
      go_wp2
      go_ret
      exact ⟨rfl, rfl⟩
    · have hc : w.cell? ⟨2, 10, none⟩ = some (.int .i64 30) := ht.len 10 (by omega)
      clear ht
      go_enter Tryd.func76, Tryd.ntmps76
      go_wp2
      go_ret
      exact ⟨rfl, rfl⟩
    · have hc : w.cell? ⟨2, 11, none⟩ = some (.int .i64 31) := ht.len 11 (by omega)
      clear ht
      go_enter Tryd.func76, Tryd.ntmps76
      go_wp2
      go_ret
      exact ⟨rfl, rfl⟩
  · have h0 := Lib.hid (dim_out (glp y) m (by omega))
    clear ht
    by_cases h1 : m < 1
    · clear h
      go_enter Tryd.func76, Tryd.ntmps76
      go_wp2
      go_ret
      exact ⟨ret_int h0.out.symm, rfl⟩
    · have h2 : 12 < m := by omega
      clear h
      go_enter Tryd.func76, Tryd.ntmps76
      go_wp2
      go_ret
      exact ⟨ret_int h0.out.symm, rfl⟩
end Go.Proofs.YtnfeihbkemgecaaDoor

namespace Go.Proofs.YtnfeihbkemgecaaDoor
open Go.RowKit

theorem gfirst_in (y : Int) (w : World) (h1 : 1 ≤ y) (h2 : y ≤ 1000000000) :
    Calls Tryd.prog 74 #[.int .i64 y] w fun e w' => e = .returned (.tuple #[.int .i64 (gfst y), .int .i64 0]) ∧ w = w' := by
  have H := fun w => gin_any y w
  simp only [inY_iff.2 ⟨h1, h2⟩] at H
  go_enter Tryd.func74, Tryd.ntmps74
  go_wp2_with (go_at_call 90; refine (H _).mono ?_; rintro e w' ⟨rfl, rfl⟩)
  go_ret2
  exact ⟨ret_ii (by unfold gfst; omega) rfl, rfl⟩
theorem gfirst_out (y : Int) (w : World) (h : ¬ (1 ≤ y ∧ y ≤ 1000000000)) :
    Calls Tryd.prog 74 #[.int .i64 y] w fun e w' => e = .returned (.tuple #[.int .i64 0, .int .i64 1]) ∧ w = w' := by
  have H := fun w => gin_any y w
  simp only [inY_false h] at H
  clear h
  go_enter Tryd.func74, Tryd.ntmps74
  go_wp2_with (go_at_call 90; refine (H _).mono ?_; rintro e w' ⟨rfl, rfl⟩)
  go_ret2
  exact ⟨rfl, rfl⟩
theorem sfirst_in (y : Int) (w : World) (h1 : 1 ≤ y) (h2 : y ≤ 1000000001) :
    Calls Tryd.prog 28 #[.int .i64 y] w fun e w' => e = .returned (.int .i64 (gfst y)) ∧ w = w' := by
  go_enter Tryd.func28, Tryd.ntmps28
  go_wp2
  go_ret
  exact ⟨ret_int (by unfold gfst; omega), rfl⟩

theorem grpidx0 (w : World) : (Instr.index 86 (.agg grp) (.int .i64 0)).run Tryd.prog w = .ok (.agg #[.int .i64 400, .int .i64 146097, .int .i64 2499999]) w := by kernel_rfl
theorem grpidx1 (w : World) : (Instr.index 86 (.agg grp) (.int .i64 1)).run Tryd.prog w = .ok (.agg #[.int .i64 100, .int .i64 36524, .int .i64 3]) w := by kernel_rfl
theorem grpidx2 (w : World) : (Instr.index 86 (.agg grp) (.int .i64 2)).run Tryd.prog w = .ok (.agg #[.int .i64 4, .int .i64 1461, .int .i64 24]) w := by kernel_rfl
theorem grpidx3 (w : World) : (Instr.index 86 (.agg grp) (.int .i64 3)).run Tryd.prog w = .ok (.agg #[.int .i64 1, .int .i64 365, .int .i64 3]) w := by kernel_rfl

set_option maxHeartbeats 400000 in
theorem gsplit_any (D a b c e : Int) (w : World) (ht : GTab w) (h1 : 0 ≤ D) (h2 : D ≤ 400000000000) 
    (ha : 0 ≤ a ∧ a ≤ 2499999) (hb : 0 ≤ b ∧ b ≤ 3) (hc : 0 ≤ c ∧ c ≤ 24) (he : 0 ≤ e ∧ e ≤ 3) (r1 : 0 ≤ D - a * 146097) (r2 : 0 ≤ D - a * 146097 - b * 36524) (r3 : 0 ≤ D - a * 146097 - b * 36524 - c * 1461)
    (Ha : ∀ w, Calls Tryd.prog 89 #[.int .i64 (D / 146097), .int .i64 0, .int .i64 2499999] w fun x w' => x = .returned (.int .i64 a) ∧ w = w')
    (Hb : ∀ w, Calls Tryd.prog 89 #[.int .i64 ((D - a * 146097) / 36524), .int .i64 0, .int .i64 3] w fun x w' => x = .returned (.int .i64 b) ∧ w = w')
    (Hc : ∀ w, Calls Tryd.prog 89 #[.int .i64 ((D - a * 146097 - b * 36524) / 1461), .int .i64 0, .int .i64 24] w fun x w' => x = .returned (.int .i64 c) ∧ w = w')
    (He : ∀ w, Calls Tryd.prog 89 #[.int .i64 ((D - a * 146097 - b * 36524 - c * 1461) / 365), .int .i64 0, .int .i64 3] w fun x w' => x = .returned (.int .i64 e) ∧ w = w') :
    Calls Tryd.prog 77 #[.int .i64 D] w fun x w' => x = .returned (.tuple #[.int .i64 (1 + a * 400 + b * 100 + c * 4 + e), .int .i64 (D - a * 146097 - b * 36524 - c * 1461 - e * 365)]) ∧ Below w.heap.size w w' := by
  obtain ⟨t, fr, hg⟩ := ht.grp
  have hi : (Tryd.prog.info? 86).map (·.size) = some grp.size := by kernel_rfl
  clear ht
  go_enter Tryd.func77, Tryd.ntmps77
  go_wp2_with (refine wpList_load_row rfl _ _ rfl 3 rfl t grp fr _ hg Tryd.underlying86 rfl hi ?_)
  go_loopw [2, 3, 9] (fun ys rs is wr => Below w.heap.size w wr ∧ ((is = .int .i64 0 ∧ ys = .int .i64 1 ∧ rs = .int .i64 D) ∨ (is = .int .i64 1 ∧ ys = .int .i64 (1 + a * 400) ∧ rs = .int .i64 (D - a * 146097)) ∨ (is = .int .i64 2 ∧ ys = .int .i64 (1 + a * 400 + b * 100) ∧ rs = .int .i64 (D - a * 146097 - b * 36524)) ∨ (is = .int .i64 3 ∧ ys = .int .i64 (1 + a * 400 + b * 100 + c * 4) ∧ rs = .int .i64 (D - a * 146097 - b * 36524 - c * 1461)) ∨ (is = .int .i64 4 ∧ ys = .int .i64 (1 + a * 400 + b * 100 + c * 4 + e) ∧ rs = .int .i64 (D - a * 146097 - b * 36524 - c * 1461 - e * 365)))) (fun _ _ is _ => (4 - intOf is).toNat)
  case atStart => exact ⟨Below.refl _ _, Or.inl ⟨rfl, rfl, rfl⟩⟩
  case round =>
    obtain ⟨hbw, hcase⟩ := hrel
    have HB := Lib.hid hbw
    clear hbw hg
    rcases hcase with ⟨rfl, rfl, rfl⟩ | ⟨rfl, rfl, rfl⟩ | ⟨rfl, rfl, rfl⟩ | ⟨rfl, rfl, rfl⟩ | ⟨rfl, rfl, rfl⟩
    · have hi0 := grpidx0
      go_wp2_with fail
      go_quiet ((go_at_call 89; exact quiet_same (Ha _)))
      simp only [dn_al]
      have Hz : wr.heap.size = (wr.drewN nq).heap.size := rfl
      have HB2 := Lib.hid (below_dn HB.out nq)
      have Hs := Lib.hid HB.out.size
      generalize wr.drewN nq = x at *
      rw [Hz]
      have Hz' := Lib.hid Hz
      clear Hz
      go_wp2_with fail
      go_round
      case rel => exact ⟨HB2.out.alloc (by rw [← Hz'.out]; exact Hs.out) _, Or.inr (Or.inl ⟨rfl, rfl, rfl⟩)⟩
      case measure => simp [intOf]
    · have hi1 := grpidx1
      go_wp2_with fail
      go_quiet ((go_at_call 89; exact quiet_same (Hb _)))
      simp only [dn_al]
      have Hz : wr.heap.size = (wr.drewN nq).heap.size := rfl
      have HB2 := Lib.hid (below_dn HB.out nq)
      have Hs := Lib.hid HB.out.size
      generalize wr.drewN nq = x at *
      rw [Hz]
      have Hz' := Lib.hid Hz
      clear Hz
      go_wp2_with fail
      go_round
      case rel => exact ⟨HB2.out.alloc (by rw [← Hz'.out]; exact Hs.out) _, Or.inr (Or.inr (Or.inl ⟨rfl, rfl, rfl⟩))⟩
      case measure => simp [intOf]
    · have hi2 := grpidx2
      go_wp2_with fail
      go_quiet ((go_at_call 89; exact quiet_same (Hc _)))
      simp only [dn_al]
      have Hz : wr.heap.size = (wr.drewN nq).heap.size := rfl
      have HB2 := Lib.hid (below_dn HB.out nq)
      have Hs := Lib.hid HB.out.size
      generalize wr.drewN nq = x at *
      rw [Hz]
      have Hz' := Lib.hid Hz
      clear Hz
      go_wp2_with fail
      go_round
      case rel => exact ⟨HB2.out.alloc (by rw [← Hz'.out]; exact Hs.out) _, Or.inr (Or.inr (Or.inr (Or.inl ⟨rfl, rfl, rfl⟩)))⟩
      case measure => simp [intOf]
    · have hi3 := grpidx3
      go_wp2_with fail
      go_quiet ((go_at_call 89; exact quiet_same (He _)))
      simp only [dn_al]
      have Hz : wr.heap.size = (wr.drewN nq).heap.size := rfl
      have HB2 := Lib.hid (below_dn HB.out nq)
      have Hs := Lib.hid HB.out.size
      generalize wr.drewN nq = x at *
      rw [Hz]
      have Hz' := Lib.hid Hz
      clear Hz
      go_wp2_with fail
      go_round
      case rel => exact ⟨HB2.out.alloc (by rw [← Hz'.out]; exact Hs.out) _, Or.inr (Or.inr (Or.inr (Or.inr (⟨rfl, rfl, rfl⟩))))⟩
      case measure => simp [intOf]
    · go_wp2_with fail
      go_ret2
      exact ⟨rfl, HB.out⟩

/-- the year by its place in 400, 100, 4 and 1 years -/
theorem year_parts (y : Int) (h1 : 1 ≤ y) (h2 : y ≤ 1000000000) : ∃ a b c e : Int, y = 1 + a * 400 + b * 100 + c * 4 + e ∧ (0 ≤ a ∧ a ≤ 2499999) ∧ (0 ≤ b ∧ b ≤ 3) ∧ (0 ≤ c ∧ c ≤ 24) ∧ (0 ≤ e ∧ e ≤ 3) ∧
    l01 (glp y) = (if e = 3 ∧ (¬ c = 24 ∨ b = 3) then 1 else 0) ∧ gfst y = 1 + a * 146097 + b * 36524 + c * 1461 + e * 365 := by
  refine ⟨(y - 1) / 400, (y - 1) % 400 / 100, (y - 1) % 100 / 4, (y - 1) % 4, by omega, by omega, by omega, by omega, by omega, ?_, by unfold gfst; omega⟩
  rw [glp_if]
  split <;> split <;> omega
theorem gsplit_at (y r : Int) (w : World) (ht : GTab w) (h1 : 1 ≤ y) (h2 : y ≤ 1000000000) (r1 : 0 ≤ r) (r2 : r < 365 + l01 (glp y)) (D : Int) (hD : D = gfst y - 1 + r) :
    Calls Tryd.prog 77 #[.int .i64 D] w fun e w' => e = .returned (.tuple #[.int .i64 y, .int .i64 r]) ∧ Below w.heap.size w w' := by
  obtain ⟨a, b, c, e, hy, ha, hb, hc, he, hl, hf⟩ := year_parts y h1 h2
  rw [hl] at r2
  rw [hf] at hD
  have d1 : 0 ≤ D := by omega
  have d2 : D ≤ 400000000000 := by split at r2 <;> omega
  have ca : clampI (D / 146097) 0 2499999 = a := by unfold clampI; split at r2 <;> (repeat' split) <;> omega
  have cb : clampI ((D - a * 146097) / 36524) 0 3 = b := by unfold clampI; split at r2 <;> (repeat' split) <;> omega
  have cc : clampI ((D - a * 146097 - b * 36524) / 1461) 0 24 = c := by unfold clampI; split at r2 <;> (repeat' split) <;> omega
  have ce : clampI ((D - a * 146097 - b * 36524 - c * 1461) / 365) 0 3 = e := by unfold clampI; split at r2 <;> (repeat' split) <;> omega
  have H := gsplit_any D a b c e w ht d1 d2 ha hb hc he (by omega) (by omega) (by omega)
    (fun w => by have h := clamp_any (D / 146097) 0 2499999 w; rw [ca] at h; exact h)
    (fun w => by have h := clamp_any ((D - a * 146097) / 36524) 0 3 w; rw [cb] at h; exact h)
    (fun w => by have h := clamp_any ((D - a * 146097 - b * 36524) / 1461) 0 24 w; rw [cc] at h; exact h)
    (fun w => by have h := clamp_any ((D - a * 146097 - b * 36524 - c * 1461) / 365) 0 3 w; rw [ce] at h; exact h)
  rw [← hy, show D - a * 146097 - b * 36524 - c * 1461 - e * 365 = r from by omega] at H
  exact H
end Go.Proofs.YtnfeihbkemgecaaDoor

namespace Go.Proofs.YtnfeihbkemgecaaDoor
open Go.RowKit

theorem gvld_not1 {y m d : Int} (h : inY y = false) : greg.vld y m d = false := by
  cases g : greg.vld y m d with
  | false => rfl
  | true => have := greg.vld_iff.1 g; rw [inY_iff.2 ⟨this.1, this.2.1⟩] at h; cases h
theorem gvld_not2 {y m d : Int} (h : ¬ 1 ≤ d) : greg.vld y m d = false := by
  cases g : greg.vld y m d with
  | false => rfl
  | true => have := greg.vld_iff.1 g; omega
theorem gvld_is {y m d : Int} (h : inY y = true) (h1 : 1 ≤ d) : decide (d ≤ dim (glp y) m) = greg.vld y m d := by
  rw [inY_iff] at h
  rw [Bool.eq_iff_iff, decide_eq_true_iff, greg.vld_iff]
  exact ⟨fun g => ⟨h.1, h.2, h1, g⟩, fun g => g.2.2.2⟩

theorem gvalid_any (y m d : Int) (w : World) (ht : GTab w) :
    Calls Tryd.prog 75 #[.agg #[.int .i64 y, .int .i64 m, .int .i64 d]] w fun e w' => e = .returned (.bool (greg.vld y m d)) ∧ Below w.heap.size w w' := by
  have Hi := fun w => gin_any y w
  cases h : inY y
  · simp only [h] at Hi
    have hv := Lib.hid (gvld_not1 (m := m) (d := d) h)
    clear h
    go_enter Tryd.func75, Tryd.ntmps75
    go_wp2_with fail
    go_quiet ((go_at_call 90; exact quiet_same (Hi _)))
    go_wp2
    go_ret
    exact ⟨ret_bool hv.out.symm, below_dn ((Below.refl _ _).alloc (Nat.le_refl _) _) _⟩
  · simp only [h] at Hi
    by_cases hd : 1 ≤ d
    · have hv := Lib.hid (gvld_is (m := m) h hd)
      have Hl := fun n => glen_any y m _ ((ht.al (Obj.cells #[Value.int IntKind.i64 y, Value.int IntKind.i64 m, Value.int IntKind.i64 d] 24)).dn n)
      clear h ht
      go_enter Tryd.func75, Tryd.ntmps75
      go_wp2_with fail
      go_quiet ((first | (go_at_call 90; exact quiet_same (Hi _)) | (go_at_call 76; exact quiet_same (Hl _))))
      go_wp2
      go_ret
      exact ⟨ret_bool hv.out, below_dn ((Below.refl _ _).alloc (Nat.le_refl _) _) _⟩
    · have hv := Lib.hid (gvld_not2 (y := y) (m := m) hd)
      have hd : decide (1 ≤ d) = false := by simpa using hd
      clear h ht
      go_enter Tryd.func75, Tryd.ntmps75
      go_wp2_with fail
      go_quiet ((go_at_call 90; exact quiet_same (Hi _)))
      go_wp2
      go_ret
      exact ⟨ret_bool hv.out.symm, below_dn ((Below.refl _ _).alloc (Nat.le_refl _) _) _⟩

theorem svalid_any (y m d : Int) (w : World) (hy : inR y = true) :
    Calls Tryd.prog 14 #[.agg #[.int .i64 y, .int .i64 m, .int .i64 d]] w fun e w' => e = .returned (.bool (greg.vld y m d)) ∧ Below w.heap.size w w' := by
  have Hi := fun w => rin_any y w
  have Hp := fun w => sleap_any y w hy
  have Hl := fun w => rlen_any (glp y) m w
  clear hy
  cases h : inY y
  · simp only [h] at Hi
    have hv := Lib.hid (gvld_not1 (m := m) (d := d) h)
    clear h
    go_enter Tryd.func14, Tryd.ntmps14
    go_wp2_with fail
    go_quiet ((go_at_call 27; exact quiet_same (Hi _)))
    go_wp2
    go_ret
    exact ⟨ret_bool hv.out.symm, below_dn ((Below.refl _ _).alloc (Nat.le_refl _) _) _⟩
  · simp only [h] at Hi
    by_cases hd : 1 ≤ d
    · have hv := Lib.hid (gvld_is (m := m) h hd)
      clear h
      go_enter Tryd.func14, Tryd.ntmps14
      go_wp2_with fail
      go_quiet ((first | (go_at_call 27; exact quiet_same (Hi _)) | (go_at_call 30; exact quiet_same (Hp _)) | (go_at_call 29; exact quiet_same (Hl _))))
      go_wp2
      go_ret
      exact ⟨ret_bool hv.out, below_dn ((Below.refl _ _).alloc (Nat.le_refl _) _) _⟩
    · have hv := Lib.hid (gvld_not2 (y := y) (m := m) hd)
      have hd : decide (1 ≤ d) = false := by simpa using hd
      clear h
      go_enter Tryd.func14, Tryd.ntmps14
      go_wp2_with fail
      go_quiet ((go_at_call 27; exact quiet_same (Hi _)))
      go_wp2
      go_ret
      exact ⟨ret_bool hv.out.symm, below_dn ((Below.refl _ _).alloc (Nat.le_refl _) _) _⟩
end Go.Proofs.YtnfeihbkemgecaaDoor

namespace Go.Proofs.YtnfeihbkemgecaaDoor
open Go.RowKit

theorem gday_out (y m d : Int) (w : World) (h : ¬ (1 ≤ y ∧ y ≤ 1000000000)) :
    Calls Tryd.prog 56 #[.agg #[.int .i64 y, .int .i64 m, .int .i64 d]] w fun e w' => e = .returned (.tuple #[.int .i64 0, .int .i64 1]) ∧ Below w.heap.size w w' := by
  have Hf := fun w => gfirst_out y w h
  clear h
  go_enter Tryd.func56, Tryd.ntmps56
  go_wp2_with (go_at_call 74; refine (Hf _).mono ?_; rintro e w' ⟨rfl, rfl⟩)
  go_ret2
  exact ⟨rfl, (Below.refl _ _).alloc (Nat.le_refl _) _⟩

theorem gday_bad (y m d : Int) (w : World) (ht : GTab w) (h1 : 1 ≤ y) (h2 : y ≤ 1000000000) (hv : greg.vld y m d = false) :
    Calls Tryd.prog 56 #[.agg #[.int .i64 y, .int .i64 m, .int .i64 d]] w fun e w' => e = .returned (.tuple #[.int .i64 0, .int .i64 2]) ∧ Below w.heap.size w w' := by
  have Hf := fun w => gfirst_in y w h1 h2
  have Hv := gvalid_any y m d _ (ht.al (Obj.cells #[Value.int IntKind.i64 y, Value.int IntKind.i64 m, Value.int IntKind.i64 d] 24))
  simp only [hv] at Hv
  clear hv ht
  go_enter Tryd.func56, Tryd.ntmps56
  go_wp2_with fail
  refine (Hf _).mono ?_
  rintro e w' ⟨rfl, rfl⟩
  go_wp2_with fail
  refine Hv.mono ?_
  rintro e w1 ⟨rfl, hb⟩
  go_wp2
  go_ret2
  exact ⟨rfl, below_al1 hb⟩

set_option maxHeartbeats 400000 in
theorem gday_at (y m d : Int) (w : World) (ht : GTab w) (hv : greg.vld y m d = true) :
    Calls Tryd.prog 56 #[.agg #[.int .i64 y, .int .i64 m, .int .i64 d]] w fun e w' => e = .returned (.tuple #[.int .i64 (greg.num y m d), .int .i64 0]) ∧ Below w.heap.size w w' := by
  obtain ⟨y1, y2, d1, d2⟩ := greg.vld_iff.1 hv
  obtain ⟨m1, m2⟩ := greg.vld_month hv
  have hd31 := (dim_bd (greg.lp y) m m1 m2).2
  have Hf := fun w => gfirst_in y w y1 y2
  have Hv := gvalid_any y m d _ (ht.al (Obj.cells #[Value.int IntKind.i64 y, Value.int IntKind.i64 m, Value.int IntKind.i64 d] 24))
  simp only [hv] at Hv
  have Ht := Lib.hid (ht.al (Obj.cells #[Value.int IntKind.i64 y, Value.int IntKind.i64 m, Value.int IntKind.i64 d] 24))
  have d31 : d ≤ 31 := by omega
  have hn : Hid (greg.num y m d = gfst y + cum (glp y) m + d - 1) := rfl
  have hf1 : 1 ≤ gfst y := by unfold gfst; omega
  have hf2 : gfst y ≤ 366000000000 := by unfold gfst; omega
  generalize greg.num y m d = R at *
  clear hv ht d2 hd31
  go_enter Tryd.func56, Tryd.ntmps56
  go_wp2_with fail
  refine (Hf _).mono ?_
  rintro e w' ⟨rfl, rfl⟩
  go_wp2_with fail
  refine Hv.mono ?_
  rintro e w1 ⟨rfl, hb⟩
  obtain ⟨hc, hfz⟩ := bcell hb
  have Ht1 := Lib.hid (Ht.out.on hb)
  have Hb := Lib.hid (below_al1 hb)
  have hz : w.heap.size < w1.heap.size := by have := hb.size; simp at this; omega
  clear hb Hv Hf Ht
  go_wp2_with fail
  go_loop [4, 6] (fun n k => ∃ j : Int, 1 ≤ j ∧ j ≤ m ∧ k = .int .i64 j ∧ n = .int .i64 (gfst y + cum (glp y) j)) (fun _ k => (12 - intOf k).toNat)
  case atStart => exact ⟨1, by omega, m1, rfl, by rw [cum_one]; simp⟩
  case round =>
    obtain ⟨j, j1, j2, rfl, rfl⟩ := hrel
    have cb := cum_bd (glp y) j j1 (by omega)
    have db := dim_bd (glp y) j j1 (by omega)
    have cs := Lib.hid (cum_succ (glp y) j j1 (by omega))
    by_cases hlt : j < m
    · go_wp2_with (go_at_call 76; refine (glen_any y j _ Ht1.out).mono ?_; rintro e w' ⟨rfl, rfl⟩)
      go_round
      case rel => exact ⟨j + 1, by omega, by omega, rfl, by rw [cs.out]; go_num⟩
      case measure => simp [intOf]; omega
    · obtain rfl : j = m := by omega
      go_wp2_with fail
      go_ret2
      exact ⟨ret_ii hn.out.symm rfl, Hb.out⟩

theorem sday_out (y m d : Int) (w : World) (h : ¬ (1 ≤ y ∧ y ≤ 1000000000)) :
    Calls Tryd.prog 10 #[.agg #[.int .i64 y, .int .i64 m, .int .i64 d]] w fun e w' => e = .returned (.tuple #[.int .i64 0, .int .i64 1]) ∧ Below w.heap.size w w' := by
  have Hi := fun w => rin_any y w
  simp only [inY_false h] at Hi
  clear h
  go_enter Tryd.func10, Tryd.ntmps10
  go_wp2_with (go_at_call 27; refine (Hi _).mono ?_; rintro e w' ⟨rfl, rfl⟩)
  go_ret2
  exact ⟨rfl, (Below.refl _ _).alloc (Nat.le_refl _) _⟩

theorem sday_bad (y m d : Int) (w : World) (h1 : 1 ≤ y) (h2 : y ≤ 1000000000) (hv : greg.vld y m d = false) :
    Calls Tryd.prog 10 #[.agg #[.int .i64 y, .int .i64 m, .int .i64 d]] w fun e w' => e = .returned (.tuple #[.int .i64 0, .int .i64 2]) ∧ Below w.heap.size w w' := by
  have Hi := fun w => rin_any y w
  simp only [inY_iff.2 ⟨h1, h2⟩] at Hi
  have Hv := fun w => svalid_any y m d w (inR_iff.2 (by omega))
  simp only [hv] at Hv
  clear hv
  go_enter Tryd.func10, Tryd.ntmps10
  go_wp2_with fail
  refine (Hi _).mono ?_
  rintro e w' ⟨rfl, rfl⟩
  go_wp2_with fail
  refine (Hv _).mono ?_
  rintro e w1 ⟨rfl, hb⟩
  go_wp2
  go_ret2
  exact ⟨rfl, below_al1 hb⟩

set_option maxHeartbeats 400000 in
theorem sday_at (y m d : Int) (w : World) (hv : greg.vld y m d = true) :
    Calls Tryd.prog 10 #[.agg #[.int .i64 y, .int .i64 m, .int .i64 d]] w fun e w' => e = .returned (.tuple #[.int .i64 (greg.num y m d), .int .i64 0]) ∧ Below w.heap.size w w' := by
  obtain ⟨y1, y2, d1, d2⟩ := greg.vld_iff.1 hv
  obtain ⟨m1, m2⟩ := greg.vld_month hv
  have hd31 := (dim_bd (greg.lp y) m m1 m2).2
  have Hi := fun w => rin_any y w
  simp only [inY_iff.2 ⟨y1, y2⟩] at Hi
  have Hf := fun w => sfirst_in y w y1 (by omega)
  have Hp := fun w => sleap_any y w (inR_iff.2 (by omega))
  have Hv := fun w => svalid_any y m d w (inR_iff.2 (by omega))
  simp only [hv] at Hv
  have d31 : d ≤ 31 := by omega
  have hn : Hid (greg.num y m d = gfst y + cum (glp y) m + d - 1) := rfl
  have hf1 : 1 ≤ gfst y := by unfold gfst; omega
  have hf2 : gfst y ≤ 366000000000 := by unfold gfst; omega
  generalize greg.num y m d = R at *
  clear hv d2 hd31
  go_enter Tryd.func10, Tryd.ntmps10
  go_wp2_with fail
  refine (Hi _).mono ?_
  rintro e w' ⟨rfl, rfl⟩
  go_wp2_with fail
  refine (Hv _).mono ?_
  rintro e w1 ⟨rfl, hb⟩
  obtain ⟨hc, hfz⟩ := bcell hb
  have Hb := Lib.hid (below_al1 hb)
  have hz : w.heap.size < w1.heap.size := by have := hb.size; simp at this; omega
  clear hb Hv
  go_wp2_with fail
  refine (Hf _).mono ?_
  rintro e w' ⟨rfl, rfl⟩
  go_wp2_with fail
  go_loop [4, 5] (fun n k => ∃ j : Int, 1 ≤ j ∧ j ≤ m ∧ k = .int .i64 j ∧ n = .int .i64 (gfst y + cum (glp y) j)) (fun _ k => (12 - intOf k).toNat)
  case atStart => exact ⟨1, by omega, m1, rfl, by rw [cum_one]; simp⟩
  case round =>
    obtain ⟨j, j1, j2, rfl, rfl⟩ := hrel
    have cb := cum_bd (glp y) j j1 (by omega)
    have db := dim_bd (glp y) j j1 (by omega)
    have cs := Lib.hid (cum_succ (glp y) j j1 (by omega))
    by_cases hlt : j < m
    · go_wp2_with (first | (go_at_call 30; refine (Hp _).mono ?_; rintro e w' ⟨rfl, rfl⟩) | (go_at_call 29; refine (rlen_any (glp y) j _).mono ?_; rintro e w' ⟨rfl, rfl⟩))
      go_round
      case rel => exact ⟨j + 1, by omega, by omega, rfl, by rw [cs.out]; go_num⟩
      case measure => simp [intOf]; omega
    · obtain rfl : j = m := by omega
      go_wp2_with fail
      go_ret2
      exact ⟨ret_ii hn.out.symm rfl, Hb.out⟩
end Go.Proofs.YtnfeihbkemgecaaDoor

namespace Go.Proofs.YtnfeihbkemgecaaDoor
open Go.RowKit

theorem gfrom_no (n : Int) (w : World) (h : n < 1 ∨ 365242500000 < n) :
    Calls Tryd.prog 57 #[.int .i64 n] w fun e w' => e = .returned (.tuple #[.agg #[.int .i64 0, .int .i64 0, .int .i64 0], .int .i64 1]) ∧ Below w.heap.size w w' := by
  rcases h with h | h
  · go_enter Tryd.func57, Tryd.ntmps57
    go_wp2
    exact bodyPost_ret (v := .tuple #[.agg #[.int .i64 0, .int .i64 0, .int .i64 0], .int .i64 1]) (by simp [results, Tryd.results57, go_sem]) rfl ⟨rfl, (Below.refl _ _).alloc (Nat.le_refl _) _⟩
  · have h' : ¬ n < 1 := by omega
    go_enter Tryd.func57, Tryd.ntmps57
    go_wp2
    exact bodyPost_ret (v := .tuple #[.agg #[.int .i64 0, .int .i64 0, .int .i64 0], .int .i64 1]) (by simp [results, Tryd.results57, go_sem]) rfl ⟨rfl, (Below.refl _ _).alloc (Nat.le_refl _) _⟩

set_option maxHeartbeats 400000 in
theorem gfrom_at (n y m d : Int) (w : World) (ht : GTab w) (hv : greg.vld y m d = true) (hn : greg.num y m d = n) :
    Calls Tryd.prog 57 #[.int .i64 n] w fun e w' => e = .returned (.tuple #[.agg #[.int .i64 y, .int .i64 m, .int .i64 d], .int .i64 0]) ∧ Below w.heap.size w w' := by
  obtain ⟨y1, y2, d1, d2⟩ := greg.vld_iff.1 hv
  obtain ⟨m1, m2⟩ := greg.vld_month hv
  obtain ⟨q1, q2⟩ := greg.doy_bd hv
  have hd31 := (dim_bd (greg.lp y) m m1 m2).2
  have hr := greg.num_range hv
  have n1 : 1 ≤ n := by rw [← hn]; have : greg.fst 1 = 1 := by decide
                        omega
  have n2 : n ≤ 365242500000 := by rw [← hn]; have : greg.fst 1000000001 = 365242500001 := by decide
                                   omega
  have d31 : d ≤ 31 := by omega
  have hD : n - 1 = gfst y - 1 + (cum (glp y) m + d - 1) := by rw [← hn]; show gfst y + cum (glp y) m + d - 1 - 1 = _; omega
  have Ht := ht.al (Obj.cells #[Value.int IntKind.i64 0, Value.int IntKind.i64 0, Value.int IntKind.i64 0] 24)
  have Hs := gsplit_at y (cum (glp y) m + d - 1) _ Ht y1 y2 q1 q2 (n - 1) hD
  have cbm := cum_bd (glp y) m m1 (by omega)
  have HT := Lib.hid Ht
  have d2 : d ≤ dim (glp y) m := d2
  clear hv ht hd31 hD hn hr Ht q1 q2
  go_enter Tryd.func57, Tryd.ntmps57
  go_wp2_with fail
  refine Hs.mono ?_
  rintro e w1 ⟨rfl, hb⟩
  obtain ⟨hc, hfz⟩ := bcell hb
  have Ht1 := Lib.hid (HT.out.on hb)
  have Hb := Lib.hid (below_al1 hb)
  have Hrow := Lib.hid (row_after hb)
  have hz : w.heap.size < w1.heap.size := by have := hb.size; simp at this; omega
  clear hb Hs HT
  have Hl := fun k => glen_any y k _ Ht1.out
  go_wp2_with fail
  go_loop [5, 6] (fun r k => ∃ j : Int, 1 ≤ j ∧ j ≤ m ∧ k = .int .i64 j ∧ r = .int .i64 (cum (glp y) m + d - 1 - cum (glp y) j)) (fun _ k => (12 - intOf k).toNat)
  case atStart => exact ⟨1, by omega, m1, rfl, by rw [cum_one]; simp⟩
  case round =>
    obtain ⟨j, j1, j2, rfl, rfl⟩ := hrel
    have cb := cum_bd (glp y) j j1 (by omega)
    have db := dim_bd (glp y) j j1 (by omega)
    by_cases hlt : j < m
    · have cn := cum_next (glp y) j m j1 hlt (by omega)
      have cs := Lib.hid (cum_succ (glp y) j j1 (by omega))
      have ht : dim (glp y) j ≤ cum (glp y) m + d - 1 - cum (glp y) j := by omega
      go_wp2_with (go_at_call 76; refine (Hl _).mono ?_; rintro e w' ⟨rfl, rfl⟩)
      go_round
      case rel => exact ⟨j + 1, by omega, by omega, rfl, by rw [cs.out]; go_num⟩
      case measure => simp [intOf]; omega
    · obtain rfl : j = m := by omega
      have ht : ¬ dim (glp y) j ≤ cum (glp y) j + d - 1 - cum (glp y) j := by omega
      have hd : cum (glp y) j + d - 1 - cum (glp y) j + 1 = d := by omega
      have Hd := Lib.hid hd
      clear hd
      go_wp2_with (go_at_call 76; refine (Hl _).mono ?_; rintro e w' ⟨rfl, rfl⟩)
      generalize hu : ((w1.setCell ⟨w.heap.size, 0, none⟩ (.int .i64 y)).setCell ⟨w.heap.size, 1, none⟩ (.int .i64 j)).setCell ⟨w.heap.size, 2, none⟩ (.int .i64 (cum (glp y) j + d - 1 - cum (glp y) j + 1)) = u
      obtain ⟨k0, k1, k2⟩ := three_set _ _ _ Hrow.out hu
      have Hb2 := Lib.hid (below_set3 Hb.out (Nat.le_refl _) _ _ _ hu)
      clear hu
      refine bodyPost_ret (v := .tuple #[.agg #[.int .i64 y, .int .i64 j, .int .i64 (cum (glp y) j + d - 1 - cum (glp y) j + 1)], .int .i64 0]) (by simp [results, Tryd.results57, go_sem, k0, k1, k2]) rfl ⟨by rw [Hd.out], Hb2.out⟩
end Go.Proofs.YtnfeihbkemgecaaDoor
