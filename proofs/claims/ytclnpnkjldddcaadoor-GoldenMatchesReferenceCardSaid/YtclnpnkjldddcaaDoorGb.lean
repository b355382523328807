/- The contracts of First and splitYear of package gregorian and of its reference's First. -/
import Derived.Test.YtclnpnkjldddcaaDoorGa
import Derived.Test.YtclnpnkjldddcaaDoorCl
import Derived.Laws.Rows
namespace Go.Proofs.YtclnpnkjldddcaaDoor
open Go.RowKit

theorem gfirst_in (y : Int) (w : World) (h1 : 1 ≤ y) (h2 : y ≤ 1000000000) :
    Calls Tryd.prog 70 #[.int .i64 y] w fun e w' => e = .returned (.tuple #[.int .i64 (gfst y), .int .i64 0]) ∧ w = w' := by
  have H := fun w => gin_any y w
  simp only [inY_iff.2 ⟨h1, h2⟩] at H
  go_enter Tryd.func70, Tryd.ntmps70
  go_wp2_with (go_at_call 77; refine (H _).mono ?_; rintro e w' ⟨rfl, rfl⟩)
  go_ret2
  exact ⟨ret_ii (by unfold gfst; omega) rfl, rfl⟩
theorem gfirst_out (y : Int) (w : World) (h : ¬ (1 ≤ y ∧ y ≤ 1000000000)) :
    Calls Tryd.prog 70 #[.int .i64 y] w fun e w' => e = .returned (.tuple #[.int .i64 0, .int .i64 1]) ∧ w = w' := by
  have H := fun w => gin_any y w
  simp only [inY_false h] at H
  clear h
  go_enter Tryd.func70, Tryd.ntmps70
  go_wp2_with (go_at_call 77; refine (H _).mono ?_; rintro e w' ⟨rfl, rfl⟩)
  go_ret2
  exact ⟨rfl, rfl⟩
theorem sfirst_in (y : Int) (w : World) (h1 : 1 ≤ y) (h2 : y ≤ 1000000001) :
    Calls Tryd.prog 50 #[.int .i64 y] w fun e w' => e = .returned (.int .i64 (gfst y)) ∧ w = w' := by
  go_enter Tryd.func50, Tryd.ntmps50
  go_wp2
  go_ret
  exact ⟨ret_int (by unfold gfst; omega), rfl⟩

theorem i0 (w : World) : (Instr.index 61 (.agg grp) (.int .i64 0)).run Tryd.prog w = .ok (.agg #[.int .i64 400, .int .i64 146097, .int .i64 2499999]) w := by kernel_rfl
theorem i1 (w : World) : (Instr.index 61 (.agg grp) (.int .i64 1)).run Tryd.prog w = .ok (.agg #[.int .i64 100, .int .i64 36524, .int .i64 3]) w := by kernel_rfl
theorem i2 (w : World) : (Instr.index 61 (.agg grp) (.int .i64 2)).run Tryd.prog w = .ok (.agg #[.int .i64 4, .int .i64 1461, .int .i64 24]) w := by kernel_rfl
theorem i3 (w : World) : (Instr.index 61 (.agg grp) (.int .i64 3)).run Tryd.prog w = .ok (.agg #[.int .i64 1, .int .i64 365, .int .i64 3]) w := by kernel_rfl

set_option maxHeartbeats 400000 in
theorem gsplit_any (D a b c e : Int) (w : World) (ht : GTab w) (h1 : 0 ≤ D) (h2 : D ≤ 400000000000) 
    (ha : 0 ≤ a ∧ a ≤ 2499999) (hb : 0 ≤ b ∧ b ≤ 3) (hc : 0 ≤ c ∧ c ≤ 24) (he : 0 ≤ e ∧ e ≤ 3) (r1 : 0 ≤ D - a * 146097) (r2 : 0 ≤ D - a * 146097 - b * 36524) (r3 : 0 ≤ D - a * 146097 - b * 36524 - c * 1461)
    (Ha : ∀ w, Calls Tryd.prog 76 #[.int .i64 (D / 146097), .int .i64 0, .int .i64 2499999] w fun x w' => x = .returned (.int .i64 a) ∧ w = w')
    (Hb : ∀ w, Calls Tryd.prog 76 #[.int .i64 ((D - a * 146097) / 36524), .int .i64 0, .int .i64 3] w fun x w' => x = .returned (.int .i64 b) ∧ w = w')
    (Hc : ∀ w, Calls Tryd.prog 76 #[.int .i64 ((D - a * 146097 - b * 36524) / 1461), .int .i64 0, .int .i64 24] w fun x w' => x = .returned (.int .i64 c) ∧ w = w')
    (He : ∀ w, Calls Tryd.prog 76 #[.int .i64 ((D - a * 146097 - b * 36524 - c * 1461) / 365), .int .i64 0, .int .i64 3] w fun x w' => x = .returned (.int .i64 e) ∧ w = w') :
    Calls Tryd.prog 73 #[.int .i64 D] w fun x w' => x = .returned (.tuple #[.int .i64 (1 + a * 400 + b * 100 + c * 4 + e), .int .i64 (D - a * 146097 - b * 36524 - c * 1461 - e * 365)]) ∧ Below w.heap.size w w' := by
  obtain ⟨t, fr, hg⟩ := ht.grp
  have hi : (Tryd.prog.info? 61).map (·.size) = some grp.size := by kernel_rfl
  clear ht
  go_enter Tryd.func73, Tryd.ntmps73
  go_wp2_with (refine wpList_load_row rfl _ _ rfl 2 rfl t grp fr _ hg Tryd.underlying61 rfl hi ?_)
  go_loopw [2, 3, 9] (fun ys rs is wr => Below w.heap.size w wr ∧ ((is = .int .i64 0 ∧ ys = .int .i64 1 ∧ rs = .int .i64 D) ∨ (is = .int .i64 1 ∧ ys = .int .i64 (1 + a * 400) ∧ rs = .int .i64 (D - a * 146097)) ∨ (is = .int .i64 2 ∧ ys = .int .i64 (1 + a * 400 + b * 100) ∧ rs = .int .i64 (D - a * 146097 - b * 36524)) ∨ (is = .int .i64 3 ∧ ys = .int .i64 (1 + a * 400 + b * 100 + c * 4) ∧ rs = .int .i64 (D - a * 146097 - b * 36524 - c * 1461)) ∨ (is = .int .i64 4 ∧ ys = .int .i64 (1 + a * 400 + b * 100 + c * 4 + e) ∧ rs = .int .i64 (D - a * 146097 - b * 36524 - c * 1461 - e * 365)))) (fun _ _ is _ => (4 - intOf is).toNat)
  case atStart => exact ⟨Below.refl _ _, Or.inl ⟨rfl, rfl, rfl⟩⟩
  case round =>
    obtain ⟨hbw, hcase⟩ := hrel
    have HB := Lib.hid hbw
    clear hbw hg
    rcases hcase with ⟨rfl, rfl, rfl⟩ | ⟨rfl, rfl, rfl⟩ | ⟨rfl, rfl, rfl⟩ | ⟨rfl, rfl, rfl⟩ | ⟨rfl, rfl, rfl⟩
    · have hi0 := i0
      go_wp2_with fail
      go_quiet ((go_at_call 76; exact quiet_same (Ha _)))
      simp only [dn_al]
      have Hz : wr.heap.size = (wr.drewN nq).heap.size := rfl
      have HB2 := Lib.hid (below_dn HB.out nq)
      have Hs := Lib.hid HB.out.size
      generalize wr.drewN nq = x at *
      rw [Hz]
      have Hz' := Lib.hid Hz
      clear Hz
      go_wp2_with fail
      go_round
      case rel => exact ⟨HB2.out.alloc (by rw [← Hz'.out]; exact Hs.out) _, Or.inr (Or.inl ⟨rfl, rfl, rfl⟩)⟩
      case measure => simp [intOf]
    · have hi1 := i1
      go_wp2_with fail
      go_quiet ((go_at_call 76; exact quiet_same (Hb _)))
      simp only [dn_al]
      have Hz : wr.heap.size = (wr.drewN nq).heap.size := rfl
      have HB2 := Lib.hid (below_dn HB.out nq)
      have Hs := Lib.hid HB.out.size
      generalize wr.drewN nq = x at *
      rw [Hz]
      have Hz' := Lib.hid Hz
      clear Hz
      go_wp2_with fail
      go_round
      case rel => exact ⟨HB2.out.alloc (by rw [← Hz'.out]; exact Hs.out) _, Or.inr (Or.inr (Or.inl ⟨rfl, rfl, rfl⟩))⟩
      case measure => simp [intOf]
    · have hi2 := i2
      go_wp2_with fail
      go_quiet ((go_at_call 76; exact quiet_same (Hc _)))
      simp only [dn_al]
      have Hz : wr.heap.size = (wr.drewN nq).heap.size := rfl
      have HB2 := Lib.hid (below_dn HB.out nq)
      have Hs := Lib.hid HB.out.size
      generalize wr.drewN nq = x at *
      rw [Hz]
      have Hz' := Lib.hid Hz
      clear Hz
      go_wp2_with fail
      go_round
      case rel => exact ⟨HB2.out.alloc (by rw [← Hz'.out]; exact Hs.out) _, Or.inr (Or.inr (Or.inr (Or.inl ⟨rfl, rfl, rfl⟩)))⟩
      case measure => simp [intOf]
    · have hi3 := i3
      go_wp2_with fail
      go_quiet ((go_at_call 76; exact quiet_same (He _)))
      simp only [dn_al]
      have Hz : wr.heap.size = (wr.drewN nq).heap.size := rfl
      have HB2 := Lib.hid (below_dn HB.out nq)
      have Hs := Lib.hid HB.out.size
      generalize wr.drewN nq = x at *
      rw [Hz]
      have Hz' := Lib.hid Hz
      clear Hz
      go_wp2_with fail
      go_round
      case rel => exact ⟨HB2.out.alloc (by rw [← Hz'.out]; exact Hs.out) _, Or.inr (Or.inr (Or.inr (Or.inr (⟨rfl, rfl, rfl⟩))))⟩
      case measure => simp [intOf]
    · go_wp2_with fail
      go_ret2
      exact ⟨rfl, HB.out⟩

/-- the year by its place in 400, 100, 4 and 1 years -/
theorem year_parts (y : Int) (h1 : 1 ≤ y) (h2 : y ≤ 1000000000) : ∃ a b c e : Int, y = 1 + a * 400 + b * 100 + c * 4 + e ∧ (0 ≤ a ∧ a ≤ 2499999) ∧ (0 ≤ b ∧ b ≤ 3) ∧ (0 ≤ c ∧ c ≤ 24) ∧ (0 ≤ e ∧ e ≤ 3) ∧
    l01 (glp y) = (if e = 3 ∧ (¬ c = 24 ∨ b = 3) then 1 else 0) ∧ gfst y = 1 + a * 146097 + b * 36524 + c * 1461 + e * 365 := by
  refine ⟨(y - 1) / 400, (y - 1) % 400 / 100, (y - 1) % 100 / 4, (y - 1) % 4, by omega, by omega, by omega, by omega, by omega, ?_, by unfold gfst; omega⟩
  rw [glp_if]
  split <;> split <;> omega
theorem gsplit_at (y r : Int) (w : World) (ht : GTab w) (h1 : 1 ≤ y) (h2 : y ≤ 1000000000) (r1 : 0 ≤ r) (r2 : r < 365 + l01 (glp y)) (D : Int) (hD : D = gfst y - 1 + r) :
    Calls Tryd.prog 73 #[.int .i64 D] w fun e w' => e = .returned (.tuple #[.int .i64 y, .int .i64 r]) ∧ Below w.heap.size w w' := by
  obtain ⟨a, b, c, e, hy, ha, hb, hc, he, hl, hf⟩ := year_parts y h1 h2
  rw [hl] at r2
  rw [hf] at hD
  have d1 : 0 ≤ D := by omega
  have d2 : D ≤ 400000000000 := by split at r2 <;> omega
  have ca : clampI (D / 146097) 0 2499999 = a := by unfold clampI; split at r2 <;> (repeat' split) <;> omega
  have cb : clampI ((D - a * 146097) / 36524) 0 3 = b := by unfold clampI; split at r2 <;> (repeat' split) <;> omega
  have cc : clampI ((D - a * 146097 - b * 36524) / 1461) 0 24 = c := by unfold clampI; split at r2 <;> (repeat' split) <;> omega
  have ce : clampI ((D - a * 146097 - b * 36524 - c * 1461) / 365) 0 3 = e := by unfold clampI; split at r2 <;> (repeat' split) <;> omega
  have H := gsplit_any D a b c e w ht d1 d2 ha hb hc he (by omega) (by omega) (by omega)
    (fun w => by have h := clamp_any (D / 146097) 0 2499999 w; rw [ca] at h; exact h)
    (fun w => by have h := clamp_any ((D - a * 146097) / 36524) 0 3 w; rw [cb] at h; exact h)
    (fun w => by have h := clamp_any ((D - a * 146097 - b * 36524) / 1461) 0 24 w; rw [cc] at h; exact h)
    (fun w => by have h := clamp_any ((D - a * 146097 - b * 36524 - c * 1461) / 365) 0 3 w; rw [ce] at h; exact h)
  rw [← hy, show D - a * 146097 - b * 36524 - c * 1461 - e * 365 = r from by omega] at H
  exact H
end Go.Proofs.YtclnpnkjldddcaaDoor
