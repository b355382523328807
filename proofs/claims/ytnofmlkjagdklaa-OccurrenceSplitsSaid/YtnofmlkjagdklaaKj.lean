/- What earlier stages proved: Ja Jb Jc Jd Jf. -/
import Derived.Test.YtnofmlkjagdklaaKa
namespace Go.Proofs.Ytnofmlkjagdklaa
open Go.RowKit

def jlp (y : Int) : Bool := decide (y % 4 = 0)
def jfst (y : Int) : Int := -1 + (y - 1) * 365 + (y - 1) / 4
def jul : Cal := ⟨jlp, jfst, fun y _ => by
  unfold jfst jlp
  by_cases h : y % 4 = 0
  · rw [decide_eq_true h]; simp only [l01]; omega
  · rw [decide_eq_false h]; simp only [l01]; omega⟩
theorem jlp_fmod (y : Int) : (y.fmod 4 == 0) = jlp y := by
  unfold jlp; rw [Bool.eq_iff_iff, beq_iff_eq, decide_eq_true_iff, Int.fmod_eq_emod_of_nonneg _ (by omega)]
theorem rleap_any (y : Int) (w : World) (hy : inR y = true) :
    Calls Try.prog 72 #[.int .i64 y] w fun e w' => e = .returned (.bool (jlp y)) ∧ w = w' := by
  have H := fun w => rmod_any y 4 w hy (by decide) (by simp [spl, fits])
  go_enter Try.func72, Try.ntmps72
  go_wp2_with (go_at_call 47; refine (H _).mono ?_; rintro e w' ⟨rfl, rfl⟩)
  go_ret
  exact ⟨ret_bool (jlp_fmod y), rfl⟩
end Go.Proofs.Ytnofmlkjagdklaa

namespace Go.Proofs.Ytnofmlkjagdklaa
open Go.RowKit

theorem rfirst_in (y : Int) (w : World) (h1 : 1 ≤ y) (h2 : y ≤ 1000000001) :
    Calls Try.prog 71 #[.int .i64 y] w fun e w' => e = .returned (.int .i64 (jfst y)) ∧ w = w' := by
  go_enter Try.func71, Try.ntmps71
  go_wp2
  go_ret
  exact ⟨ret_int (by unfold jfst; omega), rfl⟩

end Go.Proofs.Ytnofmlkjagdklaa

namespace Go.Proofs.Ytnofmlkjagdklaa
open Go.RowKit

theorem vld_not1 {y m d : Int} (h : inY y = false) : jul.vld y m d = false := by
  cases g : jul.vld y m d with
  | false => rfl
  | true => have := jul.vld_iff.1 g; rw [inY_iff.2 ⟨this.1, this.2.1⟩] at h; cases h
theorem vld_not2 {y m d : Int} (h : ¬ 1 ≤ d) : jul.vld y m d = false := by
  cases g : jul.vld y m d with
  | false => rfl
  | true => have := jul.vld_iff.1 g; omega
theorem vld_is {y m d : Int} (h : inY y = true) (h1 : 1 ≤ d) : decide (d ≤ dim (jlp y) m) = jul.vld y m d := by
  rw [inY_iff] at h
  rw [Bool.eq_iff_iff, decide_eq_true_iff, jul.vld_iff]
  exact ⟨fun g => ⟨h.1, h.2, h1, g⟩, fun g => g.2.2.2⟩

theorem rvalid_any (y m d : Int) (w : World) (hy : inR y = true) :
    Calls Try.prog 70 #[.agg #[.int .i64 y, .int .i64 m, .int .i64 d]] w fun e w' => e = .returned (.bool (jul.vld y m d)) ∧ Below w.heap.size w w' := by
  have Hi := fun w => rin_any y w
  have Hp := fun w => rleap_any y w hy
  have Hl := fun w => rlen_any (jlp y) m w
  clear hy
  cases h : inY y
  · simp only [h] at Hi
    have hv := Lib.hid (vld_not1 (m := m) (d := d) h)
    clear h
    go_enter Try.func70, Try.ntmps70
    go_wp2_with fail
    go_quiet ((go_at_call 57; exact quiet_same (Hi _)))
    go_wp2
    go_ret
    exact ⟨ret_bool hv.out.symm, below_dn ((Below.refl _ _).alloc (Nat.le_refl _) _) _⟩
  · simp only [h] at Hi
    by_cases hd : 1 ≤ d
    · have hv := Lib.hid (vld_is (m := m) h hd)
      clear h
      go_enter Try.func70, Try.ntmps70
      go_wp2_with fail
      go_quiet ((first | (go_at_call 57; exact quiet_same (Hi _)) | (go_at_call 72; exact quiet_same (Hp _)) | (go_at_call 59; exact quiet_same (Hl _))))
      go_wp2
      go_ret
      exact ⟨ret_bool hv.out, below_dn ((Below.refl _ _).alloc (Nat.le_refl _) _) _⟩
    · have hv := Lib.hid (vld_not2 (y := y) (m := m) hd)
      have hd : decide (1 ≤ d) = false := by simpa using hd
      clear h
      go_enter Try.func70, Try.ntmps70
      go_wp2_with fail
      go_quiet ((go_at_call 57; exact quiet_same (Hi _)))
      go_wp2
      go_ret
      exact ⟨ret_bool hv.out.symm, below_dn ((Below.refl _ _).alloc (Nat.le_refl _) _) _⟩
end Go.Proofs.Ytnofmlkjagdklaa

namespace Go.Proofs.Ytnofmlkjagdklaa
open Go.RowKit

theorem rday_out (y m d : Int) (w : World) (h : ¬ (1 ≤ y ∧ y ≤ 1000000000)) :
    Calls Try.prog 65 #[.agg #[.int .i64 y, .int .i64 m, .int .i64 d]] w fun e w' => e = .returned (.tuple #[.int .i64 0, .int .i64 1]) ∧ Below w.heap.size w w' := by
  have Hi := fun w => rin_any y w
  simp only [inY_false h] at Hi
  clear h
  go_enter Try.func65, Try.ntmps65
  go_wp2_with (go_at_call 57; refine (Hi _).mono ?_; rintro e w' ⟨rfl, rfl⟩)
  go_ret2
  exact ⟨rfl, (Below.refl _ _).alloc (Nat.le_refl _) _⟩

theorem rday_bad (y m d : Int) (w : World) (h1 : 1 ≤ y) (h2 : y ≤ 1000000000) (hv : jul.vld y m d = false) :
    Calls Try.prog 65 #[.agg #[.int .i64 y, .int .i64 m, .int .i64 d]] w fun e w' => e = .returned (.tuple #[.int .i64 0, .int .i64 2]) ∧ Below w.heap.size w w' := by
  have Hi := fun w => rin_any y w
  simp only [inY_iff.2 ⟨h1, h2⟩] at Hi
  have Hv := fun w => rvalid_any y m d w (inR_iff.2 (by omega))
  simp only [hv] at Hv
  clear hv
  go_enter Try.func65, Try.ntmps65
  go_wp2_with fail
  refine (Hi _).mono ?_
  rintro e w' ⟨rfl, rfl⟩
  go_wp2_with fail
  refine (Hv _).mono ?_
  rintro e w1 ⟨rfl, hb⟩
  go_wp2
  go_ret2
  exact ⟨rfl, below_al1 hb⟩

set_option maxHeartbeats 400000 in
theorem rday_at (y m d : Int) (w : World) (hv : jul.vld y m d = true) :
    Calls Try.prog 65 #[.agg #[.int .i64 y, .int .i64 m, .int .i64 d]] w fun e w' => e = .returned (.tuple #[.int .i64 (jul.num y m d), .int .i64 0]) ∧ Below w.heap.size w w' := by
  obtain ⟨y1, y2, d1, d2⟩ := jul.vld_iff.1 hv
  obtain ⟨m1, m2⟩ := jul.vld_month hv
  have hd31 := (dim_bd (jul.lp y) m m1 m2).2
  have Hi := fun w => rin_any y w
  simp only [inY_iff.2 ⟨y1, y2⟩] at Hi
  have Hf := fun w => rfirst_in y w y1 (by omega)
  have Hp := fun w => rleap_any y w (inR_iff.2 (by omega))
  have Hv := fun w => rvalid_any y m d w (inR_iff.2 (by omega))
  simp only [hv] at Hv
  have d31 : d ≤ 31 := by omega
  have hn : Hid (jul.num y m d = jfst y + cum (jlp y) m + d - 1) := rfl
  have hf1 : -1 ≤ jfst y := by unfold jfst; omega
  have hf2 : jfst y ≤ 366000000000 := by unfold jfst; omega
  generalize jul.num y m d = R at *
  clear hv d2 hd31
  go_enter Try.func65, Try.ntmps65
  go_wp2_with fail
  refine (Hi _).mono ?_
  rintro e w' ⟨rfl, rfl⟩
  go_wp2_with fail
  refine (Hv _).mono ?_
  rintro e w1 ⟨rfl, hb⟩
  obtain ⟨hc, hfz⟩ := bcell hb
  have Hb := Lib.hid (below_al1 hb)
  have hz : w.heap.size < w1.heap.size := by have := hb.size; simp at this; omega
  clear hb Hv
  go_wp2_with fail
  refine (Hf _).mono ?_
  rintro e w' ⟨rfl, rfl⟩
  go_wp2_with fail
  go_loop [4, 5] (fun n k => ∃ j : Int, 1 ≤ j ∧ j ≤ m ∧ k = .int .i64 j ∧ n = .int .i64 (jfst y + cum (jlp y) j)) (fun _ k => (12 - intOf k).toNat)
  case atStart => exact ⟨1, by omega, m1, rfl, by rw [cum_one]; simp⟩
  case round =>
    obtain ⟨j, j1, j2, rfl, rfl⟩ := hrel
    have cb := cum_bd (jlp y) j j1 (by omega)
    have db := dim_bd (jlp y) j j1 (by omega)
    have cs := Lib.hid (cum_succ (jlp y) j j1 (by omega))
    by_cases hlt : j < m
    · go_wp2_with (first | (go_at_call 72; refine (Hp _).mono ?_; rintro e w' ⟨rfl, rfl⟩) | (go_at_call 59; refine (rlen_any (jlp y) j _).mono ?_; rintro e w' ⟨rfl, rfl⟩))
      go_round
      case rel => exact ⟨j + 1, by omega, by omega, rfl, by rw [cs.out]; go_num⟩
      case measure => simp [intOf]; omega
    · obtain rfl : j = m := by omega
      go_wp2_with fail
      go_ret2
      exact ⟨ret_ii hn.out.symm rfl, Hb.out⟩
end Go.Proofs.Ytnofmlkjagdklaa

namespace Go.Proofs.Ytnofmlkjagdklaa
open Go.RowKit

theorem rfrom_no (n : Int) (w : World) (h : n < -1 ∨ 365249999998 < n) :
    Calls Try.prog 73 #[.int .i64 n] w fun e w' => e = .returned (.tuple #[.agg #[.int .i64 0, .int .i64 0, .int .i64 0], .int .i64 1]) ∧ Below w.heap.size w w' := by
  have e : jfst 1000000001 = 365249999999 := by decide
  have Hf := fun w => rfirst_in 1000000001 w (by omega) (by omega)
  simp only [e] at Hf
  clear e
  rcases h with h | h
  · go_enter Try.func73, Try.ntmps73
    go_wp2
    exact bodyPost_ret (v := .tuple #[.agg #[.int .i64 0, .int .i64 0, .int .i64 0], .int .i64 1]) (by simp [results, Try.results73, go_sem]) rfl ⟨rfl, (Below.refl _ _).alloc (Nat.le_refl _) _⟩
  · have h' : ¬ n < -1 := by omega
    have h2 : 365249999999 ≤ n := by omega
    clear h
    go_enter Try.func73, Try.ntmps73
    go_wp2_with (go_at_call 71; refine (Hf _).mono ?_; rintro e w' ⟨rfl, rfl⟩)
    exact bodyPost_ret (v := .tuple #[.agg #[.int .i64 0, .int .i64 0, .int .i64 0], .int .i64 1]) (by simp [results, Try.results73, go_sem]) rfl ⟨rfl, (Below.refl _ _).alloc (Nat.le_refl _) _⟩

theorem jfst_le {a b : Int} (h1 : 1 ≤ a) (h : a ≤ b) : jfst a ≤ jfst b := jul.fst_mono a b h1 h

set_option maxHeartbeats 1000000 in
theorem rfrom_at (n y m d : Int) (w : World) (hv : jul.vld y m d = true) (hn : jul.num y m d = n) :
    Calls Try.prog 73 #[.int .i64 n] w fun e w' => e = .returned (.tuple #[.agg #[.int .i64 y, .int .i64 m, .int .i64 d], .int .i64 0]) ∧ Below w.heap.size w w' := by
  have e : jfst 1000000001 = 365249999999 := by decide
  have Hf1 := fun w => rfirst_in 1000000001 w (by omega) (by omega)
  simp only [e] at Hf1
  obtain ⟨y1, y2, d1, d2⟩ := jul.vld_iff.1 hv
  obtain ⟨m1, m2⟩ := jul.vld_month hv
  have hr := jul.num_bd hv
  have hr2 := jul.num_range hv
  have n1 : -1 ≤ n := by rw [← hn]; have : jul.fst 1 = -1 := by decide
                         omega
  have n2 : n < 365249999999 := by rw [← hn]; have : jul.fst 1000000001 = 365249999999 := by decide
                                   omega
  have hd31 := (dim_bd (jul.lp y) m m1 m2).2
  have d31 : d ≤ 31 := by omega
  have hlo : jfst y ≤ n := by rw [← hn]; exact hr.1
  have hhi : n < jfst (y + 1) := by rw [← hn]; exact hr.2
  have hD : n - jfst y + 1 = cum (jlp y) m + d := by rw [← hn]; show jfst y + cum (jlp y) m + d - 1 - jfst y + 1 = _; omega
  have HD := Lib.hid hD
  have cbm := cum_bd (jlp y) m m1 (by omega)
  have d2 : d ≤ dim (jlp y) m := d2
  have Hp := fun w => rleap_any y w (inR_iff.2 (by omega))
  have Hl := fun k => rlen_any (jlp y) k
  have hmon1 : ∀ k, 1 ≤ k → k ≤ y → jfst k ≤ n := fun k k1 k2 => Int.le_trans (jfst_le k1 k2) hlo
  have hmon2 : ∀ k, y < k → n < jfst k := fun k k1 => Int.lt_of_lt_of_le hhi (jfst_le (by omega) (by omega))
  have M1 := Lib.hid hmon1
  have M2 := Lib.hid hmon2
  clear hmon1 hmon2 hv hd31 hD hn hr hr2 e hlo hhi
  go_enter Try.func73, Try.ntmps73
  go_wp2_with (go_at_call 71; refine (Hf1 _).mono ?_; rintro e w' ⟨rfl, rfl⟩)
  go_loop [4, 5] (fun l h => ∃ a b : Int, 1 ≤ a ∧ a ≤ y ∧ y ≤ b ∧ b ≤ 1000000000 ∧ l = .int .i64 a ∧ h = .int .i64 b) (fun l h => (intOf h - intOf l).toNat)
  case atStart => exact ⟨1, 1000000000, by omega, by omega, by omega, by omega, rfl, rfl⟩
  case round =>
    obtain ⟨a, b, a1, a2, b1, b2, rfl, rfl⟩ := hrel
    by_cases hlt : a < b
    · have Hf := fun w => rfirst_in ((a + b + 1) / 2) w (by omega) (by omega)
      by_cases hm : (a + b + 1) / 2 ≤ y
      · have hle := M1.out ((a + b + 1) / 2) (by omega) hm
        go_wp2_with (go_at_call 71; refine (Hf _).mono ?_; rintro e w' ⟨rfl, rfl⟩)
        go_round
        case rel => exact ⟨_, b, by omega, hm, b1, b2, rfl, rfl⟩
        case measure => simp [intOf]; omega
      · have hle := M2.out ((a + b + 1) / 2) (by omega)
        have hle : ¬ jfst ((a + b + 1) / 2) ≤ n := by omega
        go_wp2_with (go_at_call 71; refine (Hf _).mono ?_; rintro e w' ⟨rfl, rfl⟩)
        go_round
        case rel => exact ⟨a, _, a1, a2, by omega, by omega, rfl, rfl⟩
        case measure => simp [intOf]; omega
    · obtain rfl : a = y := by omega
      have Hf := fun w => rfirst_in a w (by omega) (by omega)
      have hf1 : -1 ≤ jfst a := by unfold jfst; omega
      have hf2 : jfst a ≤ 366000000000 := by unfold jfst; omega
      go_wp2_with (go_at_call 71; refine (Hf _).mono ?_; rintro e w' ⟨rfl, rfl⟩)
      clear M1 M2 Hf Hf1 hf1 hf2
      go_loopw [] (fun wr => ∃ (nq : Nat) (j : Int), 1 ≤ j ∧ j ≤ m ∧ wr = ((w.drewN nq).alloc (Obj.cells #[Value.int IntKind.i64 0, Value.int IntKind.i64 0, Value.int IntKind.i64 0] 89)).alloc (Obj.cells #[Value.int IntKind.i64 a, Value.int IntKind.i64 j, Value.int IntKind.i64 (cum (jlp a) m + d - cum (jlp a) j)] 89)) (fun wr => (12 - intOf ((wr.cell? ⟨w.heap.size + 1, 1, none⟩).getD undef)).toNat)
      case atStart => exact ⟨0, 1, by omega, m1, by rw [cum_one, HD.out]; simp [World.drewN]⟩
      case round =>
        obtain ⟨na, j, j1, j2, rfl⟩ := hrel
        have cb := cum_bd (jlp a) j j1 (by omega)
        have db := dim_bd (jlp a) j j1 (by omega)
        by_cases hlt : j < m
        · have cn := cum_next (jlp a) j m j1 hlt (by omega)
          have cs := Lib.hid (cum_succ (jlp a) j j1 (by omega))
          have ht : dim (jlp a) j < cum (jlp a) m + d - cum (jlp a) j := by omega
          go_wp2_with fail
          go_quiet ((first | (go_at_call 72; exact quiet_same (Hp _)) | (go_at_call 59; exact quiet_same (Hl _ _))))
          go_wp2_with fail
          go_region_with (first | (go_at_call 72; refine (Hp _).mono ?_; rintro e w' ⟨rfl, rfl⟩) | (go_at_call 59; refine (Hl _ _).mono ?_; rintro e w' ⟨rfl, rfl⟩))
          all_goals
            go_wp2_with fail
          all_goals
            refine ⟨⟨na + (nq + 1), j + 1, by omega, by omega, ?_⟩, ?_⟩
            · rw [cs.out]
              refine (two_set (w.drewN na) _ _ _ _ _ _ _ (nq + 1)).trans ?_
              rw [dn_dn]
              rw [show cum (jlp a) m + d - cum (jlp a) j - dim (jlp a) j = cum (jlp a) m + d - (cum (jlp a) j + dim (jlp a) j) from by omega]
            · have e1 := two_set (w.drewN na) (Obj.cells #[Value.int IntKind.i64 0, Value.int IntKind.i64 0, Value.int IntKind.i64 0] 89) 89 (.int .i64 a) (.int .i64 j) (.int .i64 (cum (jlp a) m + d - cum (jlp a) j)) (.int .i64 (j + 1)) (.int .i64 (cum (jlp a) m + d - cum (jlp a) j - dim (jlp a) j)) (nq + 1)
              rw [show (w.drewN na).heap.size = w.heap.size from rfl] at e1
              rw [e1]
              have e2 := cell_mid (w.drewN na) (Obj.cells #[Value.int IntKind.i64 0, Value.int IntKind.i64 0, Value.int IntKind.i64 0] 89) 89 (.int .i64 a) (.int .i64 j) (.int .i64 (cum (jlp a) m + d - cum (jlp a) j))
              have e3 := cell_mid ((w.drewN na).drewN (nq + 1)) (Obj.cells #[Value.int IntKind.i64 0, Value.int IntKind.i64 0, Value.int IntKind.i64 0] 89) 89 (.int .i64 a) (.int .i64 (j + 1)) (.int .i64 (cum (jlp a) m + d - cum (jlp a) j - dim (jlp a) j))
              rw [show (w.drewN na).heap.size = w.heap.size from rfl] at e2
              rw [show ((w.drewN na).drewN (nq + 1)).heap.size = w.heap.size from rfl] at e3
              rw [e2, e3]
              simp [intOf]; omega
        · obtain rfl : j = m := by omega
          have ht : ¬ dim (jlp a) j < cum (jlp a) j + d - cum (jlp a) j := by omega
          have hd : cum (jlp a) j + d - cum (jlp a) j = d := by omega
          have Hd := Lib.hid hd
          clear hd
          go_wp2_with fail
          go_quiet ((first | (go_at_call 72; exact quiet_same (Hp _)) | (go_at_call 59; exact quiet_same (Hl _ _))))
          simp only [dn_al, dn_dn]
          have Hz : w.heap.size = (w.drewN (na + nq)).heap.size := rfl
          have Hb := Lib.hid (below_dn (Below.refl w.heap.size w) (na + nq))
          generalize w.drewN (na + nq) = x at *
          rw [Hz]
          have Hz' := Lib.hid Hz
          clear Hz
          go_wp2
          refine bodyPost_ret (v := .tuple #[.agg #[.int .i64 a, .int .i64 j, .int .i64 (cum (jlp a) j + d - cum (jlp a) j)], .int .i64 0]) (by simp [results, Try.results73, go_sem]) rfl ⟨by rw [Hd.out], ?_⟩
          exact (Hb.out.alloc (by rw [Hz'.out]; exact Nat.le_refl _) _).alloc (by rw [Hz'.out]; simp) _
end Go.Proofs.Ytnofmlkjagdklaa
