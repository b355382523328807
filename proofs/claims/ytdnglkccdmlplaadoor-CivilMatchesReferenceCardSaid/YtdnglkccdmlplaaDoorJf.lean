/- The contract of the reference's FromDay. -/
import Derived.Test.YtdnglkccdmlplaaDoorJe
namespace Go.Proofs.YtdnglkccdmlplaaDoor
open Go.RowKit

theorem rfrom_no (n : Int) (w : World) (h : n < -1 ∨ 365249999998 < n) :
    Calls Tryd.prog 31 #[.int .i64 n] w fun e w' => e = .returned (.tuple #[.agg #[.int .i64 0, .int .i64 0, .int .i64 0], .int .i64 1]) ∧ Below w.heap.size w w' := by
  have e : jfst 1000000001 = 365249999999 := by decide
  have Hf := fun w => rfirst_in 1000000001 w (by omega) (by omega)
  simp only [e] at Hf
  clear e
  rcases h with h | h
  · go_enter Tryd.func31, Tryd.ntmps31
    go_wp2
    exact bodyPost_ret (v := .tuple #[.agg #[.int .i64 0, .int .i64 0, .int .i64 0], .int .i64 1]) (by simp [results, Tryd.results31, go_sem]) rfl ⟨rfl, (Below.refl _ _).alloc (Nat.le_refl _) _⟩
  · have h' : ¬ n < -1 := by omega
    have h2 : 365249999999 ≤ n := by omega
    clear h
    go_enter Tryd.func31, Tryd.ntmps31
    go_wp2_with (go_at_call 44; refine (Hf _).mono ?_; rintro e w' ⟨rfl, rfl⟩)
    exact bodyPost_ret (v := .tuple #[.agg #[.int .i64 0, .int .i64 0, .int .i64 0], .int .i64 1]) (by simp [results, Tryd.results31, go_sem]) rfl ⟨rfl, (Below.refl _ _).alloc (Nat.le_refl _) _⟩

theorem jfst_le {a b : Int} (h1 : 1 ≤ a) (h : a ≤ b) : jfst a ≤ jfst b := jul.fst_mono a b h1 h

set_option maxHeartbeats 1000000 in
theorem rfrom_at (n y m d : Int) (w : World) (hv : jul.vld y m d = true) (hn : jul.num y m d = n) :
    Calls Tryd.prog 31 #[.int .i64 n] w fun e w' => e = .returned (.tuple #[.agg #[.int .i64 y, .int .i64 m, .int .i64 d], .int .i64 0]) ∧ Below w.heap.size w w' := by
  have e : jfst 1000000001 = 365249999999 := by decide
  have Hf1 := fun w => rfirst_in 1000000001 w (by omega) (by omega)
  simp only [e] at Hf1
  obtain ⟨y1, y2, d1, d2⟩ := jul.vld_iff.1 hv
  obtain ⟨m1, m2⟩ := jul.vld_month hv
  have hr := jul.num_bd hv
  have hr2 := jul.num_range hv
  have n1 : -1 ≤ n := by rw [← hn]; have : jul.fst 1 = -1 := by decide
                         omega
  have n2 : n < 365249999999 := by rw [← hn]; have : jul.fst 1000000001 = 365249999999 := by decide
                                   omega
  have hd31 := (dim_bd (jul.lp y) m m1 m2).2
  have d31 : d ≤ 31 := by omega
  have hlo : jfst y ≤ n := by rw [← hn]; exact hr.1
  have hhi : n < jfst (y + 1) := by rw [← hn]; exact hr.2
  have hD : n - jfst y + 1 = cum (jlp y) m + d := by rw [← hn]; show jfst y + cum (jlp y) m + d - 1 - jfst y + 1 = _; omega
  have HD := Lib.hid hD
  have cbm := cum_bd (jlp y) m m1 (by omega)
  have d2 : d ≤ dim (jlp y) m := d2
  have Hp := fun w => rleap_any y w (inR_iff.2 (by omega))
  have Hl := fun k => rlen_any (jlp y) k
  have hmon1 : ∀ k, 1 ≤ k → k ≤ y → jfst k ≤ n := fun k k1 k2 => Int.le_trans (jfst_le k1 k2) hlo
  have hmon2 : ∀ k, y < k → n < jfst k := fun k k1 => Int.lt_of_lt_of_le hhi (jfst_le (by omega) (by omega))
  have M1 := Lib.hid hmon1
  have M2 := Lib.hid hmon2
  clear hmon1 hmon2 hv hd31 hD hn hr hr2 e hlo hhi
  go_enter Tryd.func31, Tryd.ntmps31
  go_wp2_with (go_at_call 44; refine (Hf1 _).mono ?_; rintro e w' ⟨rfl, rfl⟩)
  go_loop [4, 5] (fun l h => ∃ a b : Int, 1 ≤ a ∧ a ≤ y ∧ y ≤ b ∧ b ≤ 1000000000 ∧ l = .int .i64 a ∧ h = .int .i64 b) (fun l h => (intOf h - intOf l).toNat)
  case atStart => exact ⟨1, 1000000000, by omega, by omega, by omega, by omega, rfl, rfl⟩
  case round =>
    obtain ⟨a, b, a1, a2, b1, b2, rfl, rfl⟩ := hrel
    by_cases hlt : a < b
    · have Hf := fun w => rfirst_in ((a + b + 1) / 2) w (by omega) (by omega)
      by_cases hm : (a + b + 1) / 2 ≤ y
      · have hle := M1.out ((a + b + 1) / 2) (by omega) hm
        go_wp2_with (go_at_call 44; refine (Hf _).mono ?_; rintro e w' ⟨rfl, rfl⟩)
        go_round
        case rel => exact ⟨_, b, by omega, hm, b1, b2, rfl, rfl⟩
        case measure => simp [intOf]; omega
      · have hle := M2.out ((a + b + 1) / 2) (by omega)
        have hle : ¬ jfst ((a + b + 1) / 2) ≤ n := by omega
        go_wp2_with (go_at_call 44; refine (Hf _).mono ?_; rintro e w' ⟨rfl, rfl⟩)
        go_round
        case rel => exact ⟨a, _, a1, a2, by omega, by omega, rfl, rfl⟩
        case measure => simp [intOf]; omega
    · obtain rfl : a = y := by omega
      have Hf := fun w => rfirst_in a w (by omega) (by omega)
      have hf1 : -1 ≤ jfst a := by unfold jfst; omega
      have hf2 : jfst a ≤ 366000000000 := by unfold jfst; omega
      go_wp2_with (go_at_call 44; refine (Hf _).mono ?_; rintro e w' ⟨rfl, rfl⟩)
      clear M1 M2 Hf Hf1 hf1 hf2
      go_loopw [] (fun wr => ∃ (nq : Nat) (j : Int), 1 ≤ j ∧ j ≤ m ∧ wr = ((w.drewN nq).alloc (Obj.cells #[Value.int IntKind.i64 0, Value.int IntKind.i64 0, Value.int IntKind.i64 0] 23)).alloc (Obj.cells #[Value.int IntKind.i64 a, Value.int IntKind.i64 j, Value.int IntKind.i64 (cum (jlp a) m + d - cum (jlp a) j)] 23)) (fun wr => (12 - intOf ((wr.cell? ⟨w.heap.size + 1, 1, none⟩).getD undef)).toNat)
      case atStart => exact ⟨0, 1, by omega, m1, by rw [cum_one, HD.out]; simp [World.drewN]⟩
      case round =>
        obtain ⟨na, j, j1, j2, rfl⟩ := hrel
        have cb := cum_bd (jlp a) j j1 (by omega)
        have db := dim_bd (jlp a) j j1 (by omega)
        by_cases hlt : j < m
        · have cn := cum_next (jlp a) j m j1 hlt (by omega)
          have cs := Lib.hid (cum_succ (jlp a) j j1 (by omega))
          have ht : dim (jlp a) j < cum (jlp a) m + d - cum (jlp a) j := by omega
          go_wp2_with fail
          go_quiet ((first | (go_at_call 37; exact quiet_same (Hp _)) | (go_at_call 33; exact quiet_same (Hl _ _))))
          go_wp2_with fail
          go_region_with (first | (go_at_call 37; refine (Hp _).mono ?_; rintro e w' ⟨rfl, rfl⟩) | (go_at_call 33; refine (Hl _ _).mono ?_; rintro e w' ⟨rfl, rfl⟩))
          all_goals
            go_wp2_with fail
          all_goals
            refine ⟨⟨na + (nq + 1), j + 1, by omega, by omega, ?_⟩, ?_⟩
            · rw [cs.out]
              refine (two_set (w.drewN na) _ _ _ _ _ _ _ (nq + 1)).trans ?_
              rw [dn_dn]
              rw [show cum (jlp a) m + d - cum (jlp a) j - dim (jlp a) j = cum (jlp a) m + d - (cum (jlp a) j + dim (jlp a) j) from by omega]
            · have e1 := two_set (w.drewN na) (Obj.cells #[Value.int IntKind.i64 0, Value.int IntKind.i64 0, Value.int IntKind.i64 0] 23) 23 (.int .i64 a) (.int .i64 j) (.int .i64 (cum (jlp a) m + d - cum (jlp a) j)) (.int .i64 (j + 1)) (.int .i64 (cum (jlp a) m + d - cum (jlp a) j - dim (jlp a) j)) (nq + 1)
              rw [show (w.drewN na).heap.size = w.heap.size from rfl] at e1
              rw [e1]
              have e2 := cell_mid (w.drewN na) (Obj.cells #[Value.int IntKind.i64 0, Value.int IntKind.i64 0, Value.int IntKind.i64 0] 23) 23 (.int .i64 a) (.int .i64 j) (.int .i64 (cum (jlp a) m + d - cum (jlp a) j))
              have e3 := cell_mid ((w.drewN na).drewN (nq + 1)) (Obj.cells #[Value.int IntKind.i64 0, Value.int IntKind.i64 0, Value.int IntKind.i64 0] 23) 23 (.int .i64 a) (.int .i64 (j + 1)) (.int .i64 (cum (jlp a) m + d - cum (jlp a) j - dim (jlp a) j))
              rw [show (w.drewN na).heap.size = w.heap.size from rfl] at e2
              rw [show ((w.drewN na).drewN (nq + 1)).heap.size = w.heap.size from rfl] at e3
              rw [e2, e3]
              simp [intOf]; omega
        · obtain rfl : j = m := by omega
          have ht : ¬ dim (jlp a) j < cum (jlp a) j + d - cum (jlp a) j := by omega
          have hd : cum (jlp a) j + d - cum (jlp a) j = d := by omega
          have Hd := Lib.hid hd
          clear hd
          go_wp2_with fail
          go_quiet ((first | (go_at_call 37; exact quiet_same (Hp _)) | (go_at_call 33; exact quiet_same (Hl _ _))))
          simp only [dn_al, dn_dn]
          have Hz : w.heap.size = (w.drewN (na + nq)).heap.size := rfl
          have Hb := Lib.hid (below_dn (Below.refl w.heap.size w) (na + nq))
          generalize w.drewN (na + nq) = x at *
          rw [Hz]
          have Hz' := Lib.hid Hz
          clear Hz
          go_wp2
          refine bodyPost_ret (v := .tuple #[.agg #[.int .i64 a, .int .i64 j, .int .i64 (cum (jlp a) j + d - cum (jlp a) j)], .int .i64 0]) (by simp [results, Tryd.results31, go_sem]) rfl ⟨by rw [Hd.out], ?_⟩
          exact (Hb.out.alloc (by rw [Hz'.out]; exact Nat.le_refl _) _).alloc (by rw [Hz'.out]; simp) _
end Go.Proofs.YtdnglkccdmlplaaDoor
