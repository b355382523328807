/- The contracts of ToDay of package gregorian and of its reference. -/
import Derived.Test.YtclnpnkjldddcaaDoorGc
namespace Go.Proofs.YtclnpnkjldddcaaDoor
open Go.RowKit

theorem gday_out (y m d : Int) (w : World) (h : ¬ (1 ≤ y ∧ y ≤ 1000000000)) :
    Calls Tryd.prog 63 #[.agg #[.int .i64 y, .int .i64 m, .int .i64 d]] w fun e w' => e = .returned (.tuple #[.int .i64 0, .int .i64 1]) ∧ Below w.heap.size w w' := by
  have Hf := fun w => gfirst_out y w h
  clear h
  go_enter Tryd.func63, Tryd.ntmps63
  go_wp2_with (go_at_call 70; refine (Hf _).mono ?_; rintro e w' ⟨rfl, rfl⟩)
  go_ret2
  exact ⟨rfl, (Below.refl _ _).alloc (Nat.le_refl _) _⟩

theorem gday_bad (y m d : Int) (w : World) (ht : GTab w) (h1 : 1 ≤ y) (h2 : y ≤ 1000000000) (hv : greg.vld y m d = false) :
    Calls Tryd.prog 63 #[.agg #[.int .i64 y, .int .i64 m, .int .i64 d]] w fun e w' => e = .returned (.tuple #[.int .i64 0, .int .i64 2]) ∧ Below w.heap.size w w' := by
  have Hf := fun w => gfirst_in y w h1 h2
  have Hv := gvalid_any y m d _ (ht.al (Obj.cells #[Value.int IntKind.i64 y, Value.int IntKind.i64 m, Value.int IntKind.i64 d] 35))
  simp only [hv] at Hv
  clear hv ht
  go_enter Tryd.func63, Tryd.ntmps63
  go_wp2_with fail
  refine (Hf _).mono ?_
  rintro e w' ⟨rfl, rfl⟩
  go_wp2_with fail
  refine Hv.mono ?_
  rintro e w1 ⟨rfl, hb⟩
  go_wp2
  go_ret2
  exact ⟨rfl, below_al1 hb⟩

set_option maxHeartbeats 400000 in
theorem gday_at (y m d : Int) (w : World) (ht : GTab w) (hv : greg.vld y m d = true) :
    Calls Tryd.prog 63 #[.agg #[.int .i64 y, .int .i64 m, .int .i64 d]] w fun e w' => e = .returned (.tuple #[.int .i64 (greg.num y m d), .int .i64 0]) ∧ Below w.heap.size w w' := by
  obtain ⟨y1, y2, d1, d2⟩ := greg.vld_iff.1 hv
  obtain ⟨m1, m2⟩ := greg.vld_month hv
  have hd31 := (dim_bd (greg.lp y) m m1 m2).2
  have Hf := fun w => gfirst_in y w y1 y2
  have Hv := gvalid_any y m d _ (ht.al (Obj.cells #[Value.int IntKind.i64 y, Value.int IntKind.i64 m, Value.int IntKind.i64 d] 35))
  simp only [hv] at Hv
  have Ht := Lib.hid (ht.al (Obj.cells #[Value.int IntKind.i64 y, Value.int IntKind.i64 m, Value.int IntKind.i64 d] 35))
  have d31 : d ≤ 31 := by omega
  have hn : Hid (greg.num y m d = gfst y + cum (glp y) m + d - 1) := rfl
  have hf1 : 1 ≤ gfst y := by unfold gfst; omega
  have hf2 : gfst y ≤ 366000000000 := by unfold gfst; omega
  generalize greg.num y m d = R at *
  clear hv ht d2 hd31
  go_enter Tryd.func63, Tryd.ntmps63
  go_wp2_with fail
  refine (Hf _).mono ?_
  rintro e w' ⟨rfl, rfl⟩
  go_wp2_with fail
  refine Hv.mono ?_
  rintro e w1 ⟨rfl, hb⟩
  obtain ⟨hc, hfz⟩ := bcell hb
  have Ht1 := Lib.hid (Ht.out.on hb)
  have Hb := Lib.hid (below_al1 hb)
  have hz : w.heap.size < w1.heap.size := by have := hb.size; simp at this; omega
  clear hb Hv Hf Ht
  go_wp2_with fail
  go_loop [4, 6] (fun n k => ∃ j : Int, 1 ≤ j ∧ j ≤ m ∧ k = .int .i64 j ∧ n = .int .i64 (gfst y + cum (glp y) j)) (fun _ k => (12 - intOf k).toNat)
  case atStart => exact ⟨1, by omega, m1, rfl, by rw [cum_one]; simp⟩
  case round =>
    obtain ⟨j, j1, j2, rfl, rfl⟩ := hrel
    have cb := cum_bd (glp y) j j1 (by omega)
    have db := dim_bd (glp y) j j1 (by omega)
    have cs := Lib.hid (cum_succ (glp y) j j1 (by omega))
    by_cases hlt : j < m
    · go_wp2_with (go_at_call 72; refine (glen_any y j _ Ht1.out).mono ?_; rintro e w' ⟨rfl, rfl⟩)
      go_round
      case rel => exact ⟨j + 1, by omega, by omega, rfl, by rw [cs.out]; go_num⟩
      case measure => simp [intOf]; omega
    · obtain rfl : j = m := by omega
      go_wp2_with fail
      go_ret2
      exact ⟨ret_ii hn.out.symm rfl, Hb.out⟩

theorem sday_out (y m d : Int) (w : World) (h : ¬ (1 ≤ y ∧ y ≤ 1000000000)) :
    Calls Tryd.prog 39 #[.agg #[.int .i64 y, .int .i64 m, .int .i64 d]] w fun e w' => e = .returned (.tuple #[.int .i64 0, .int .i64 1]) ∧ Below w.heap.size w w' := by
  have Hi := fun w => rin_any y w
  simp only [inY_false h] at Hi
  clear h
  go_enter Tryd.func39, Tryd.ntmps39
  go_wp2_with (go_at_call 15; refine (Hi _).mono ?_; rintro e w' ⟨rfl, rfl⟩)
  go_ret2
  exact ⟨rfl, (Below.refl _ _).alloc (Nat.le_refl _) _⟩

theorem sday_bad (y m d : Int) (w : World) (h1 : 1 ≤ y) (h2 : y ≤ 1000000000) (hv : greg.vld y m d = false) :
    Calls Tryd.prog 39 #[.agg #[.int .i64 y, .int .i64 m, .int .i64 d]] w fun e w' => e = .returned (.tuple #[.int .i64 0, .int .i64 2]) ∧ Below w.heap.size w w' := by
  have Hi := fun w => rin_any y w
  simp only [inY_iff.2 ⟨h1, h2⟩] at Hi
  have Hv := fun w => svalid_any y m d w (inR_iff.2 (by omega))
  simp only [hv] at Hv
  clear hv
  go_enter Tryd.func39, Tryd.ntmps39
  go_wp2_with fail
  refine (Hi _).mono ?_
  rintro e w' ⟨rfl, rfl⟩
  go_wp2_with fail
  refine (Hv _).mono ?_
  rintro e w1 ⟨rfl, hb⟩
  go_wp2
  go_ret2
  exact ⟨rfl, below_al1 hb⟩

set_option maxHeartbeats 400000 in
theorem sday_at (y m d : Int) (w : World) (hv : greg.vld y m d = true) :
    Calls Tryd.prog 39 #[.agg #[.int .i64 y, .int .i64 m, .int .i64 d]] w fun e w' => e = .returned (.tuple #[.int .i64 (greg.num y m d), .int .i64 0]) ∧ Below w.heap.size w w' := by
  obtain ⟨y1, y2, d1, d2⟩ := greg.vld_iff.1 hv
  obtain ⟨m1, m2⟩ := greg.vld_month hv
  have hd31 := (dim_bd (greg.lp y) m m1 m2).2
  have Hi := fun w => rin_any y w
  simp only [inY_iff.2 ⟨y1, y2⟩] at Hi
  have Hf := fun w => sfirst_in y w y1 (by omega)
  have Hp := fun w => sleap_any y w (inR_iff.2 (by omega))
  have Hv := fun w => svalid_any y m d w (inR_iff.2 (by omega))
  simp only [hv] at Hv
  have d31 : d ≤ 31 := by omega
  have hn : Hid (greg.num y m d = gfst y + cum (glp y) m + d - 1) := rfl
  have hf1 : 1 ≤ gfst y := by unfold gfst; omega
  have hf2 : gfst y ≤ 366000000000 := by unfold gfst; omega
  generalize greg.num y m d = R at *
  clear hv d2 hd31
  go_enter Tryd.func39, Tryd.ntmps39
  go_wp2_with fail
  refine (Hi _).mono ?_
  rintro e w' ⟨rfl, rfl⟩
  go_wp2_with fail
  refine (Hv _).mono ?_
  rintro e w1 ⟨rfl, hb⟩
  obtain ⟨hc, hfz⟩ := bcell hb
  have Hb := Lib.hid (below_al1 hb)
  have hz : w.heap.size < w1.heap.size := by have := hb.size; simp at this; omega
  clear hb Hv
  go_wp2_with fail
  refine (Hf _).mono ?_
  rintro e w' ⟨rfl, rfl⟩
  go_wp2_with fail
  go_loop [4, 5] (fun n k => ∃ j : Int, 1 ≤ j ∧ j ≤ m ∧ k = .int .i64 j ∧ n = .int .i64 (gfst y + cum (glp y) j)) (fun _ k => (12 - intOf k).toNat)
  case atStart => exact ⟨1, by omega, m1, rfl, by rw [cum_one]; simp⟩
  case round =>
    obtain ⟨j, j1, j2, rfl, rfl⟩ := hrel
    have cb := cum_bd (glp y) j j1 (by omega)
    have db := dim_bd (glp y) j j1 (by omega)
    have cs := Lib.hid (cum_succ (glp y) j j1 (by omega))
    by_cases hlt : j < m
    · go_wp2_with (first | (go_at_call 37; refine (Hp _).mono ?_; rintro e w' ⟨rfl, rfl⟩) | (go_at_call 40; refine (rlen_any (glp y) j _).mono ?_; rintro e w' ⟨rfl, rfl⟩))
      go_round
      case rel => exact ⟨j + 1, by omega, by omega, rfl, by rw [cs.out]; go_num⟩
      case measure => simp [intOf]; omega
    · obtain rfl : j = m := by omega
      go_wp2_with fail
      go_ret2
      exact ⟨ret_ii hn.out.symm rfl, Hb.out⟩
end Go.Proofs.YtclnpnkjldddcaaDoor
