/- The contract of FromDay of package gregorian. -/
import Derived.Test.YtclnpnkjldddcaaDoorGd
namespace Go.Proofs.YtclnpnkjldddcaaDoor
open Go.RowKit

theorem gfrom_no (n : Int) (w : World) (h : n < 1 ∨ 365242500000 < n) :
    Calls Tryd.prog 64 #[.int .i64 n] w fun e w' => e = .returned (.tuple #[.agg #[.int .i64 0, .int .i64 0, .int .i64 0], .int .i64 1]) ∧ Below w.heap.size w w' := by
  rcases h with h | h
  · go_enter Tryd.func64, Tryd.ntmps64
    go_wp2
    exact bodyPost_ret (v := .tuple #[.agg #[.int .i64 0, .int .i64 0, .int .i64 0], .int .i64 1]) (by simp [results, Tryd.results64, go_sem]) rfl ⟨rfl, (Below.refl _ _).alloc (Nat.le_refl _) _⟩
  · have h' : ¬ n < 1 := by omega
    go_enter Tryd.func64, Tryd.ntmps64
    go_wp2
    exact bodyPost_ret (v := .tuple #[.agg #[.int .i64 0, .int .i64 0, .int .i64 0], .int .i64 1]) (by simp [results, Tryd.results64, go_sem]) rfl ⟨rfl, (Below.refl _ _).alloc (Nat.le_refl _) _⟩

set_option maxHeartbeats 400000 in
theorem gfrom_at (n y m d : Int) (w : World) (ht : GTab w) (hv : greg.vld y m d = true) (hn : greg.num y m d = n) :
    Calls Tryd.prog 64 #[.int .i64 n] w fun e w' => e = .returned (.tuple #[.agg #[.int .i64 y, .int .i64 m, .int .i64 d], .int .i64 0]) ∧ Below w.heap.size w w' := by
  obtain ⟨y1, y2, d1, d2⟩ := greg.vld_iff.1 hv
  obtain ⟨m1, m2⟩ := greg.vld_month hv
  obtain ⟨q1, q2⟩ := greg.doy_bd hv
  have hd31 := (dim_bd (greg.lp y) m m1 m2).2
  have hr := greg.num_range hv
  have n1 : 1 ≤ n := by rw [← hn]; have : greg.fst 1 = 1 := by decide
                        omega
  have n2 : n ≤ 365242500000 := by rw [← hn]; have : greg.fst 1000000001 = 365242500001 := by decide
                                   omega
  have d31 : d ≤ 31 := by omega
  have hD : n - 1 = gfst y - 1 + (cum (glp y) m + d - 1) := by rw [← hn]; show gfst y + cum (glp y) m + d - 1 - 1 = _; omega
  have Ht := ht.al (Obj.cells #[Value.int IntKind.i64 0, Value.int IntKind.i64 0, Value.int IntKind.i64 0] 35)
  have Hs := gsplit_at y (cum (glp y) m + d - 1) _ Ht y1 y2 q1 q2 (n - 1) hD
  have cbm := cum_bd (glp y) m m1 (by omega)
  have HT := Lib.hid Ht
  have d2 : d ≤ dim (glp y) m := d2
  clear hv ht hd31 hD hn hr Ht q1 q2
  go_enter Tryd.func64, Tryd.ntmps64
  go_wp2_with fail
  refine Hs.mono ?_
  rintro e w1 ⟨rfl, hb⟩
  obtain ⟨hc, hfz⟩ := bcell hb
  have Ht1 := Lib.hid (HT.out.on hb)
  have Hb := Lib.hid (below_al1 hb)
  have Hrow := Lib.hid (row_after hb)
  have hz : w.heap.size < w1.heap.size := by have := hb.size; simp at this; omega
  clear hb Hs HT
  have Hl := fun k => glen_any y k _ Ht1.out
  go_wp2_with fail
  go_loop [5, 6] (fun r k => ∃ j : Int, 1 ≤ j ∧ j ≤ m ∧ k = .int .i64 j ∧ r = .int .i64 (cum (glp y) m + d - 1 - cum (glp y) j)) (fun _ k => (12 - intOf k).toNat)
  case atStart => exact ⟨1, by omega, m1, rfl, by rw [cum_one]; simp⟩
  case round =>
    obtain ⟨j, j1, j2, rfl, rfl⟩ := hrel
    have cb := cum_bd (glp y) j j1 (by omega)
    have db := dim_bd (glp y) j j1 (by omega)
    by_cases hlt : j < m
    · have cn := cum_next (glp y) j m j1 hlt (by omega)
      have cs := Lib.hid (cum_succ (glp y) j j1 (by omega))
      have ht : dim (glp y) j ≤ cum (glp y) m + d - 1 - cum (glp y) j := by omega
      go_wp2_with (go_at_call 72; refine (Hl _).mono ?_; rintro e w' ⟨rfl, rfl⟩)
      go_round
      case rel => exact ⟨j + 1, by omega, by omega, rfl, by rw [cs.out]; go_num⟩
      case measure => simp [intOf]; omega
    · obtain rfl : j = m := by omega
      have ht : ¬ dim (glp y) j ≤ cum (glp y) j + d - 1 - cum (glp y) j := by omega
      have hd : cum (glp y) j + d - 1 - cum (glp y) j + 1 = d := by omega
      have Hd := Lib.hid hd
      clear hd
      go_wp2_with (go_at_call 72; refine (Hl _).mono ?_; rintro e w' ⟨rfl, rfl⟩)
      generalize hu : ((w1.setCell ⟨w.heap.size, 0, none⟩ (.int .i64 y)).setCell ⟨w.heap.size, 1, none⟩ (.int .i64 j)).setCell ⟨w.heap.size, 2, none⟩ (.int .i64 (cum (glp y) j + d - 1 - cum (glp y) j + 1)) = u
      obtain ⟨k0, k1, k2⟩ := three_set _ _ _ Hrow.out hu
      have Hb2 := Lib.hid (below_set3 Hb.out (Nat.le_refl _) _ _ _ hu)
      clear hu
      refine bodyPost_ret (v := .tuple #[.agg #[.int .i64 y, .int .i64 j, .int .i64 (cum (glp y) j + d - 1 - cum (glp y) j + 1)], .int .i64 0]) (by simp [results, Tryd.results64, go_sem, k0, k1, k2]) rfl ⟨by rw [Hd.out], Hb2.out⟩
end Go.Proofs.YtclnpnkjldddcaaDoor
