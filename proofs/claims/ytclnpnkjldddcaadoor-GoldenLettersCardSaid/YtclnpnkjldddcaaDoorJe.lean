/- The contract of FromDay of package julian. -/
import Derived.Test.YtclnpnkjldddcaaDoorJd
namespace Go.Proofs.YtclnpnkjldddcaaDoor
open Go.RowKit

theorem jfrom_no (n : Int) (w : World) (h : n < -1 ∨ 365249999998 < n) :
    Calls Tryd.prog 62 #[.int .i64 n] w fun e w' => e = .returned (.tuple #[.agg #[.int .i64 0, .int .i64 0, .int .i64 0], .int .i64 1]) ∧ Below w.heap.size w w' := by
  rcases h with h | h
  · go_enter Tryd.func62, Tryd.ntmps62
    go_wp2
    exact bodyPost_ret (v := .tuple #[.agg #[.int .i64 0, .int .i64 0, .int .i64 0], .int .i64 1]) (by simp [results, Tryd.results62, go_sem]) rfl ⟨rfl, (Below.refl _ _).alloc (Nat.le_refl _) _⟩
  · have h' : ¬ n < -1 := by omega
    go_enter Tryd.func62, Tryd.ntmps62
    go_wp2
    exact bodyPost_ret (v := .tuple #[.agg #[.int .i64 0, .int .i64 0, .int .i64 0], .int .i64 1]) (by simp [results, Tryd.results62, go_sem]) rfl ⟨rfl, (Below.refl _ _).alloc (Nat.le_refl _) _⟩

set_option maxHeartbeats 400000 in
theorem jfrom_at (n y m d : Int) (w : World) (ht : Tab w) (hv : jul.vld y m d = true) (hn : jul.num y m d = n) :
    Calls Tryd.prog 62 #[.int .i64 n] w fun e w' => e = .returned (.tuple #[.agg #[.int .i64 y, .int .i64 m, .int .i64 d], .int .i64 0]) ∧ Below w.heap.size w w' := by
  obtain ⟨y1, y2, d1, d2⟩ := jul.vld_iff.1 hv
  obtain ⟨m1, m2⟩ := jul.vld_month hv
  obtain ⟨q1, q2⟩ := jul.doy_bd hv
  have hd31 := (dim_bd (jul.lp y) m m1 m2).2
  have hr := jul.num_range hv
  have n1 : -1 ≤ n := by rw [← hn]; have : jul.fst 1 = -1 := by decide
                         omega
  have n2 : n ≤ 365249999998 := by rw [← hn]; have : jul.fst 1000000001 = 365249999999 := by decide
                                   omega
  have d31 : d ≤ 31 := by omega
  have hD : n + 1 = jfst y + 1 + (cum (jlp y) m + d - 1) := by rw [← hn]; show jfst y + cum (jlp y) m + d - 1 + 1 = _; omega
  have Hs := fun w => split_at y (cum (jlp y) m + d - 1) w y1 y2 q1 q2 (n + 1) hD
  have cbm := cum_bd (jlp y) m m1 (by omega)
  have Ht := ht.al (Obj.cells #[Value.int IntKind.i64 0, Value.int IntKind.i64 0, Value.int IntKind.i64 0] 35)
  have Hl := fun k => jlen_any y k _ Ht
  have d2 : d ≤ dim (jlp y) m := d2
  clear hv ht hd31 hD hn hr Ht q1 q2
  go_enter Tryd.func62, Tryd.ntmps62
  go_wp2_with fail
  refine (Hs _).mono ?_
  rintro e w' ⟨rfl, rfl⟩
  go_wp2_with fail
  go_loop [5, 6] (fun r k => ∃ j : Int, 1 ≤ j ∧ j ≤ m ∧ k = .int .i64 j ∧ r = .int .i64 (cum (jlp y) m + d - 1 - cum (jlp y) j)) (fun _ k => (12 - intOf k).toNat)
  case atStart => exact ⟨1, by omega, m1, rfl, by rw [cum_one]; simp⟩
  case round =>
    obtain ⟨j, j1, j2, rfl, rfl⟩ := hrel
    have cb := cum_bd (jlp y) j j1 (by omega)
    have db := dim_bd (jlp y) j j1 (by omega)
    by_cases hlt : j < m
    · have cn := cum_next (jlp y) j m j1 hlt (by omega)
      have cs := Lib.hid (cum_succ (jlp y) j j1 (by omega))
      have ht : dim (jlp y) j ≤ cum (jlp y) m + d - 1 - cum (jlp y) j := by omega
      go_wp2_with (go_at_call 68; refine (Hl _).mono ?_; rintro e w' ⟨rfl, rfl⟩)
      go_round
      case rel => exact ⟨j + 1, by omega, by omega, rfl, by rw [cs.out]; go_num⟩
      case measure => simp [intOf]; omega
    · obtain rfl : j = m := by omega
      have ht : ¬ dim (jlp y) j ≤ cum (jlp y) j + d - 1 - cum (jlp y) j := by omega
      have hd : cum (jlp y) j + d - 1 - cum (jlp y) j + 1 = d := by omega
      have Hd := Lib.hid hd
      clear hd
      go_wp2_with (go_at_call 68; refine (Hl _).mono ?_; rintro e w' ⟨rfl, rfl⟩)
      refine bodyPost_ret (v := .tuple #[.agg #[.int .i64 y, .int .i64 j, .int .i64 (cum (jlp y) j + d - 1 - cum (jlp y) j + 1)], .int .i64 0]) (by simp [results, Tryd.results62, go_sem]) rfl ⟨by rw [Hd.out], ?_⟩
      exact (Below.refl _ _).alloc (Nat.le_refl _) _
end Go.Proofs.YtclnpnkjldddcaaDoor
