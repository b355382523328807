/- The contracts of package civil's functions, whatever the calendar and the date. -/
import Derived.Test.YtclnpnkjldddcaaDoorCj
namespace Go.Proofs.YtclnpnkjldddcaaDoor
open Go.RowKit

/-! plain facts -/
theorem tE_first {c y m d : Int} (h : tE c y m d = 0) : tE c y 1 1 = 0 ∧ tN c y 1 1 = (calOf c).fst y ∧ tN c y m d - tN c y 1 1 + 1 = cum ((calOf c).lp y) m + d := by
  obtain ⟨hc, hv, hn⟩ := tE_zero h
  have hy := (calOf c).vld_iff.1 hv
  have hv1 : (calOf c).vld y 1 1 = true := (calOf c).vld_iff.2 ⟨hy.1, hy.2.1, by omega, by have := dim_bd ((calOf c).lp y) 1 (by omega) (by omega); omega⟩
  obtain ⟨a, b⟩ := tE_at hc hv1
  have e1 : (calOf c).num y 1 1 = (calOf c).fst y := by unfold Cal.num; rw [cum_one]; omega
  refine ⟨a, b.trans e1, ?_⟩
  rw [b, e1, hn]; unfold Cal.num; omega
theorem yE_last (c y : Int) : tE c y 12 31 = yE c y := by
  unfold tE yE; split
  · unfold dE; split
    · rename_i g
      have g := inY_iff.1 g
      have hd : dim ((calOf c).lp y) 12 = 31 := by cases (calOf c).lp y <;> rfl
      rw [if_pos ((calOf c).vld_iff.2 ⟨g.1, g.2, by omega, by omega⟩)]
    · rfl
  · rfl
theorem yN_last (c y : Int) : oN c y 12 31 = yN c y := by
  unfold oN yN; rw [yE_last]; split
  · have e2 := cum_end ((calOf c).lp y)
    have e1 := cum_succ ((calOf c).lp y) 12 (by omega) (by omega)
    have hd : dim ((calOf c).lp y) 12 = 31 := by cases (calOf c).lp y <;> rfl
    rw [show (12 : Int) + 1 = 13 from rfl] at e1; omega
  · rfl
theorem f_wrap (c n s : Int) (n1 : -1 ≤ n) (n2 : n ≤ 365249999998) (hs : inR s = true) : fE c (wrap64 (n + s)) = fE c (n + s) ∧ fY c (wrap64 (n + s)) = fY c (n + s) ∧ fM c (wrap64 (n + s)) = fM c (n + s) ∧ fD c (wrap64 (n + s)) = fD c (n + s) := by
  have hs := inR_iff.1 hs
  by_cases h : n + s ≤ 9223372036854775807 ∧ -9223372036854775808 ≤ n + s
  · rw [show wrap64 (n + s) = n + s from by unfold wrap64; omega]; exact ⟨rfl, rfl, rfl, rfl⟩
  · exact f_far (by unfold wrap64; omega) (by omega)
theorem yN_bd (c y : Int) : yN c y ≤ 366 := by
  unfold yN; have := l01_bd ((calOf c).lp y); split <;> omega
theorem yE_zero {c y : Int} (h : yE c y = 0) : okC c = true ∧ inY y = true ∧ yN c y = 365 + l01 ((calOf c).lp y) := by
  have h0 := h
  unfold yE at h; split at h
  · rename_i g
    split at h
    · rename_i g2; exact ⟨g, g2, by unfold yN; rw [if_pos h0]⟩
    · cases h
  · cases h
theorem yE_tE {c y : Int} (h : yE c y = 0) : tE c y 1 1 = 0 ∧ tN c y 1 1 = (calOf c).fst y := by
  rw [← yE_last] at h
  obtain ⟨a, b, _⟩ := tE_first h
  exact ⟨a, b⟩
theorem tE_ne {k : Int} (h : ¬ k = 0) : (k != 0) = true := by simpa using h

/-! Convert -/
section
variable (y m d a n k : Int) (w : World)
end

/-! whatever the date -/
section
variable (c y m d : Int) (w : World) (ht : CTab w)
include ht
theorem cofy_all : Calls Tryd.prog 44 #[.int .i64 c, dtv y m d] w fun e w' => e = .returned (numv (oN c y m d) (tE c y m d)) ∧ Below w.heap.size w w' := by
  by_cases h : tE c y m d = 0
  · obtain ⟨a, b, e⟩ := tE_first h
    have n1 := tN_bd c y m d
    have n2 := tN_bd c y 1 1
    have e2 : oN c y m d = tN c y m d - tN c y 1 1 + 1 := by unfold oN; rw [if_pos h, e]
    rw [h, e2]
    exact cofy_ok c y m d (tN c y m d) w (tN c y 1 1) ht (fun w ht => by have := ctoday_any y m d w c ht; rw [h] at this; exact this) (fun w ht => by have := ctoday_any y 1 1 w c ht; rw [a] at this; exact this) n1.1 n1.2 n2.1 n2.2
  · have e2 : oN c y m d = 0 := by unfold oN; rw [if_neg h]
    rw [e2]
    exact cofy_err c y m d _ _ w ht (fun w ht => ctoday_any y m d w c ht) (tE_ne h)
theorem cylen_all : Calls Tryd.prog 33 #[.int .i64 c, .int .i64 y] w fun e w' => e = .returned (numv (yN c y) (yE c y)) ∧ Below w.heap.size w w' := by
  rw [← yN_last, ← yE_last]
  exact cylen_any0 c y _ _ w ht (fun w ht => cofy_all c y 12 31 w ht)
end
end Go.Proofs.YtclnpnkjldddcaaDoor
