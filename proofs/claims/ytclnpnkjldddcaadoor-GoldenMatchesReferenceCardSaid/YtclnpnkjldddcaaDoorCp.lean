/- The contracts of package computusref05's functions, whatever the calendar and the date: the same answers as package civil's. -/
import Derived.Test.YtclnpnkjldddcaaDoorCn
namespace Go.Proofs.YtclnpnkjldddcaaDoor
open Go.RowKit

theorem okC_lo {c : Int} (h : okC c = true) : ¬ c < 1 ∧ ¬ 2 < c := by have := okC_iff.1 h; omega
theorem okC_no {c : Int} (h : okC c = false) : c < 1 ∨ (¬ c < 1 ∧ 2 < c) := by
  have h1 : ¬ (c = 1 ∨ c = 2) := fun g => by rw [okC_iff.2 g] at h; cases h
  omega
theorem fE_one {c n : Int} (hc : okC c = true) (h : ¬ (-1 ≤ n ∧ n ≤ 365249999998)) : fE c n = 1 ∧ fY c n = 0 ∧ fM c n = 0 ∧ fD c n = 0 := by
  have a : fE c n = 1 := by unfold fE; rw [if_pos hc, if_neg (fun g => h (InD_bd g))]
  exact ⟨a, fE_no (by rw [a]; omega)⟩
section
variable (c y m d : Int) (w : World) (ht : CTab w)
include ht
theorem r5oy_all : Calls Tryd.prog 24 #[.int .i64 c, dtv y m d] w fun e w' => e = .returned (numv (oN c y m d) (tE c y m d)) ∧ Below w.heap.size w w' := by
  by_cases h : tE c y m d = 0
  · obtain ⟨hc, hv, _⟩ := tE_zero h
    have hi := (calOf c).vld_iff.1 hv
    obtain ⟨m1, m2⟩ := (calOf c).vld_month hv
    have hb := dim_bd ((calOf c).lp y) m m1 m2
    have e2 : oN c y m d = cum ((calOf c).lp y) m + d := by unfold oN; rw [if_pos h]
    rw [h, e2]
    exact r5oy_ok y m d c (tN c y m d) w ((calOf c).lp y) m1 m2 hi.2.2.1 (by omega) ht (fun w ht => by have := r5day_any y m d w c ht; rw [h] at this; exact this) (fun w => r5lp_any c y w hc (inR_iff.2 (by omega)))
  · have e2 : oN c y m d = 0 := by unfold oN; rw [if_neg h]
    rw [e2]
    exact r5oy_err y m d c _ _ w ht (fun w ht => r5day_any y m d w c ht) (tE_ne h)
end
end Go.Proofs.YtclnpnkjldddcaaDoor
