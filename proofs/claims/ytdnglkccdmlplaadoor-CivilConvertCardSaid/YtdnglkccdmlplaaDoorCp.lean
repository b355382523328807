/- The contracts of package computusref05's functions, whatever the calendar and the date: the same answers as package civil's. -/
import Derived.Test.YtdnglkccdmlplaaDoorCn
namespace Go.Proofs.YtdnglkccdmlplaaDoor
open Go.RowKit

theorem okC_lo {c : Int} (h : okC c = true) : ¬ c < 1 ∧ ¬ 2 < c := by have := okC_iff.1 h; omega
theorem okC_no {c : Int} (h : okC c = false) : c < 1 ∨ (¬ c < 1 ∧ 2 < c) := by
  have h1 : ¬ (c = 1 ∨ c = 2) := fun g => by rw [okC_iff.2 g] at h; cases h
  omega
theorem fE_one {c n : Int} (hc : okC c = true) (h : ¬ (-1 ≤ n ∧ n ≤ 365249999998)) : fE c n = 1 ∧ fY c n = 0 ∧ fM c n = 0 ∧ fD c n = 0 := by
  have a : fE c n = 1 := by unfold fE; rw [if_pos hc, if_neg (fun g => h (InD_bd g))]
  exact ⟨a, fE_no (by rw [a]; omega)⟩
section
variable (c y m d : Int) (w : World) (ht : CTab w)
include ht
theorem r5oy_all : Calls Tryd.prog 16 #[.int .i64 c, dtv y m d] w fun e w' => e = .returned (numv (oN c y m d) (tE c y m d)) ∧ Below w.heap.size w w' := by
  by_cases h : tE c y m d = 0
  · obtain ⟨hc, hv, _⟩ := tE_zero h
    have hi := (calOf c).vld_iff.1 hv
    obtain ⟨m1, m2⟩ := (calOf c).vld_month hv
    have hb := dim_bd ((calOf c).lp y) m m1 m2
    have e2 : oN c y m d = cum ((calOf c).lp y) m + d := by unfold oN; rw [if_pos h]
    rw [h, e2]
    exact r5oy_ok y m d c (tN c y m d) w ((calOf c).lp y) m1 m2 hi.2.2.1 (by omega) ht (fun w ht => by have := r5day_any y m d w c ht; rw [h] at this; exact this) (fun w => r5lp_any c y w hc (inR_iff.2 (by omega)))
  · have e2 : oN c y m d = 0 := by unfold oN; rw [if_neg h]
    rw [e2]
    exact r5oy_err y m d c _ _ w ht (fun w ht => r5day_any y m d w c ht) (tE_ne h)
theorem r5yl_all : Calls Tryd.prog 20 #[.int .i64 c, .int .i64 y] w fun e w' => e = .returned (numv (yN c y) (yE c y)) ∧ Below w.heap.size w w' := by
  cases hc : okC c
  · have e1 : yE c y = 3 := by unfold yE; rw [hc]; rfl
    have e2 : yN c y = 0 := by unfold yN; rw [e1]; rfl
    rw [e1, e2]
    rcases okC_no hc with g | ⟨g, g2⟩
    · exact r5yl_no1 y c w g ht
    · exact r5yl_no2 y c w g g2 ht
  · obtain ⟨g1, g2⟩ := okC_lo hc
    cases hy : inY y
    · have e1 : yE c y = 1 := by unfold yE; rw [hc, hy]; rfl
      have e2 : yN c y = 0 := by unfold yN; rw [e1]; rfl
      rw [e1, e2]
      exact r5yl_out y c w g1 g2 (fun w => by have := rin_any y w; rw [hy] at this; exact this) ht
    · have e1 : yE c y = 0 := by unfold yE; rw [hc, hy]; rfl
      have hi := inY_iff.1 hy
      have hL := fun w => r5lp_any c y w hc (inR_iff.2 (by omega))
      cases hl : (calOf c).lp y
      · have e2 : yN c y = 365 := by unfold yN; rw [e1, hl]; rfl
        rw [e1, e2]
        exact r5yl_false y c w g1 g2 (fun w => by have := rin_any y w; rw [hy] at this; exact this) (fun w => by have := hL w; rw [hl] at this; exact this) ht
      · have e2 : yN c y = 366 := by unfold yN; rw [e1, hl]; rfl
        rw [e1, e2]
        exact r5yl_true y c w g1 g2 (fun w => by have := rin_any y w; rw [hy] at this; exact this) (fun w => by have := hL w; rw [hl] at this; exact this) ht
theorem r5sh_all (s : Int) : Calls Tryd.prog 22 #[.int .i64 c, dtv y m d, .int .i64 s] w fun e w' => e = .returned (datv (sY c y m d s) (sM c y m d s) (sD c y m d s) (sE c y m d s)) ∧ Below w.heap.size w w' := by
  by_cases h : tE c y m d = 0
  · have n1 := tN_bd c y m d
    obtain ⟨hc, _, _⟩ := tE_zero h
    have e1 : sE c y m d s = fE c (tN c y m d + s) := by unfold sE; rw [if_pos h]
    have e2 : sY c y m d s = fY c (tN c y m d + s) ∧ sM c y m d s = fM c (tN c y m d + s) ∧ sD c y m d s = fD c (tN c y m d + s) := by
      unfold sY sM sD; rw [e1]; split
      · exact ⟨rfl, rfl, rfl⟩
      · rename_i g
        obtain ⟨a, b, e⟩ := fE_no g
        exact ⟨a.symm, b.symm, e.symm⟩
    rw [e2.1, e2.2.1, e2.2.2, e1]
    have H : ∀ w, CTab w → Calls Tryd.prog 10 #[.int .i64 c, dtv y m d] w fun e w' => e = .returned (numv (tN c y m d) 0) ∧ Below w.heap.size w w' := fun w ht => by have := r5day_any y m d w c ht; rw [h] at this; exact this
    by_cases l1 : s < -1000000000000
    · obtain ⟨a, b, e, f⟩ := fE_one (n := tN c y m d + s) hc (by omega)
      rw [a, b, e, f]; exact r5sh_low y m d c _ w s ht H l1
    · by_cases l2 : 1000000000000 < s
      · obtain ⟨a, b, e, f⟩ := fE_one (n := tN c y m d + s) hc (by omega)
        rw [a, b, e, f]; exact r5sh_high y m d c _ w s ht H l1 l2
      · exact r5sh_ok y m d c (tN c y m d) w s _ _ _ _ ht H (by omega) (by omega) n1.1 n1.2 (fun w ht => r5from_any _ w c ht)
  · have e1 : sE c y m d s = tE c y m d := by unfold sE; rw [if_neg h]
    have e2 : sY c y m d s = 0 ∧ sM c y m d s = 0 ∧ sD c y m d s = 0 := by unfold sY sM sD; rw [e1, if_neg h, if_neg h, if_neg h]; exact ⟨rfl, rfl, rfl⟩
    rw [e2.1, e2.2.1, e2.2.2, e1]
    exact r5sh_err y m d c _ _ w s ht (fun w ht => r5day_any y m d w c ht) (tE_ne h)
theorem r5fy_all (s : Int) : Calls Tryd.prog 18 #[.int .i64 c, .int .i64 y, .int .i64 s] w fun e w' => e = .returned (datv (xY c y s) (xM c y s) (xD c y s) (xE c y s)) ∧ Below w.heap.size w w' := by
  by_cases h : yE c y = 0
  · obtain ⟨hc, hy, hn⟩ := yE_zero h
    have hi := inY_iff.1 hy
    have H : ∀ w, CTab w → Calls Tryd.prog 20 #[.int .i64 c, .int .i64 y] w fun e w' => e = .returned (numv (yN c y) 0) ∧ Below w.heap.size w w' := fun w ht => by have := r5yl_all c y w ht; rw [h] at this; exact this
    by_cases h1 : 1 ≤ s
    · by_cases h2 : s ≤ yN c y
      · have e0 : xE c y s = 0 := by unfold xE; rw [if_pos h, if_pos ⟨h1, h2⟩]
        obtain ⟨m, m1, m2, m3, m4⟩ := month_exists ((calOf c).lp y) (s - 1) (by omega) (by omega)
        have hv : (calOf c).vld y m (s - cum ((calOf c).lp y) m) = true := (calOf c).vld_iff.2 ⟨hi.1, hi.2, by omega, by omega⟩
        obtain ⟨_, f1, f2, f3⟩ := fE_at (n := (calOf c).fst y + s - 1) hc hv (by unfold Cal.num; omega)
        have k1 : xY c y s = y ∧ xM c y s = m ∧ xD c y s = s - cum ((calOf c).lp y) m := by
          unfold xY xM xD; rw [e0]; exact ⟨f1, f2, f3⟩
        rw [k1.1, k1.2.1, k1.2.2, e0]
        exact r5fy_ok c y s (yN c y) w ((calOf c).lp y) m _ hi.1 hi.2 m1 m2 (by omega) (by omega) h1 h2 hn (by omega) ht H (fun w => r5lp_any c y w hc (inR_iff.2 (by omega)))
      · have e0 : xE c y s = 2 := by unfold xE; rw [if_pos h, if_neg (by omega)]
        have k1 : xY c y s = 0 ∧ xM c y s = 0 ∧ xD c y s = 0 := by unfold xY xM xD; rw [e0]; exact ⟨rfl, rfl, rfl⟩
        rw [k1.1, k1.2.1, k1.2.2, e0]
        exact r5fy_high c y s _ w ht H (by omega) (by omega)
    · have e0 : xE c y s = 2 := by unfold xE; rw [if_pos h, if_neg (by omega)]
      have k1 : xY c y s = 0 ∧ xM c y s = 0 ∧ xD c y s = 0 := by unfold xY xM xD; rw [e0]; exact ⟨rfl, rfl, rfl⟩
      rw [k1.1, k1.2.1, k1.2.2, e0]
      exact r5fy_low c y s _ w ht H (by omega)
  · have e0 : xE c y s = yE c y := by unfold xE; rw [if_neg h]
    have k1 : xY c y s = 0 ∧ xM c y s = 0 ∧ xD c y s = 0 := by unfold xY xM xD; rw [e0, if_neg h, if_neg h, if_neg h]; exact ⟨rfl, rfl, rfl⟩
    rw [k1.1, k1.2.1, k1.2.2, e0]
    exact r5fy_err c y _ s _ w ht (fun w ht => r5yl_all c y w ht) (tE_ne h)
theorem r5cv_all (b : Int) : Calls Tryd.prog 14 #[dtv y m d, .int .i64 c, .int .i64 b] w fun e w' => e = .returned (datv (vY y m d c b) (vM y m d c b) (vD y m d c b) (vE y m d c b)) ∧ Below w.heap.size w w' := by
  cases hb : okC b
  · have e0 : vE y m d c b = 3 := by unfold vE; rw [hb]; rfl
    have k1 : vY y m d c b = 0 ∧ vM y m d c b = 0 ∧ vD y m d c b = 0 := by unfold vY vM vD; rw [e0]; exact ⟨rfl, rfl, rfl⟩
    rw [k1.1, k1.2.1, k1.2.2, e0]
    by_cases a1 : c < 1
    · exact r5cv_no1 y m d c w b a1 ht
    · by_cases a2 : 2 < c
      · exact r5cv_no2 y m d c w b a1 a2 ht
      · rcases okC_no hb with g | ⟨g, g2⟩
        · exact r5cv_no3 y m d c w b a1 a2 g ht
        · exact r5cv_no4 y m d c w b a1 a2 g g2 ht
  · obtain ⟨b1, b2⟩ := okC_lo hb
    cases hc : okC c
    · have t3 := (tE_no y m d hc).1
      have e0 : vE y m d c b = 3 := by unfold vE; rw [hb, t3]; rfl
      have k1 : vY y m d c b = 0 ∧ vM y m d c b = 0 ∧ vD y m d c b = 0 := by unfold vY vM vD; rw [e0]; exact ⟨rfl, rfl, rfl⟩
      rw [k1.1, k1.2.1, k1.2.2, e0]
      rcases okC_no hc with g | ⟨g, g2⟩
      · exact r5cv_no1 y m d c w b g ht
      · exact r5cv_no2 y m d c w b g g2 ht
    · obtain ⟨a1, a2⟩ := okC_lo hc
      by_cases h : tE c y m d = 0
      · have e0 : vE y m d c b = fE b (tN c y m d) := by unfold vE; rw [if_pos hb, if_pos h]
        have k1 : vY y m d c b = fY b (tN c y m d) ∧ vM y m d c b = fM b (tN c y m d) ∧ vD y m d c b = fD b (tN c y m d) := by
          unfold vY vM vD; rw [e0]; split
          · exact ⟨rfl, rfl, rfl⟩
          · rename_i g
            obtain ⟨p, q, r⟩ := fE_no g
            exact ⟨p.symm, q.symm, r.symm⟩
        rw [k1.1, k1.2.1, k1.2.2, e0]
        exact r5cv_ok y m d c (tN c y m d) w b _ _ _ _ a1 a2 b1 b2 ht (fun w ht => by have := r5day_any y m d w c ht; rw [h] at this; exact this) (fun w ht => r5from_any _ w b ht)
      · have e0 : vE y m d c b = tE c y m d := by unfold vE; rw [if_pos hb, if_neg h]
        have k1 : vY y m d c b = 0 ∧ vM y m d c b = 0 ∧ vD y m d c b = 0 := by unfold vY vM vD; rw [e0, if_neg h, if_neg h, if_neg h]; exact ⟨rfl, rfl, rfl⟩
        rw [k1.1, k1.2.1, k1.2.2, e0]
        exact r5cv_err y m d c _ _ w b a1 a2 b1 b2 ht (fun w ht => r5day_any y m d w c ht) (tE_ne h)
end
end Go.Proofs.YtdnglkccdmlplaaDoor
