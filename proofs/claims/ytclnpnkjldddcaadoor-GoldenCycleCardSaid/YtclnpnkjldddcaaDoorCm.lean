/- The contracts of package computusref05's functions (all but FromYear). -/
import Derived.Test.YtclnpnkjldddcaaDoorCk
namespace Go.Proofs.YtclnpnkjldddcaaDoor
open Go.RowKit

section
variable (y m d : Int) (w : World)
theorem r5day1 (ht : CTab w) : Calls Tryd.prog 23 #[.int .i64 1, dtv y m d] w fun e w' => e = .returned (numv (dN jul y m d) (dE jul y m d)) ∧ Below w.heap.size w w' := by
  have H := fun w => rday_all y m d w
  generalize dN jul y m d = n at *
  generalize dE jul y m d = k at *
  have S0 := Lib.hid (St.start ht)
  clear ht
  go_enter Tryd.func23, Tryd.ntmps23
  go_wp2_with fail
  refine (H _).mono ?_
  rintro e w1 ⟨rfl, hb1⟩
  have S1 := Lib.hid ((S0.out.al _).on hb1)
  obtain ⟨hc1, hf1⟩ := bcell hb1
  clear hb1
  go_wp2_with fail
  go_ret2
  exact ⟨rfl, (S1.out).b⟩
theorem r5day2 (ht : CTab w) : Calls Tryd.prog 23 #[.int .i64 2, dtv y m d] w fun e w' => e = .returned (numv (dN greg y m d) (dE greg y m d)) ∧ Below w.heap.size w w' := by
  have H := fun w => sday_all y m d w
  generalize dN greg y m d = n at *
  generalize dE greg y m d = k at *
  have S0 := Lib.hid (St.start ht)
  clear ht
  go_enter Tryd.func23, Tryd.ntmps23
  go_wp2_with fail
  refine (H _).mono ?_
  rintro e w1 ⟨rfl, hb1⟩
  have S1 := Lib.hid ((S0.out.al _).on hb1)
  obtain ⟨hc1, hf1⟩ := bcell hb1
  clear hb1
  go_wp2_with fail
  go_ret2
  exact ⟨rfl, (S1.out).b⟩
theorem r5day0 (c : Int) (hc : okC c = false) (ht : CTab w) : Calls Tryd.prog 23 #[.int .i64 c, dtv y m d] w fun e w' => e = .returned (numv 0 3) ∧ Below w.heap.size w w' := by
  have h1 : (c == 1) = false := by cases g : c == 1 <;> simp_all [okC]
  have h2 : (c == 2) = false := by cases g : c == 2 <;> simp_all [okC]
  clear hc
  have S0 := Lib.hid (St.start ht)
  clear ht
  go_enter Tryd.func23, Tryd.ntmps23
  go_wp2_with fail
  go_ret2
  exact ⟨rfl, (S0.out.al _).b⟩
theorem r5day_any (c : Int) (ht : CTab w) : Calls Tryd.prog 23 #[.int .i64 c, dtv y m d] w fun e w' => e = .returned (numv (tN c y m d) (tE c y m d)) ∧ Below w.heap.size w w' := by
  by_cases h1 : c = 1
  · subst h1; exact r5day1 y m d w ht
  · by_cases h2 : c = 2
    · subst h2; exact r5day2 y m d w ht
    · have h := okC_not h1 h2
      rw [(tE_no y m d h).1, (tE_no y m d h).2]; exact r5day0 y m d w c h ht
end
section
variable (n : Int) (w : World)
end
/-! Leap -/
theorem r5lp1 (y : Int) (w : World) (hy : inR y = true) : Calls Tryd.prog 22 #[.int .i64 1, .int .i64 y] w fun e w' => e = .returned (.bool (jlp y)) ∧ w = w' := by
  have H := fun w => rleap_any y w hy
  clear hy
  go_enter Tryd.func22, Tryd.ntmps22
  go_wp2_with fail
  refine (H _).mono ?_
  rintro e w' ⟨rfl, rfl⟩
  go_wp2_with fail
  go_ret
  exact ⟨rfl, rfl⟩
theorem r5lp2 (y : Int) (w : World) (hy : inR y = true) : Calls Tryd.prog 22 #[.int .i64 2, .int .i64 y] w fun e w' => e = .returned (.bool (glp y)) ∧ w = w' := by
  have H := fun w => sleap_any y w hy
  clear hy
  go_enter Tryd.func22, Tryd.ntmps22
  go_wp2_with fail
  refine (H _).mono ?_
  rintro e w' ⟨rfl, rfl⟩
  go_wp2_with fail
  go_ret
  exact ⟨rfl, rfl⟩
theorem r5lp_any (c y : Int) (w : World) (hc : okC c = true) (hy : inR y = true) : Calls Tryd.prog 22 #[.int .i64 c, .int .i64 y] w fun e w' => e = .returned (.bool ((calOf c).lp y)) ∧ w = w' := by
  rcases okC_iff.1 hc with rfl | rfl
  · exact r5lp1 y w hy
  · exact r5lp2 y w hy

section
variable (y m d a n k : Int) (w : World)
theorem r5oy_err (ht : CTab w) (H : ∀ w, CTab w → Calls Tryd.prog 23 #[.int .i64 a, dtv y m d] w fun e w' => e = .returned (numv n k) ∧ Below w.heap.size w w') (hk : (k != 0) = true) : Calls Tryd.prog 24 #[.int .i64 a, dtv y m d] w fun e w' => e = .returned (numv 0 k) ∧ Below w.heap.size w w' := by
  have S0 := Lib.hid (St.start ht)
  clear ht
  go_enter Tryd.func24, Tryd.ntmps24
  go_wp2_with fail
  refine (H _ (S0.out.al _).t).mono ?_
  rintro e w1 ⟨rfl, hb1⟩
  have S1 := Lib.hid ((S0.out.al _).on hb1)
  obtain ⟨hc1, hf1⟩ := bcell hb1
  clear hb1
  go_wp2_with fail
  go_ret2
  exact ⟨rfl, (S1.out).b⟩
theorem r5oy_ok (l : Bool) (m1 : 1 ≤ m) (m2 : m ≤ 12) (d1 : 1 ≤ d) (d2 : d ≤ 31) (ht : CTab w) (H : ∀ w, CTab w → Calls Tryd.prog 23 #[.int .i64 a, dtv y m d] w fun e w' => e = .returned (numv n 0) ∧ Below w.heap.size w w') (Hl : ∀ w, Calls Tryd.prog 22 #[.int .i64 a, .int .i64 y] w fun e w' => e = .returned (.bool l) ∧ w = w') : Calls Tryd.prog 24 #[.int .i64 a, dtv y m d] w fun e w' => e = .returned (numv (cum l m + d) 0) ∧ Below w.heap.size w w' := by
  have S0 := Lib.hid (St.start ht)
  clear ht
  go_enter Tryd.func24, Tryd.ntmps24
  go_wp2_with fail
  refine (H _ (S0.out.al _).t).mono ?_
  rintro e w1 ⟨rfl, hb1⟩
  have S1 := Lib.hid ((S0.out.al _).on hb1)
  obtain ⟨hc1, hf1⟩ := bcell hb1
  have hz1_0 : w.heap.size < w1.heap.size := by have := hb1.size; (try simp at this); omega
  clear hb1
  go_wp2_with fail
  go_loop [8, 9] (fun v k => ∃ j : Int, 1 ≤ j ∧ j ≤ m ∧ k = .int .i64 j ∧ v = .int .i64 (cum l j + d)) (fun _ k => (12 - intOf k).toNat)
  case atStart => exact ⟨1, by omega, m1, rfl, by rw [cum_one]; simp⟩
  case round =>
    obtain ⟨j, j1, j2, rfl, rfl⟩ := hrel
    have cb := cum_bd l j j1 (by omega)
    have db := dim_bd l j j1 (by omega)
    have cs := Lib.hid (cum_succ l j j1 (by omega))
    by_cases hlt : j < m
    · go_wp2_with (first | (go_at_call 22; refine (Hl _).mono ?_; rintro e w' ⟨rfl, rfl⟩) | (go_at_call 40; refine (rlen_any l j _).mono ?_; rintro e w' ⟨rfl, rfl⟩))
      go_round
      case rel => exact ⟨j + 1, by omega, by omega, rfl, by rw [cs.out]; go_num⟩
      case measure => simp [intOf]; omega
    · obtain rfl : j = m := by omega
      go_wp2_with fail
      go_ret2
      exact ⟨rfl, S1.out.b⟩
end
end Go.Proofs.YtclnpnkjldddcaaDoor
