/- The contract of package golden's Letters. -/
import Derived.Test.YtclnpnkjldddcaaDoorDb
import Derived.Test.YtclnpnkjldddcaaDoorCq
import Derived.Test.YtclnpnkjldddcaaDoorWb
namespace Go.Proofs.YtclnpnkjldddcaaDoor
open Go.RowKit

abbrev letv (a b e : Int) : Value := .tuple #[.int .i64 a, .int .i64 b, .int .i64 e]
theorem glbef_any (a : Int) (w : World) (h1 : 1 ≤ a) (h2 : a ≤ 7) :
    Calls Tryd.prog 35 #[.int .i64 a] w fun e w' => e = .returned (.int .i64 (1 + (a - 2) % 7)) ∧ Below w.heap.size w w' := by
  have H := fun w => grem_pos (a - 2) 7 w (inR_iff.2 (by omega)) (by decide) (by omega)
  have q1 : 0 ≤ (a - 2) % 7 := by omega
  have q2 : (a - 2) % 7 ≤ 6 := by omega
  generalize (a - 2) % 7 = q at *
  go_enter Tryd.func35, Tryd.ntmps35
  go_wp2_with fail
  refine (H _).mono ?_
  rintro e w1 ⟨rfl, hb1⟩
  go_wp2_with fail
  go_ret
  exact ⟨rfl, hb1⟩
section
variable (c y f s n k a b : Int) (w : World)
theorem gsun_ok (ht : CTab w) (H : ∀ w, CTab w → Calls Tryd.prog 45 #[.int .i64 c, dtv y 1 1] w fun e w' => e = .returned (numv f 0) ∧ Below w.heap.size w w') (H1 : ∀ w, Calls Tryd.prog 46 #[.int .i64 f, .int .i64 0] w fun e w' => e = .returned (numv s 0) ∧ Below w.heap.size w w') (s1 : f ≤ s) (s2 : s ≤ f + 6) : Calls Tryd.prog 34 #[.int .i64 c, .int .i64 y] w fun e w' => e = .returned (numv (s - f + 1) 0) ∧ Below w.heap.size w w' := by
  have S0 := Lib.hid (St.start ht)
  clear ht
  go_enter Tryd.func34, Tryd.ntmps34
  go_wp2_with fail
  refine (H _ (S0.out).t).mono ?_
  rintro e w1 ⟨rfl, hb1⟩
  have S1 := Lib.hid ((S0.out).on hb1)
  obtain ⟨hc1, hf1⟩ := bcell hb1
  clear hb1
  go_wp2_with fail
  refine (H1 _).mono ?_
  rintro e w2 ⟨rfl, hb2⟩
  have S2 := Lib.hid ((S1.out).on hb2)
  obtain ⟨hc2, hf2⟩ := bcell hb2
  clear hb2
  go_wp2_with fail
  go_ret2
  exact ⟨rfl, (S2.out).b⟩
theorem glet_err (ht : CTab w) (H : ∀ w, CTab w → Calls Tryd.prog 33 #[.int .i64 c, .int .i64 y] w fun e w' => e = .returned (numv n k) ∧ Below w.heap.size w w') (hk : (k != 0) = true) : Calls Tryd.prog 13 #[.int .i64 c, .int .i64 y] w fun e w' => e = .returned (letv 0 0 k) ∧ Below w.heap.size w w' := by
  have S0 := Lib.hid (St.start ht)
  clear ht
  go_enter Tryd.func13, Tryd.ntmps13
  go_wp2_with fail
  refine (H _ (S0.out).t).mono ?_
  rintro e w1 ⟨rfl, hb1⟩
  have S1 := Lib.hid ((S0.out).on hb1)
  obtain ⟨hc1, hf1⟩ := bcell hb1
  clear hb1
  go_wp2_with fail
  exact bodyPost_ret (v := letv 0 0 k) (by simp [results, Tryd.results13, go_sem]) rfl ⟨rfl, (S1.out).b⟩
theorem glet_leap (ht : CTab w) (H : ∀ w, CTab w → Calls Tryd.prog 33 #[.int .i64 c, .int .i64 y] w fun e w' => e = .returned (numv 366 0) ∧ Below w.heap.size w w') (H1 : ∀ w, CTab w → Calls Tryd.prog 34 #[.int .i64 c, .int .i64 y] w fun e w' => e = .returned (numv a 0) ∧ Below w.heap.size w w') (H2 : ∀ w, Calls Tryd.prog 35 #[.int .i64 a] w fun e w' => e = .returned (.int .i64 b) ∧ Below w.heap.size w w') : Calls Tryd.prog 13 #[.int .i64 c, .int .i64 y] w fun e w' => e = .returned (letv a b 0) ∧ Below w.heap.size w w' := by
  have S0 := Lib.hid (St.start ht)
  clear ht
  go_enter Tryd.func13, Tryd.ntmps13
  go_wp2_with fail
  refine (H _ (S0.out).t).mono ?_
  rintro e w1 ⟨rfl, hb1⟩
  have S1 := Lib.hid ((S0.out).on hb1)
  obtain ⟨hc1, hf1⟩ := bcell hb1
  clear hb1
  go_wp2_with fail
  refine (H1 _ (S1.out).t).mono ?_
  rintro e w2 ⟨rfl, hb2⟩
  have S2 := Lib.hid ((S1.out).on hb2)
  obtain ⟨hc2, hf2⟩ := bcell hb2
  clear hb2
  go_wp2_with fail
  refine (H2 _).mono ?_
  rintro e w3 ⟨rfl, hb3⟩
  have S3 := Lib.hid ((S2.out).on hb3)
  obtain ⟨hc3, hf3⟩ := bcell hb3
  clear hb3
  go_wp2_with fail
  exact bodyPost_ret (v := letv a b 0) (by simp [results, Tryd.results13, go_sem]) rfl ⟨rfl, (S3.out).b⟩
theorem glet_com (ht : CTab w) (H : ∀ w, CTab w → Calls Tryd.prog 33 #[.int .i64 c, .int .i64 y] w fun e w' => e = .returned (numv 365 0) ∧ Below w.heap.size w w') (H1 : ∀ w, CTab w → Calls Tryd.prog 34 #[.int .i64 c, .int .i64 y] w fun e w' => e = .returned (numv a 0) ∧ Below w.heap.size w w') : Calls Tryd.prog 13 #[.int .i64 c, .int .i64 y] w fun e w' => e = .returned (letv a a 0) ∧ Below w.heap.size w w' := by
  have S0 := Lib.hid (St.start ht)
  clear ht
  go_enter Tryd.func13, Tryd.ntmps13
  go_wp2_with fail
  refine (H _ (S0.out).t).mono ?_
  rintro e w1 ⟨rfl, hb1⟩
  have S1 := Lib.hid ((S0.out).on hb1)
  obtain ⟨hc1, hf1⟩ := bcell hb1
  clear hb1
  go_wp2_with fail
  refine (H1 _ (S1.out).t).mono ?_
  rintro e w2 ⟨rfl, hb2⟩
  have S2 := Lib.hid ((S1.out).on hb2)
  obtain ⟨hc2, hf2⟩ := bcell hb2
  clear hb2
  go_wp2_with fail
  exact bodyPost_ret (v := letv a a 0) (by simp [results, Tryd.results13, go_sem]) rfl ⟨rfl, (S2.out).b⟩
end
theorem gsun_at (c y : Int) (h : yE c y = 0) (w : World) (ht : CTab w) : Calls Tryd.prog 34 #[.int .i64 c, .int .i64 y] w fun e w' => e = .returned (numv (letA ((calOf c).fst y)) 0) ∧ Below w.heap.size w w' := by
  obtain ⟨t0, t1⟩ := yE_tE h
  have fb := tN_bd c y 1 1
  have HT := fun w ht => ctoday_any y 1 1 w c ht
  rw [t0, t1] at HT
  rw [t1] at fb
  have hk : wOk ((calOf c).fst y) 0 = true := wOk_iff.2 (by omega)
  have ab := aft_bd (n := (calOf c).fst y) (w := 0)
  have e : letA ((calOf c).fst y) = aft ((calOf c).fst y) 0 - (calOf c).fst y + 1 := by unfold letA aft; omega
  rw [e]
  exact gsun_ok c y _ _ w ht HT (fun w => aft_yes _ 0 w hk) ab.1 ab.2
theorem glet_any (c y : Int) (w : World) (ht : CTab w) : Calls Tryd.prog 13 #[.int .i64 c, .int .i64 y] w fun e w' => e = .returned (letv (lA c y) (lB c y) (yE c y)) ∧ Below w.heap.size w w' := by
  have HY := fun w ht => cylen_all c y w ht
  by_cases h : yE c y = 0
  · have HS := fun w ht => gsun_at c y h w ht
    obtain ⟨_, _, hn⟩ := yE_zero h
    have e1 : lA c y = letA ((calOf c).fst y) := by unfold lA; rw [if_pos h]
    have e2 : lB c y = letB ((calOf c).lp y) (letA ((calOf c).fst y)) := by unfold lB; rw [if_pos h]
    have hb := letA_bd ((calOf c).fst y)
    rw [h, hn] at HY
    rw [e1, e2, h]
    generalize letA ((calOf c).fst y) = a at *
    generalize (calOf c).lp y = l at *
    cases l
    · exact glet_com c y a w ht HY HS
    · exact glet_leap c y a _ w ht HY HS (fun w => glbef_any a w hb.1 hb.2)
  · have e1 : lA c y = 0 := by unfold lA; rw [if_neg h]
    have e2 : lB c y = 0 := by unfold lB; rw [if_neg h]
    rw [e1, e2]
    exact glet_err c y _ _ w ht HY (tE_ne h)
end Go.Proofs.YtclnpnkjldddcaaDoor
