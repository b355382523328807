/- What earlier stages proved: Oa Ob Oc. -/
import Derived.Test.YtnfeihbkemgecaaGreatDoorKs
namespace Go.Proofs.YtnfeihbkemgecaaGreatDoor

theorem epE_one (y : Int) : epE 1 y = if inY y = true then 0 else 1 := rfl
theorem epE_two (y : Int) : epE 2 y = if inG y = true then 0 else 1 := rfl
theorem epE_two_one {y : Int} (h : epE 2 y = 0) : epE 1 y = 0 := by
  have := inG_iff.1 (epE_zero h).2
  rw [epE_one, if_pos (inY_iff.2 (by omega))]

def oxE (y : Int) : Int := if epE 1 y = 0 then fE 2 (eaN 1 y) else epE 1 y
noncomputable def oxY (y : Int) : Int := if epE 1 y = 0 then fY 2 (eaN 1 y) else 0
noncomputable def oxM (y : Int) : Int := if epE 1 y = 0 then fM 2 (eaN 1 y) else 0
noncomputable def oxD (y : Int) : Int := if epE 1 y = 0 then fD 2 (eaN 1 y) else 0
theorem ox_in {y : Int} (h : epE 1 y = 0) : oxE y = fE 2 (eaN 1 y) ∧ oxY y = fY 2 (eaN 1 y) ∧ oxM y = fM 2 (eaN 1 y) ∧ oxD y = fD 2 (eaN 1 y) := by
  unfold oxE oxY oxM oxD; rw [if_pos h, if_pos h, if_pos h, if_pos h]; exact ⟨rfl, rfl, rfl, rfl⟩
theorem ox_out {y : Int} (h : epE 1 y ≠ 0) : oxE y = epE 1 y ∧ oxY y = 0 ∧ oxM y = 0 ∧ oxD y = 0 := by
  unfold oxE oxY oxM oxD; rw [if_neg h, if_neg h, if_neg h, if_neg h]; exact ⟨rfl, rfl, rfl, rfl⟩
theorem ox_at {y a m d : Int} (h : epE 1 y = 0) (hv : greg.vld a m d = true) (hn : greg.num a m d = eaN 1 y) : oxE y = 0 ∧ oxY y = a ∧ oxM y = m ∧ oxD y = d := by
  obtain ⟨e1, e2, e3, e4⟩ := ox_in h
  rw [e1, e2, e3, e4]
  exact fE_at (c := 2) rfl hv hn
def ogN (y : Int) : Int := if epE 2 y = 0 then eaN 1 y - eaN 2 y else 0
theorem og_ok {y : Int} (h : epE 2 y = 0) : ogN y = eaN 1 y - eaN 2 y := by unfold ogN; rw [if_pos h]
theorem og_no {y : Int} (h : epE 2 y ≠ 0) : ogN y = 0 := by unfold ogN; rw [if_neg h]
def odN (y m d : Int) : Int := if tE 2 y m d = 0 then tN 1 y m d - tN 2 y m d else 0
theorem od_ok {y m d : Int} (h : tE 2 y m d = 0) : odN y m d = tN 1 y m d - tN 2 y m d := by unfold odN; rw [if_pos h]
theorem od_no {y m d : Int} (h : tE 2 y m d ≠ 0) : odN y m d = 0 := by unfold odN; rw [if_neg h]
theorem glp_jlp {y : Int} (h : glp y = true) : jlp y = true := by
  unfold glp at h; unfold jlp
  simp only [Bool.or_eq_true, Bool.and_eq_true, decide_eq_true_eq, Bool.not_eq_true', decide_eq_false_iff_not] at *
  omega
theorem dim_le13 (m : Int) {a b : Bool} (h : a = true → b = true) : dim a m ≤ dim b m := by
  cases a with
  | true => rw [h rfl]; omega
  | false =>
    have := l01_bd b
    have e : l01 false = 0 := rfl
    unfold dim
    repeat' split
    all_goals omega
theorem greg_jul {y m d : Int} (h : greg.vld y m d = true) : jul.vld y m d = true := by
  rw [Cal.vld_iff] at *
  have : dim (greg.lp y) m ≤ dim (jul.lp y) m := dim_le13 m (fun e => glp_jlp e)
  omega
/-- A date of the Gregorian calendar is one of the Julian calendar; where the Julian calendar has an error, the Gregorian one has the same. -/
theorem od_jul {y m d : Int} (h : tE 2 y m d = 0) : tE 1 y m d = 0 := (tE_at (c := 1) rfl (greg_jul (tE_zero h).2.1)).1
theorem od_err {y m d : Int} (h : tE 1 y m d ≠ 0) : tE 2 y m d = tE 1 y m d := by
  have g : greg.vld y m d = false := by
    cases e : greg.vld y m d with
    | false => rfl
    | true => exact absurd (tE_at (c := 1) rfl (greg_jul e)).1 h
  have j : jul.vld y m d = false := by
    cases e : jul.vld y m d with
    | false => rfl
    | true => exact absurd (tE_at (c := 1) rfl e).1 h
  show dE greg y m d = dE jul y m d
  unfold dE; rw [g, j]
end Go.Proofs.YtnfeihbkemgecaaGreatDoor

namespace Go.Proofs.YtnfeihbkemgecaaGreatDoor
open Go.RowKit

section
variable (y m d : Int) (w : World)
theorem o_orth (n k : Int) (H : ∀ w, PT w → Calls Tryz.prog 25 #[.int .i64 1, .int .i64 y] w fun e w' => e = .returned (numv n k) ∧ Below w.heap.size w w') (ht : PT w) : Calls Tryz.prog 13 #[.int .i64 y] w fun e w' => e = .returned (numv n k) ∧ Below w.heap.size w w' := by
  have S0 := Lib.hid (PSt.start ht)
  clear ht
  go_enter Tryz.func13, Tryz.ntmps13
  go_wp2_with fail
  refine (H _ S0.out.t).mono ?_
  rintro e w1 ⟨rfl, hb1⟩
  have S1 := Lib.hid (S0.out.on hb1)
  clear hb1
  go_wp2_with fail
  go_ret2
  exact ⟨rfl, S1.out.b⟩
theorem o_west (n k : Int) (H : ∀ w, PT w → Calls Tryz.prog 25 #[.int .i64 2, .int .i64 y] w fun e w' => e = .returned (numv n k) ∧ Below w.heap.size w w') (ht : PT w) : Calls Tryz.prog 24 #[.int .i64 y] w fun e w' => e = .returned (numv n k) ∧ Below w.heap.size w w' := by
  have S0 := Lib.hid (PSt.start ht)
  clear ht
  go_enter Tryz.func24, Tryz.ntmps24
  go_wp2_with fail
  refine (H _ S0.out.t).mono ?_
  rintro e w1 ⟨rfl, hb1⟩
  have S1 := Lib.hid (S0.out.on hb1)
  clear hb1
  go_wp2_with fail
  go_ret2
  exact ⟨rfl, S1.out.b⟩
theorem o_jday (n k : Int) (H : ∀ w, PT w → Calls Tryz.prog 35 #[.int .i64 1, dtv y m d] w fun e w' => e = .returned (numv n k) ∧ Below w.heap.size w w') (ht : PT w) : Calls Tryz.prog 20 #[dtv y m d] w fun e w' => e = .returned (numv n k) ∧ Below w.heap.size w w' := by
  have S0 := Lib.hid (PSt.start ht)
  clear ht
  go_enter Tryz.func20, Tryz.ntmps20
  go_wp2_with fail
  refine (H _ (S0.out.al _).t).mono ?_
  rintro e w1 ⟨rfl, hb1⟩
  have S1 := Lib.hid ((S0.out.al _).on hb1)
  have R1 := Lib.hid (row_on (heap_alloc_new _ _) hb1)
  obtain ⟨c0, c1, c2, g0, g1, g2, z⟩ := row3 R1.out
  clear hb1
  go_wp2_with fail
  go_ret2
  exact ⟨rfl, S1.out.b⟩
theorem o_gday (n k : Int) (H : ∀ w, PT w → Calls Tryz.prog 35 #[.int .i64 2, dtv y m d] w fun e w' => e = .returned (numv n k) ∧ Below w.heap.size w w') (ht : PT w) : Calls Tryz.prog 19 #[dtv y m d] w fun e w' => e = .returned (numv n k) ∧ Below w.heap.size w w' := by
  have S0 := Lib.hid (PSt.start ht)
  clear ht
  go_enter Tryz.func19, Tryz.ntmps19
  go_wp2_with fail
  refine (H _ (S0.out.al _).t).mono ?_
  rintro e w1 ⟨rfl, hb1⟩
  have S1 := Lib.hid ((S0.out.al _).on hb1)
  have R1 := Lib.hid (row_on (heap_alloc_new _ _) hb1)
  obtain ⟨c0, c1, c2, g0, g1, g2, z⟩ := row3 R1.out
  clear hb1
  go_wp2_with fail
  go_ret2
  exact ⟨rfl, S1.out.b⟩
theorem o_greg (n a b c k : Int) (H : ∀ w, PT w → Calls Tryz.prog 26 #[.int .i64 2, .int .i64 n] w fun e w' => e = .returned (datv a b c k) ∧ Below w.heap.size w w') (ht : PT w) : Calls Tryz.prog 14 #[.int .i64 n] w fun e w' => e = .returned (datv a b c k) ∧ Below w.heap.size w w' := by
  have S0 := Lib.hid (PSt.start ht)
  clear ht
  go_enter Tryz.func14, Tryz.ntmps14
  go_wp2_with fail
  refine (H _ (S0.out.al _).t).mono ?_
  rintro e w1 ⟨rfl, hb1⟩
  have S1 := Lib.hid ((S0.out.al _).on hb1)
  have R1 := Lib.hid (row_on (b := w.heap.size) (o := zdate) (heap_alloc_new _ _) hb1)
  obtain ⟨hc1, hf1⟩ := bcell hb1
  have hz1 : w.heap.size < w1.heap.size := World.block_lt_of_cell? _ ⟨w.heap.size, 0, none⟩ (row3 R1.out).1
  clear hb1
  go_wp2_with fail
  generalize hu : (((w1.setCell ⟨w.heap.size, 0, none⟩ (.int .i64 a)).setCell ⟨w.heap.size, 1, none⟩ (.int .i64 b)).setCell ⟨w.heap.size, 2, none⟩ (.int .i64 c)) = u
  obtain ⟨k0, k1, k2⟩ := three_set _ _ _ R1.out hu
  have Hb := Lib.hid (below_set3 S1.out.b (Nat.le_refl _) _ _ _ hu)
  clear hu
  exact bodyPost_ret (v := datv (a) (b) (c) (k)) (by simp [results, Tryz.results14, go_sem, k0, k1, k2]) rfl ⟨rfl, Hb.out⟩
theorem o_to (n p : Int) (n1 : -1 ≤ n) (n2 : n ≤ 365250000100) (p1 : -1 ≤ p) (p2 : p ≤ 365250000100) : Calls Tryz.prog 34 #[.int .i64 n, .int .i64 p] w fun e w' => e = .returned (numv (p - n) 0) ∧ w = w' := by
  go_enter Tryz.func34, Tryz.ntmps34
  go_wp2_with fail
  go_ret2
  exact ⟨rfl, rfl⟩
theorem o_cd_err (n k : Int) (H : ∀ w, PT w → Calls Tryz.prog 13 #[.int .i64 y] w fun e w' => e = .returned (numv n k) ∧ Below w.heap.size w w') (hk : (k != 0) = true) (ht : PT w) : Calls Tryz.prog 12 #[.int .i64 y, .func (.func 13) #[] #[], .func (.func 14) #[] #[]] w fun e w' => e = .returned (datv 0 0 0 k) ∧ Below w.heap.size w w' := by
  have S0 := Lib.hid (PSt.start ht)
  clear ht
  go_enter Tryz.func12, Tryz.ntmps12
  go_wp2_with fail
  refine (H _ (S0.out.al _).t).mono ?_
  rintro e w1 ⟨rfl, hb1⟩
  have S1 := Lib.hid ((S0.out.al _).on hb1)
  have R1 := Lib.hid (row_on (b := w.heap.size) (o := zdate) (heap_alloc_new _ _) hb1)
  obtain ⟨hc1, hf1⟩ := bcell hb1
  have hz1 : w.heap.size < w1.heap.size := World.block_lt_of_cell? _ ⟨w.heap.size, 0, none⟩ (row3 R1.out).1
  clear hb1
  go_wp2_with fail
  generalize hu : (((w1.setCell ⟨w.heap.size, 0, none⟩ (.int .i64 0)).setCell ⟨w.heap.size, 1, none⟩ (.int .i64 0)).setCell ⟨w.heap.size, 2, none⟩ (.int .i64 0)).alloc zdate = u
  obtain ⟨k0, k1, k2, kb⟩ := three_al _ _ _ R1.out hu
  have Hb := Lib.hid (kb _ S1.out.b (Nat.le_refl _))
  clear hu
  exact bodyPost_ret (v := datv (0) (0) (0) (k)) (by simp [results, Tryz.results12, go_sem, k0, k1, k2]) rfl ⟨rfl, Hb.out⟩
theorem o_cd_ok (n a b c k : Int) (H : ∀ w, PT w → Calls Tryz.prog 13 #[.int .i64 y] w fun e w' => e = .returned (numv n 0) ∧ Below w.heap.size w w') (H1 : ∀ w, PT w → Calls Tryz.prog 14 #[.int .i64 n] w fun e w' => e = .returned (datv a b c k) ∧ Below w.heap.size w w') (ht : PT w) : Calls Tryz.prog 12 #[.int .i64 y, .func (.func 13) #[] #[], .func (.func 14) #[] #[]] w fun e w' => e = .returned (datv a b c k) ∧ Below w.heap.size w w' := by
  have S0 := Lib.hid (PSt.start ht)
  clear ht
  go_enter Tryz.func12, Tryz.ntmps12
  go_wp2_with fail
  refine (H _ (S0.out.al _).t).mono ?_
  rintro e w1 ⟨rfl, hb1⟩
  have S1 := Lib.hid ((S0.out.al _).on hb1)
  have R1 := Lib.hid (row_on (b := w.heap.size) (o := zdate) (heap_alloc_new _ _) hb1)
  obtain ⟨hc1, hf1⟩ := bcell hb1
  have hz1 : w.heap.size < w1.heap.size := World.block_lt_of_cell? _ ⟨w.heap.size, 0, none⟩ (row3 R1.out).1
  clear hb1
  go_wp2_with fail
  refine (H1 _ S1.out.t).mono ?_
  rintro e w2 ⟨rfl, hb2⟩
  have S2 := Lib.hid (S1.out.on hb2)
  have R2 := Lib.hid (row_on R1.out hb2)
  obtain ⟨hc2, hf2⟩ := bcell hb2
  have hz2 : w.heap.size < w2.heap.size := World.block_lt_of_cell? _ ⟨w.heap.size, 0, none⟩ (row3 R2.out).1
  clear hb2
  go_wp2_with fail
  generalize hu : (((w2.setCell ⟨w.heap.size, 0, none⟩ (.int .i64 a)).setCell ⟨w.heap.size, 1, none⟩ (.int .i64 b)).setCell ⟨w.heap.size, 2, none⟩ (.int .i64 c)) = u
  obtain ⟨k0, k1, k2⟩ := three_set _ _ _ R2.out hu
  have Hb := Lib.hid (below_set3 S2.out.b (Nat.le_refl _) _ _ _ hu)
  clear hu
  exact bodyPost_ret (v := datv (a) (b) (c) (k)) (by simp [results, Tryz.results12, go_sem, k0, k1, k2]) rfl ⟨rfl, Hb.out⟩
theorem o_date (a b c k : Int) (H : ∀ w, PT w → Calls Tryz.prog 12 #[.int .i64 y, .func (.func 13) #[] #[], .func (.func 14) #[] #[]] w fun e w' => e = .returned (datv a b c k) ∧ Below w.heap.size w w') (ht : PT w) : Calls Tryz.prog 5 #[.int .i64 y] w fun e w' => e = .returned (datv a b c k) ∧ Below w.heap.size w w' := by
  have S0 := Lib.hid (PSt.start ht)
  clear ht
  go_enter Tryz.func5, Tryz.ntmps5
  go_wp2_with fail
  refine (H _ (S0.out.al _).t).mono ?_
  rintro e w1 ⟨rfl, hb1⟩
  have S1 := Lib.hid ((S0.out.al _).on hb1)
  have R1 := Lib.hid (row_on (b := w.heap.size) (o := zdate) (heap_alloc_new _ _) hb1)
  obtain ⟨hc1, hf1⟩ := bcell hb1
  have hz1 : w.heap.size < w1.heap.size := World.block_lt_of_cell? _ ⟨w.heap.size, 0, none⟩ (row3 R1.out).1
  clear hb1
  go_wp2_with fail
  generalize hu : (((w1.setCell ⟨w.heap.size, 0, none⟩ (.int .i64 a)).setCell ⟨w.heap.size, 1, none⟩ (.int .i64 b)).setCell ⟨w.heap.size, 2, none⟩ (.int .i64 c)) = u
  obtain ⟨k0, k1, k2⟩ := three_set _ _ _ R1.out hu
  have Hb := Lib.hid (below_set3 S1.out.b (Nat.le_refl _) _ _ _ hu)
  clear hu
  exact bodyPost_ret (v := datv (a) (b) (c) (k)) (by simp [results, Tryz.results5, go_sem, k0, k1, k2]) rfl ⟨rfl, Hb.out⟩
theorem o_ci_ok (n p : Int) (n1 : -1 ≤ n) (n2 : n ≤ 365250000100) (p1 : -1 ≤ p) (p2 : p ≤ 365250000100) (H : ∀ w, PT w → Calls Tryz.prog 13 #[.int .i64 y] w fun e w' => e = .returned (numv p 0) ∧ Below w.heap.size w w') (ht : PT w) : Calls Tryz.prog 40 #[.int .i64 y, .func (.func 13) #[] #[], .func (.func 34) #[.int .i64 n] #[]] w fun e w' => e = .returned (numv (p - n) 0) ∧ Below w.heap.size w w' := by
  have HT := fun w => o_to w n p n1 n2 p1 p2
  have S0 := Lib.hid (PSt.start ht)
  clear ht
  go_enter Tryz.func40, Tryz.ntmps40
  go_wp2_with fail
  refine (H _ S0.out.t).mono ?_
  rintro e w1 ⟨rfl, hb1⟩
  have S1 := Lib.hid (S0.out.on hb1)
  clear hb1
  go_wp2_with fail
  refine (HT _).mono ?_
  rintro e wq ⟨rfl, rfl⟩
  go_wp2_with fail
  go_ret2
  exact ⟨rfl, S1.out.b⟩
theorem o_cj_ok (n p : Int) (n1 : -1 ≤ n) (n2 : n ≤ 365250000100) (p1 : -1 ≤ p) (p2 : p ≤ 365250000100) (H : ∀ w, PT w → Calls Tryz.prog 20 #[dtv y m d] w fun e w' => e = .returned (numv p 0) ∧ Below w.heap.size w w') (ht : PT w) : Calls Tryz.prog 33 #[dtv y m d, .func (.func 20) #[] #[], .func (.func 34) #[.int .i64 n] #[]] w fun e w' => e = .returned (numv (p - n) 0) ∧ Below w.heap.size w w' := by
  have HT := fun w => o_to w n p n1 n2 p1 p2
  have S0 := Lib.hid (PSt.start ht)
  clear ht
  go_enter Tryz.func33, Tryz.ntmps33
  go_wp2_with fail
  refine (H _ (S0.out.al _).t).mono ?_
  rintro e w1 ⟨rfl, hb1⟩
  have S1 := Lib.hid ((S0.out.al _).on hb1)
  have R1 := Lib.hid (row_on (heap_alloc_new _ _) hb1)
  obtain ⟨c0, c1, c2, g0, g1, g2, z⟩ := row3 R1.out
  clear hb1
  go_wp2_with fail
  refine (HT _).mono ?_
  rintro e wq ⟨rfl, rfl⟩
  go_wp2_with fail
  go_ret2
  exact ⟨rfl, S1.out.b⟩
theorem o_di_err (n k : Int) (H : ∀ w, PT w → Calls Tryz.prog 24 #[.int .i64 y] w fun e w' => e = .returned (numv n k) ∧ Below w.heap.size w w') (hk : (k != 0) = true) (ht : PT w) : Calls Tryz.prog 23 #[.int .i64 y, .func (.func 24) #[] #[], .func (.func 13) #[] #[]] w fun e w' => e = .returned (numv 0 k) ∧ Below w.heap.size w w' := by
  have S0 := Lib.hid (PSt.start ht)
  clear ht
  go_enter Tryz.func23, Tryz.ntmps23
  go_wp2_with fail
  refine (H _ S0.out.t).mono ?_
  rintro e w1 ⟨rfl, hb1⟩
  have S1 := Lib.hid (S0.out.on hb1)
  clear hb1
  go_wp2_with fail
  go_ret2
  exact ⟨rfl, S1.out.b⟩
theorem o_di_ok (n r k : Int) (H : ∀ w, PT w → Calls Tryz.prog 24 #[.int .i64 y] w fun e w' => e = .returned (numv n 0) ∧ Below w.heap.size w w') (H1 : ∀ w, PT w → Calls Tryz.prog 40 #[.int .i64 y, .func (.func 13) #[] #[], .func (.func 34) #[.int .i64 n] #[]] w fun e w' => e = .returned (numv r k) ∧ Below w.heap.size w w') (ht : PT w) : Calls Tryz.prog 23 #[.int .i64 y, .func (.func 24) #[] #[], .func (.func 13) #[] #[]] w fun e w' => e = .returned (numv r k) ∧ Below w.heap.size w w' := by
  have hmf := mk_func
  have S0 := Lib.hid (PSt.start ht)
  clear ht
  go_enter Tryz.func23, Tryz.ntmps23
  go_wp2_with fail
  refine (H _ S0.out.t).mono ?_
  rintro e w1 ⟨rfl, hb1⟩
  have S1 := Lib.hid (S0.out.on hb1)
  clear hb1
  go_wp2_with fail
  refine (H1 _ S1.out.t).mono ?_
  rintro e w2 ⟨rfl, hb2⟩
  have S2 := Lib.hid (S1.out.on hb2)
  clear hb2
  go_wp2_with fail
  go_ret2
  exact ⟨rfl, S2.out.b⟩
theorem o_gap (r k : Int) (H : ∀ w, PT w → Calls Tryz.prog 23 #[.int .i64 y, .func (.func 24) #[] #[], .func (.func 13) #[] #[]] w fun e w' => e = .returned (numv r k) ∧ Below w.heap.size w w') (ht : PT w) : Calls Tryz.prog 9 #[.int .i64 y] w fun e w' => e = .returned (numv r k) ∧ Below w.heap.size w w' := by
  have S0 := Lib.hid (PSt.start ht)
  clear ht
  go_enter Tryz.func9, Tryz.ntmps9
  go_wp2_with fail
  refine (H _ S0.out.t).mono ?_
  rintro e w1 ⟨rfl, hb1⟩
  have S1 := Lib.hid (S0.out.on hb1)
  clear hb1
  go_wp2_with fail
  go_ret2
  exact ⟨rfl, S1.out.b⟩
theorem o_dj_err (n k : Int) (H : ∀ w, PT w → Calls Tryz.prog 19 #[dtv y m d] w fun e w' => e = .returned (numv n k) ∧ Below w.heap.size w w') (hk : (k != 0) = true) (ht : PT w) : Calls Tryz.prog 18 #[dtv y m d, .func (.func 19) #[] #[], .func (.func 20) #[] #[]] w fun e w' => e = .returned (numv 0 k) ∧ Below w.heap.size w w' := by
  have S0 := Lib.hid (PSt.start ht)
  clear ht
  go_enter Tryz.func18, Tryz.ntmps18
  go_wp2_with fail
  refine (H _ (S0.out.al _).t).mono ?_
  rintro e w1 ⟨rfl, hb1⟩
  have S1 := Lib.hid ((S0.out.al _).on hb1)
  have R1 := Lib.hid (row_on (heap_alloc_new _ _) hb1)
  obtain ⟨c0, c1, c2, g0, g1, g2, z⟩ := row3 R1.out
  clear hb1
  go_wp2_with fail
  go_ret2
  exact ⟨rfl, S1.out.b⟩
theorem o_dj_ok (n r k : Int) (H : ∀ w, PT w → Calls Tryz.prog 19 #[dtv y m d] w fun e w' => e = .returned (numv n 0) ∧ Below w.heap.size w w') (H1 : ∀ w, PT w → Calls Tryz.prog 33 #[dtv y m d, .func (.func 20) #[] #[], .func (.func 34) #[.int .i64 n] #[]] w fun e w' => e = .returned (numv r k) ∧ Below w.heap.size w w') (ht : PT w) : Calls Tryz.prog 18 #[dtv y m d, .func (.func 19) #[] #[], .func (.func 20) #[] #[]] w fun e w' => e = .returned (numv r k) ∧ Below w.heap.size w w' := by
  have hmf := mk_func
  have S0 := Lib.hid (PSt.start ht)
  clear ht
  go_enter Tryz.func18, Tryz.ntmps18
  go_wp2_with fail
  refine (H _ (S0.out.al _).t).mono ?_
  rintro e w1 ⟨rfl, hb1⟩
  have S1 := Lib.hid ((S0.out.al _).on hb1)
  have R1 := Lib.hid (row_on (heap_alloc_new _ _) hb1)
  obtain ⟨c0, c1, c2, g0, g1, g2, z⟩ := row3 R1.out
  clear hb1
  go_wp2_with fail
  refine (H1 _ S1.out.t).mono ?_
  rintro e w2 ⟨rfl, hb2⟩
  have S2 := Lib.hid (S1.out.on hb2)
  have R2 := Lib.hid (row_on R1.out hb2)
  clear c0 c1 c2 g0 g1 g2 z
  obtain ⟨c0, c1, c2, g0, g1, g2, z⟩ := row3 R2.out
  clear hb2
  go_wp2_with fail
  go_ret2
  exact ⟨rfl, S2.out.b⟩
theorem o_delay (r k : Int) (H : ∀ w, PT w → Calls Tryz.prog 18 #[dtv y m d, .func (.func 19) #[] #[], .func (.func 20) #[] #[]] w fun e w' => e = .returned (numv r k) ∧ Below w.heap.size w w') (ht : PT w) : Calls Tryz.prog 7 #[dtv y m d] w fun e w' => e = .returned (numv r k) ∧ Below w.heap.size w w' := by
  have S0 := Lib.hid (PSt.start ht)
  clear ht
  go_enter Tryz.func7, Tryz.ntmps7
  go_wp2_with fail
  refine (H _ (S0.out.al _).t).mono ?_
  rintro e w1 ⟨rfl, hb1⟩
  have S1 := Lib.hid ((S0.out.al _).on hb1)
  have R1 := Lib.hid (row_on (heap_alloc_new _ _) hb1)
  obtain ⟨c0, c1, c2, g0, g1, g2, z⟩ := row3 R1.out
  clear hb1
  go_wp2_with fail
  go_ret2
  exact ⟨rfl, S1.out.b⟩
theorem o_orth_any (ht : PT w) : Calls Tryz.prog 13 #[.int .i64 y] w fun e w' => e = .returned (numv (edN 1 y) (epE 1 y)) ∧ Below w.heap.size w w' := o_orth y w _ _ (fun w ht => pday_any 1 y w wf1 ht) ht
theorem o_west_any (ht : PT w) : Calls Tryz.prog 24 #[.int .i64 y] w fun e w' => e = .returned (numv (edN 2 y) (epE 2 y)) ∧ Below w.heap.size w w' := o_west y w _ _ (fun w ht => pday_any 2 y w wf2 ht) ht
theorem o_jday_any (ht : PT w) : Calls Tryz.prog 20 #[dtv y m d] w fun e w' => e = .returned (numv (tN 1 y m d) (tE 1 y m d)) ∧ Below w.heap.size w w' := o_jday y m d w _ _ (fun w ht => ctoday_any y m d w 1 ht.c) ht
theorem o_gday_any (ht : PT w) : Calls Tryz.prog 19 #[dtv y m d] w fun e w' => e = .returned (numv (tN 2 y m d) (tE 2 y m d)) ∧ Below w.heap.size w w' := o_gday y m d w _ _ (fun w ht => ctoday_any y m d w 2 ht.c) ht
theorem o_greg_any (n : Int) (ht : PT w) : Calls Tryz.prog 14 #[.int .i64 n] w fun e w' => e = .returned (datv (fY 2 n) (fM 2 n) (fD 2 n) (fE 2 n)) ∧ Below w.heap.size w w' := o_greg w n _ _ _ _ (fun w ht => cfrom_any n w 2 ht.c) ht
theorem odate_any (ht : PT w) : Calls Tryz.prog 5 #[.int .i64 y] w fun e w' => e = .returned (datv (oxY y) (oxM y) (oxD y) (oxE y)) ∧ Below w.heap.size w w' := by
  have H := fun w ht => o_orth_any y w ht
  by_cases h : epE 1 y = 0
  · rw [(ed_ok h).1, h] at H
    obtain ⟨e1, e2, e3, e4⟩ := ox_in h
    rw [e1, e2, e3, e4]
    exact o_date y w _ _ _ _ (fun w ht => o_cd_ok y w _ _ _ _ _ H (fun w ht => o_greg_any w _ ht) ht) ht
  · obtain ⟨e1, e2, e3, e4⟩ := ox_out h
    rw [e1, e2, e3, e4]
    exact o_date y w _ _ _ _ (fun w ht => o_cd_err y w _ _ H (tE_ne h) ht) ht
theorem ogap_any (ht : PT w) : Calls Tryz.prog 9 #[.int .i64 y] w fun e w' => e = .returned (numv (ogN y) (epE 2 y)) ∧ Below w.heap.size w w' := by
  have H := fun w ht => o_west_any y w ht
  by_cases h : epE 2 y = 0
  · have g := epE_two_one h
    have H1 := fun w ht => o_orth_any y w ht
    rw [(ed_ok h).1, h] at H
    rw [(ed_ok g).1, g] at H1
    have a := eaN_bd h
    have b := eaN_bd g
    rw [og_ok h, h]
    exact o_gap y w _ _ (fun w ht => o_di_ok y w _ _ _ H (fun w ht => o_ci_ok y w _ _ (by omega) (by omega) (by omega) (by omega) H1 ht) ht) ht
  · rw [og_no h]
    exact o_gap y w _ _ (fun w ht => o_di_err y w _ _ H (tE_ne h) ht) ht
theorem odel_any (ht : PT w) : Calls Tryz.prog 7 #[dtv y m d] w fun e w' => e = .returned (numv (odN y m d) (tE 2 y m d)) ∧ Below w.heap.size w w' := by
  have H := fun w ht => o_gday_any y m d w ht
  by_cases h : tE 2 y m d = 0
  · have H1 := fun w ht => o_jday_any y m d w ht
    rw [h] at H
    rw [od_jul h] at H1
    have a := tN_bd 1 y m d
    have b := tN_bd 2 y m d
    rw [od_ok h, h]
    exact o_delay y m d w _ _ (fun w ht => o_dj_ok y m d w _ _ _ H (fun w ht => o_cj_ok y m d w _ _ (by omega) (by omega) (by omega) (by omega) H1 ht) ht) ht
  · rw [od_no h]
    exact o_delay y m d w _ _ (fun w ht => o_dj_err y m d w _ _ H (tE_ne h) ht) ht
theorem r13date_no (HI : ∀ w, Calls Tryz.prog 15 #[.int .i64 y] w fun e w' => e = .returned (.bool false) ∧ w = w') : Calls Tryz.prog 6 #[.int .i64 y] w fun e w' => e = .returned (datv 0 0 0 1) ∧ Below w.heap.size w w' := by
  go_enter Tryz.func6, Tryz.ntmps6
  go_wp2_with fail
  refine (HI _).mono ?_
  rintro e wq ⟨rfl, rfl⟩
  go_wp2_with fail
  exact bodyPost_ret (v := datv 0 0 0 1) (by simp [results, Tryz.results6, go_sem]) rfl ⟨rfl, (Below.refl _ _).alloc (Nat.le_refl _) _⟩
theorem r13date_ok (n a b c k : Int) (HI : ∀ w, Calls Tryz.prog 15 #[.int .i64 y] w fun e w' => e = .returned (.bool true) ∧ w = w') (H : ∀ w, PT w → Calls Tryz.prog 17 #[.int .i64 1, .int .i64 y] w fun e w' => e = .returned (.int .i64 n) ∧ Below w.heap.size w w') (H1 : ∀ w, Calls Tryz.prog 16 #[.int .i64 n] w fun e w' => e = .returned (datv a b c k) ∧ Below w.heap.size w w') (ht : PT w) : Calls Tryz.prog 6 #[.int .i64 y] w fun e w' => e = .returned (datv a b c k) ∧ Below w.heap.size w w' := by
  have S0 := Lib.hid (PSt.start ht)
  clear ht
  go_enter Tryz.func6, Tryz.ntmps6
  go_wp2_with fail
  refine (HI _).mono ?_
  rintro e wq ⟨rfl, rfl⟩
  go_wp2_with fail
  refine (H _ (S0.out.al _).t).mono ?_
  rintro e w1 ⟨rfl, hb1⟩
  have S1 := Lib.hid ((S0.out.al _).on hb1)
  have R1 := Lib.hid (row_on (b := w.heap.size) (o := zdate) (heap_alloc_new _ _) hb1)
  obtain ⟨hc1, hf1⟩ := bcell hb1
  have hz1 : w.heap.size < w1.heap.size := World.block_lt_of_cell? _ ⟨w.heap.size, 0, none⟩ (row3 R1.out).1
  clear hb1
  go_wp2_with fail
  refine (H1 _).mono ?_
  rintro e w2 ⟨rfl, hb2⟩
  have S2 := Lib.hid (S1.out.on hb2)
  have R2 := Lib.hid (row_on R1.out hb2)
  obtain ⟨hc2, hf2⟩ := bcell hb2
  have hz2 : w.heap.size < w2.heap.size := World.block_lt_of_cell? _ ⟨w.heap.size, 0, none⟩ (row3 R2.out).1
  clear hb2
  go_wp2_with fail
  generalize hu : (((w2.setCell ⟨w.heap.size, 0, none⟩ (.int .i64 a)).setCell ⟨w.heap.size, 1, none⟩ (.int .i64 b)).setCell ⟨w.heap.size, 2, none⟩ (.int .i64 c)) = u
  obtain ⟨k0, k1, k2⟩ := three_set _ _ _ R2.out hu
  have Hb := Lib.hid (below_set3 S2.out.b (Nat.le_refl _) _ _ _ hu)
  clear hu
  exact bodyPost_ret (v := datv (a) (b) (c) (k)) (by simp [results, Tryz.results6, go_sem, k0, k1, k2]) rfl ⟨rfl, Hb.out⟩
theorem r13gap_ok (n p : Int) (n1 : -1 ≤ n) (n2 : n ≤ 365250000100) (p1 : -1 ≤ p) (p2 : p ≤ 365250000100) (H : ∀ w, PT w → Calls Tryz.prog 17 #[.int .i64 1, .int .i64 y] w fun e w' => e = .returned (.int .i64 n) ∧ Below w.heap.size w w') (H1 : ∀ w, PT w → Calls Tryz.prog 17 #[.int .i64 2, .int .i64 y] w fun e w' => e = .returned (.int .i64 p) ∧ Below w.heap.size w w') (ht : PT w) : Calls Tryz.prog 11 #[.int .i64 y] w fun e w' => e = .returned (.int .i64 (n - p)) ∧ Below w.heap.size w w' := by
  have S0 := Lib.hid (PSt.start ht)
  clear ht
  go_enter Tryz.func11, Tryz.ntmps11
  go_wp2_with fail
  refine (H _ S0.out.t).mono ?_
  rintro e w1 ⟨rfl, hb1⟩
  have S1 := Lib.hid (S0.out.on hb1)
  clear hb1
  go_wp2_with fail
  refine (H1 _ S1.out.t).mono ?_
  rintro e w2 ⟨rfl, hb2⟩
  have S2 := Lib.hid (S1.out.on hb2)
  clear hb2
  go_wp2_with fail
  go_ret
  exact ⟨rfl, S2.out.b⟩
theorem r13del_e1 (n k : Int) (H : ∀ w, Calls Tryz.prog 21 #[dtv y m d] w fun e w' => e = .returned (numv n k) ∧ Below w.heap.size w w') (hk : (k != 0) = true) : Calls Tryz.prog 8 #[dtv y m d] w fun e w' => e = .returned (numv 0 k) ∧ Below w.heap.size w w' := by
  have S0 := Lib.hid (Below.refl w.heap.size w)
  go_enter Tryz.func8, Tryz.ntmps8
  go_wp2_with fail
  refine (H _).mono ?_
  rintro e w1 ⟨rfl, hb1⟩
  have S1 := Lib.hid (below_on (S0.out.alloc (Nat.le_refl _) _) hb1)
  have R1 := Lib.hid (row_on (heap_alloc_new _ _) hb1)
  obtain ⟨c0, c1, c2, g0, g1, g2, z⟩ := row3 R1.out
  clear hb1
  go_wp2_with fail
  go_ret2
  exact ⟨rfl, S1.out⟩
theorem r13del_e2 (n p k : Int) (H : ∀ w, Calls Tryz.prog 21 #[dtv y m d] w fun e w' => e = .returned (numv n 0) ∧ Below w.heap.size w w') (H1 : ∀ w, Calls Tryz.prog 22 #[dtv y m d] w fun e w' => e = .returned (numv p k) ∧ Below w.heap.size w w') (hk : (k != 0) = true) : Calls Tryz.prog 8 #[dtv y m d] w fun e w' => e = .returned (numv 0 k) ∧ Below w.heap.size w w' := by
  have S0 := Lib.hid (Below.refl w.heap.size w)
  go_enter Tryz.func8, Tryz.ntmps8
  go_wp2_with fail
  refine (H _).mono ?_
  rintro e w1 ⟨rfl, hb1⟩
  have S1 := Lib.hid (below_on (S0.out.alloc (Nat.le_refl _) _) hb1)
  have R1 := Lib.hid (row_on (heap_alloc_new _ _) hb1)
  obtain ⟨c0, c1, c2, g0, g1, g2, z⟩ := row3 R1.out
  clear hb1
  go_wp2_with fail
  refine (H1 _).mono ?_
  rintro e w2 ⟨rfl, hb2⟩
  have S2 := Lib.hid (below_on S1.out hb2)
  have R2 := Lib.hid (row_on R1.out hb2)
  clear c0 c1 c2 g0 g1 g2 z
  obtain ⟨c0, c1, c2, g0, g1, g2, z⟩ := row3 R2.out
  clear hb2
  go_wp2_with fail
  go_ret2
  exact ⟨rfl, S2.out⟩
theorem r13del_ok (n p : Int) (n1 : -1 ≤ n) (n2 : n ≤ 365250000100) (p1 : -1 ≤ p) (p2 : p ≤ 365250000100) (H : ∀ w, Calls Tryz.prog 21 #[dtv y m d] w fun e w' => e = .returned (numv n 0) ∧ Below w.heap.size w w') (H1 : ∀ w, Calls Tryz.prog 22 #[dtv y m d] w fun e w' => e = .returned (numv p 0) ∧ Below w.heap.size w w') : Calls Tryz.prog 8 #[dtv y m d] w fun e w' => e = .returned (numv (n - p) 0) ∧ Below w.heap.size w w' := by
  have S0 := Lib.hid (Below.refl w.heap.size w)
  go_enter Tryz.func8, Tryz.ntmps8
  go_wp2_with fail
  refine (H _).mono ?_
  rintro e w1 ⟨rfl, hb1⟩
  have S1 := Lib.hid (below_on (S0.out.alloc (Nat.le_refl _) _) hb1)
  have R1 := Lib.hid (row_on (heap_alloc_new _ _) hb1)
  obtain ⟨c0, c1, c2, g0, g1, g2, z⟩ := row3 R1.out
  clear hb1
  go_wp2_with fail
  refine (H1 _).mono ?_
  rintro e w2 ⟨rfl, hb2⟩
  have S2 := Lib.hid (below_on S1.out hb2)
  have R2 := Lib.hid (row_on R1.out hb2)
  clear c0 c1 c2 g0 g1 g2 z
  obtain ⟨c0, c1, c2, g0, g1, g2, z⟩ := row3 R2.out
  clear hb2
  go_wp2_with fail
  go_ret2
  exact ⟨rfl, S2.out⟩
theorem r13date_any (ht : PT w) : Calls Tryz.prog 6 #[.int .i64 y] w fun e w' => e = .returned (datv (oxY y) (oxM y) (oxD y) (oxE y)) ∧ Below w.heap.size w w' := by
  have HI := fun w => rin_any y w
  by_cases h : inY y = true
  · rw [h] at HI
    have g : epE 1 y = 0 := by rw [epE_one, if_pos h]
    obtain ⟨e1, e2, e3, e4⟩ := ox_in g
    rw [e1, e2, e3, e4]
    exact r13date_ok y w _ _ _ _ _ HI (fun w ht => r10day_any 1 y w g ht) (fun w => sfrom_all (eaN 1 y) w) ht
  · have h' : inY y = false := by simpa using h
    rw [h'] at HI
    have g : epE 1 y = 1 := by rw [epE_one, if_neg h]
    obtain ⟨e1, e2, e3, e4⟩ := ox_out (y := y) (by rw [g]; decide)
    rw [e1, e2, e3, e4, g]
    exact r13date_no y w HI
theorem r13gap_any (h : epE 2 y = 0) (ht : PT w) : Calls Tryz.prog 11 #[.int .i64 y] w fun e w' => e = .returned (.int .i64 (ogN y)) ∧ Below w.heap.size w w' := by
  have g := epE_two_one h
  have a := eaN_bd h
  have b := eaN_bd g
  rw [og_ok h]
  exact r13gap_ok y w _ _ (by omega) (by omega) (by omega) (by omega) (fun w ht => r10day_any 1 y w g ht) (fun w ht => r10day_any 2 y w h ht) ht
theorem r13del_any : Calls Tryz.prog 8 #[dtv y m d] w fun e w' => e = .returned (numv (odN y m d) (tE 2 y m d)) ∧ Below w.heap.size w w' := by
  have H : ∀ w, Calls Tryz.prog 21 #[dtv y m d] w fun e w' => e = .returned (numv (tN 1 y m d) (tE 1 y m d)) ∧ Below w.heap.size w w' := fun w => rday_all y m d w
  have H1 : ∀ w, Calls Tryz.prog 22 #[dtv y m d] w fun e w' => e = .returned (numv (tN 2 y m d) (tE 2 y m d)) ∧ Below w.heap.size w w' := fun w => sday_all y m d w
  have a := tN_bd 1 y m d
  have b := tN_bd 2 y m d
  by_cases h : tE 1 y m d = 0
  · rw [h] at H
    by_cases g : tE 2 y m d = 0
    · rw [g] at H1
      rw [od_ok g, g]
      exact r13del_ok y m d w _ _ (by omega) (by omega) (by omega) (by omega) H H1
    · rw [od_no g]
      exact r13del_e2 y m d w _ _ _ H H1 (tE_ne g)
  · have g := od_err h
    rw [od_no (by rw [g]; exact h), g]
    exact r13del_e1 y m d w _ _ H (tE_ne h)
end
end Go.Proofs.YtnfeihbkemgecaaGreatDoor

namespace Go.Proofs.YtnfeihbkemgecaaGreatDoor
open Go.RowKit

set_option maxRecDepth 100000 in
set_option maxHeartbeats 800000 in
theorem c13awake_any (W : World) (ht : PT W) : Calls Tryz.prog 4 #[] W fun e w' => e = .returned (.bool true) ∧ Below W.heap.size W w' := by
  have H1 : ∀ w, PT w → Calls Tryz.prog 5 #[.int .i64 2024] w fun e w' => e = .returned (datv 2024 5 5 0) ∧ Below w.heap.size w w' := fun w ht => by
    have := odate_any 2024 w ht
    obtain ⟨e1, e2, e3, e4⟩ := ox_at (y := 2024) (a := 2024) (m := 5) (d := 5) (by kernel_rfl) (by kernel_rfl) (by kernel_rfl)
    rwa [e1, e2, e3, e4] at this
  have H2 : ∀ w, PT w → Calls Tryz.prog 9 #[.int .i64 2024] w fun e w' => e = .returned (numv 35 0) ∧ Below w.heap.size w w' := fun w ht => by
    have := ogap_any 2024 w ht
    rwa [show ogN 2024 = 35 by kernel_rfl, show epE 2 2024 = 0 by kernel_rfl] at this
  have H3 : ∀ w, PT w → Calls Tryz.prog 7 #[dtv 2000 1 1] w fun e w' => e = .returned (numv 13 0) ∧ Below w.heap.size w w' := fun w ht => by
    have := odel_any 2000 1 1 w ht
    rwa [show odN 2000 1 1 = 13 by kernel_rfl, show tE 2 2000 1 1 = 0 by kernel_rfl] at this
  have H4 : ∀ w, PT w → Calls Tryz.prog 5 #[.int .i64 0] w fun e w' => e = .returned (datv 0 0 0 1) ∧ Below w.heap.size w w' := fun w ht => by
    have := odate_any 0 w ht
    obtain ⟨e1, e2, e3, e4⟩ := ox_out (y := 0) (by rw [show epE 1 0 = 1 by kernel_rfl]; decide)
    rwa [e1, e2, e3, e4, show epE 1 0 = 1 by kernel_rfl] at this
  have H5 : ∀ w, PT w → Calls Tryz.prog 7 #[dtv 1900 2 29] w fun e w' => e = .returned (numv 0 2) ∧ Below w.heap.size w w' := fun w ht => by
    have := odel_any 1900 2 29 w ht
    rwa [show odN 1900 2 29 = 0 by kernel_rfl, show tE 2 1900 2 29 = 2 by kernel_rfl] at this
  have S0 := Lib.hid (PSt.start ht)
  clear ht
  go_enter Tryz.func4, Tryz.ntmps4
  go_wp2_with fail
  refine (H1 _ S0.out.t).mono ?_
  rintro e w1 ⟨rfl, hb1⟩
  have S1 := Lib.hid (S0.out.on hb1)
  clear hb1
  go_wp2_with fail
  refine (H2 _ (S1.out.al _).t).mono ?_
  rintro e w2 ⟨rfl, hb2⟩
  have S2 := Lib.hid ((S1.out.al _).on hb2)
  have RD2 := Lib.hid (row_on (heap_alloc_new _ _) hb2)
  obtain ⟨cD0, cD1, cD2, gD0, gD1, gD2, zD⟩ := row3 RD2.out
  clear hb2
  go_wp2_with fail
  refine (H3 _ S2.out.t).mono ?_
  rintro e w3 ⟨rfl, hb3⟩
  have S3 := Lib.hid (S2.out.on hb3)
  have RD3 := Lib.hid (row_on RD2.out hb3)
  clear RD2
  clear cD0 cD1 cD2 gD0 gD1 gD2 zD
  obtain ⟨cD0, cD1, cD2, gD0, gD1, gD2, zD⟩ := row3 RD3.out
  clear hb3
  go_wp2_with fail
  refine (H4 _ S3.out.t).mono ?_
  rintro e w4 ⟨rfl, hb4⟩
  have S4 := Lib.hid (S3.out.on hb4)
  have RD4 := Lib.hid (row_on RD3.out hb4)
  clear RD3
  clear cD0 cD1 cD2 gD0 gD1 gD2 zD
  obtain ⟨cD0, cD1, cD2, gD0, gD1, gD2, zD⟩ := row3 RD4.out
  clear hb4
  go_wp2_with fail
  refine (H5 _ (S4.out.al _).t).mono ?_
  rintro e w5 ⟨rfl, hb5⟩
  have S5 := Lib.hid ((S4.out.al _).on hb5)
  have RD5 := Lib.hid (row_on (row_al RD4.out _) hb5)
  clear RD4
  clear cD0 cD1 cD2 gD0 gD1 gD2 zD
  obtain ⟨cD0, cD1, cD2, gD0, gD1, gD2, zD⟩ := row3 RD5.out
  clear hb5
  go_wp2_with fail
  go_ret
  exact ⟨rfl, S5.out.b⟩
end Go.Proofs.YtnfeihbkemgecaaGreatDoor
