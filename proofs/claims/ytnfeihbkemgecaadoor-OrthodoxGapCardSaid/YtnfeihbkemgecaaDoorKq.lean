/- What earlier stages proved: Oa Ob Oc. -/
import Derived.Test.YtnfeihbkemgecaaDoorKs
namespace Go.Proofs.YtnfeihbkemgecaaDoor

theorem epE_one (y : Int) : epE 1 y = if inY y = true then 0 else 1 := rfl
theorem epE_two (y : Int) : epE 2 y = if inG y = true then 0 else 1 := rfl
theorem epE_two_one {y : Int} (h : epE 2 y = 0) : epE 1 y = 0 := by
  have := inG_iff.1 (epE_zero h).2
  rw [epE_one, if_pos (inY_iff.2 (by omega))]

def oxE (y : Int) : Int := if epE 1 y = 0 then fE 2 (eaN 1 y) else epE 1 y
noncomputable def oxY (y : Int) : Int := if epE 1 y = 0 then fY 2 (eaN 1 y) else 0
noncomputable def oxM (y : Int) : Int := if epE 1 y = 0 then fM 2 (eaN 1 y) else 0
noncomputable def oxD (y : Int) : Int := if epE 1 y = 0 then fD 2 (eaN 1 y) else 0
theorem ox_in {y : Int} (h : epE 1 y = 0) : oxE y = fE 2 (eaN 1 y) ∧ oxY y = fY 2 (eaN 1 y) ∧ oxM y = fM 2 (eaN 1 y) ∧ oxD y = fD 2 (eaN 1 y) := by
  unfold oxE oxY oxM oxD; rw [if_pos h, if_pos h, if_pos h, if_pos h]; exact ⟨rfl, rfl, rfl, rfl⟩
theorem ox_out {y : Int} (h : epE 1 y ≠ 0) : oxE y = epE 1 y ∧ oxY y = 0 ∧ oxM y = 0 ∧ oxD y = 0 := by
  unfold oxE oxY oxM oxD; rw [if_neg h, if_neg h, if_neg h, if_neg h]; exact ⟨rfl, rfl, rfl, rfl⟩
theorem ox_ok {y : Int} (h : oxE y = 0) : epE 1 y = 0 ∧ fE 2 (eaN 1 y) = 0 := by
  by_cases g : epE 1 y = 0
  · rw [(ox_in g).1] at h; exact ⟨g, h⟩
  · rw [(ox_out g).1] at h; exact absurd h g
theorem ox_bad {y : Int} (h : oxE y ≠ 0) : oxY y = 0 ∧ oxM y = 0 ∧ oxD y = 0 := by
  by_cases g : epE 1 y = 0
  · rw [(ox_in g).1] at h
    rw [(ox_in g).2.1, (ox_in g).2.2.1, (ox_in g).2.2.2]
    exact fE_no h
  · exact (ox_out g).2
theorem ox_at {y a m d : Int} (h : epE 1 y = 0) (hv : greg.vld a m d = true) (hn : greg.num a m d = eaN 1 y) : oxE y = 0 ∧ oxY y = a ∧ oxM y = m ∧ oxD y = d := by
  obtain ⟨e1, e2, e3, e4⟩ := ox_in h
  rw [e1, e2, e3, e4]
  exact fE_at (c := 2) rfl hv hn
/-- The number of the Gregorian date of Orthodox Easter is that of Easter. -/
theorem ox_num {y : Int} (h : oxE y = 0) : tE 2 (oxY y) (oxM y) (oxD y) = 0 ∧ tN 2 (oxY y) (oxM y) (oxD y) = eaN 1 y := by
  obtain ⟨g, f⟩ := ox_ok h
  obtain ⟨v, n⟩ := fE_in f
  obtain ⟨_, e2, e3, e4⟩ := ox_in g
  rw [e2, e3, e4]
  obtain ⟨t1, t2⟩ := tE_at (c := 2) rfl v
  exact ⟨t1, t2.trans n⟩

def ogN (y : Int) : Int := if epE 2 y = 0 then eaN 1 y - eaN 2 y else 0
theorem og_ok {y : Int} (h : epE 2 y = 0) : ogN y = eaN 1 y - eaN 2 y := by unfold ogN; rw [if_pos h]
theorem og_no {y : Int} (h : epE 2 y ≠ 0) : ogN y = 0 := by unfold ogN; rw [if_neg h]
theorem og_week {y : Int} (h : epE 2 y = 0) : ogN y % 7 = 0 := by
  have a := eaN_mod 1 y
  have b := eaN_mod 2 y
  rw [og_ok h]; omega
theorem og_bd {y : Int} (h : epE 2 y = 0) : -365250000033 ≤ ogN y ∧ ogN y ≤ 365250000033 := by
  have a := eaN_bd h
  have b := eaN_bd (epE_two_one h)
  rw [og_ok h]; omega
def eaX (c y : Int) : Int := marN c y + (offX (lab c y) + 7 - (marN c y + offX (lab c y)) % 7)
theorem eaN_x (c y : Int) : eaN c y = eaX c y := by
  unfold eaN eaO eaX
  rw [off_x (lab_bd c y).1 (lab_bd c y).2]
def gapB (y : Int) : Bool := decide (0 ≤ eaX 1 y - eaX 2 y) && decide (eaX 1 y - eaX 2 y ≤ 42)
def gapC (y : Int) : Bool := decide (0 ≤ eaX 1 y - eaX 2 y) && decide (eaX 1 y - eaX 2 y ≤ 35)
theorem og_42 {y : Int} (h1 : 1583 ≤ y) (h2 : y ≤ 2399) : 0 ≤ ogN y ∧ ogN y ≤ 42 := by
  have h : epE 2 y = 0 := by rw [epE_two, if_pos (inG_iff.2 (by omega))]
  have := all_lt 817 (fun j => gapB (1583 + Int.ofNat j)) (by kernel_rfl) (y - 1583).toNat (by omega)
  rw [show 1583 + Int.ofNat (y - 1583).toNat = y by simp; omega] at this
  unfold gapB at this
  rw [Bool.and_eq_true, decide_eq_true_eq, decide_eq_true_eq, ← eaN_x, ← eaN_x] at this
  rw [og_ok h]; exact this
theorem og_35 {y : Int} (h1 : 1900 ≤ y) (h2 : y ≤ 2099) : 0 ≤ ogN y ∧ ogN y ≤ 35 := by
  have h : epE 2 y = 0 := by rw [epE_two, if_pos (inG_iff.2 (by omega))]
  have := all_lt 200 (fun j => gapC (1900 + Int.ofNat j)) (by kernel_rfl) (y - 1900).toNat (by omega)
  rw [show 1900 + Int.ofNat (y - 1900).toNat = y by simp; omega] at this
  unfold gapC at this
  rw [Bool.and_eq_true, decide_eq_true_eq, decide_eq_true_eq, ← eaN_x, ← eaN_x] at this
  rw [og_ok h]; exact this

def odN (y m d : Int) : Int := if tE 2 y m d = 0 then tN 1 y m d - tN 2 y m d else 0
theorem od_ok {y m d : Int} (h : tE 2 y m d = 0) : odN y m d = tN 1 y m d - tN 2 y m d := by unfold odN; rw [if_pos h]
theorem od_no {y m d : Int} (h : tE 2 y m d ≠ 0) : odN y m d = 0 := by unfold odN; rw [if_neg h]
theorem glp_jlp {y : Int} (h : glp y = true) : jlp y = true := by
  unfold glp at h; unfold jlp
  simp only [Bool.or_eq_true, Bool.and_eq_true, decide_eq_true_eq, Bool.not_eq_true', decide_eq_false_iff_not] at *
  omega
theorem dim_le13 (m : Int) {a b : Bool} (h : a = true → b = true) : dim a m ≤ dim b m := by
  cases a with
  | true => rw [h rfl]; omega
  | false =>
    have := l01_bd b
    have e : l01 false = 0 := rfl
    unfold dim
    repeat' split
    all_goals omega
theorem greg_jul {y m d : Int} (h : greg.vld y m d = true) : jul.vld y m d = true := by
  rw [Cal.vld_iff] at *
  have : dim (greg.lp y) m ≤ dim (jul.lp y) m := dim_le13 m (fun e => glp_jlp e)
  omega
/-- A date of the Gregorian calendar is one of the Julian calendar; where the Julian calendar has an error, the Gregorian one has the same. -/
theorem od_jul {y m d : Int} (h : tE 2 y m d = 0) : tE 1 y m d = 0 := (tE_at (c := 1) rfl (greg_jul (tE_zero h).2.1)).1
/-- The year whose last century day lies behind a date. -/
def cenY (y m : Int) : Int := if m < 3 then y - 1 else y
theorem num_diff {y m : Int} (d : Int) (m1 : 1 ≤ m) (m2 : m ≤ 12) : jul.num y m d - greg.num y m d = cenY y m / 100 - cenY y m / 400 - 2 := by
  show jfst y + cum (jlp y) m + d - 1 - (gfst y + cum (glp y) m + d - 1) = _
  unfold jfst gfst cenY
  by_cases h : m < 3
  · have e : ∀ l : Bool, cum l m = 31 * (m - 1) := fun l => by unfold cum; rw [if_pos (by omega)]
    rw [e, e, if_pos h]; omega
  · have e : ∀ l : Bool, cum l m = (153 * (m - 3) + 2) / 5 + 59 + l01 l := fun l => by unfold cum; rw [if_neg (by omega)]
    rw [e, e, if_neg h]
    by_cases h1 : y % 100 = 0
    · by_cases h2 : y % 400 = 0
      · have a : jlp y = true := by unfold jlp; rw [decide_eq_true_eq]; omega
        have b : glp y = true := by unfold glp; simp only [Bool.or_eq_true, decide_eq_true_eq]; exact Or.inr h2
        rw [a, b, show l01 true = 1 from rfl]; omega
      · have a : jlp y = true := by unfold jlp; rw [decide_eq_true_eq]; omega
        have b : glp y = false := by unfold glp; rw [decide_eq_true h1, decide_eq_false h2]; simp
        rw [a, b, show l01 true = 1 from rfl, show l01 false = 0 from rfl]; omega
    · have h2 : ¬ y % 400 = 0 := by omega
      have b : glp y = jlp y := by unfold glp jlp; rw [decide_eq_false h1, decide_eq_false h2]; simp
      rw [b]; omega
theorem od_diff {y m d : Int} (h : tE 2 y m d = 0) : odN y m d = cenY y m / 100 - cenY y m / 400 - 2 := by
  obtain ⟨_, v, n⟩ := tE_zero h
  obtain ⟨_, _, n1⟩ := tE_zero (od_jul h)
  obtain ⟨m1, m2⟩ := greg.vld_month v
  rw [od_ok h, n, n1]
  exact num_diff d m1 m2

theorem ox_cent {y : Int} (h1 : 1900 ≤ y) (h2 : y ≤ 2099) : oxE y = 0 ∧ oxY y = y ∧ ((oxM y = 4 ∧ 4 ≤ oxD y ∧ oxD y ≤ 30) ∨ (oxM y = 5 ∧ 1 ≤ oxD y ∧ oxD y ≤ 8)) := by
  have g : epE 1 y = 0 := by rw [epE_one, if_pos (inY_iff.2 (by omega))]
  have o := eaO_bd 1 y
  have n := num_diff (y := y) (m := 3) 21 (by omega) (by omega)
  rw [show cenY y 3 = y from rfl] at n
  have e : eaN 1 y = greg.num y 3 21 + 13 + eaO 1 y := by
    unfold eaN; rw [show marN 1 y = jul.num y 3 21 from rfl]; omega
  have a4 : dim (greg.lp y) 4 = 30 := rfl
  have a5 : dim (greg.lp y) 5 = 31 := rfl
  have b3 : cum (greg.lp y) 3 = 59 + l01 (greg.lp y) := by unfold cum; rw [if_neg (by omega)]; omega
  have b4 : cum (greg.lp y) 4 = 90 + l01 (greg.lp y) := by unfold cum; rw [if_neg (by omega)]; omega
  have b5 : cum (greg.lp y) 5 = 120 + l01 (greg.lp y) := by unfold cum; rw [if_neg (by omega)]; omega
  by_cases k : eaO 1 y ≤ 27
  · obtain ⟨e1, e2, e3, e4⟩ := ox_at (y := y) (a := y) (m := 4) (d := eaO 1 y + 3) g (greg.vld_iff.2 ⟨by omega, by omega, by omega, by rw [a4]; omega⟩) (by rw [e]; unfold Cal.num; rw [b3, b4]; omega)
    rw [e1, e2, e3, e4]
    exact ⟨rfl, rfl, Or.inl ⟨rfl, by omega, by omega⟩⟩
  · obtain ⟨e1, e2, e3, e4⟩ := ox_at (y := y) (a := y) (m := 5) (d := eaO 1 y - 27) g (greg.vld_iff.2 ⟨by omega, by omega, by omega, by rw [a5]; omega⟩) (by rw [e]; unfold Cal.num; rw [b3, b5]; omega)
    rw [e1, e2, e3, e4]
    exact ⟨rfl, rfl, Or.inr ⟨rfl, by omega, by omega⟩⟩
end Go.Proofs.YtnfeihbkemgecaaDoor

namespace Go.Proofs.YtnfeihbkemgecaaDoor
open Go.RowKit

section
variable (y m d : Int) (w : World)
theorem o_orth (n k : Int) (H : ∀ w, PT w → Calls Tryd.prog 9 #[.int .i64 1, .int .i64 y] w fun e w' => e = .returned (numv n k) ∧ Below w.heap.size w w') (ht : PT w) : Calls Tryd.prog 18 #[.int .i64 y] w fun e w' => e = .returned (numv n k) ∧ Below w.heap.size w w' := by
  have S0 := Lib.hid (PSt.start ht)
  clear ht
  go_enter Tryd.func18, Tryd.ntmps18
  go_wp2_with fail
  refine (H _ S0.out.t).mono ?_
  rintro e w1 ⟨rfl, hb1⟩
  have S1 := Lib.hid (S0.out.on hb1)
  clear hb1
  go_wp2_with fail
  go_ret2
  exact ⟨rfl, S1.out.b⟩
theorem o_west (n k : Int) (H : ∀ w, PT w → Calls Tryd.prog 9 #[.int .i64 2, .int .i64 y] w fun e w' => e = .returned (numv n k) ∧ Below w.heap.size w w') (ht : PT w) : Calls Tryd.prog 33 #[.int .i64 y] w fun e w' => e = .returned (numv n k) ∧ Below w.heap.size w w' := by
  have S0 := Lib.hid (PSt.start ht)
  clear ht
  go_enter Tryd.func33, Tryd.ntmps33
  go_wp2_with fail
  refine (H _ S0.out.t).mono ?_
  rintro e w1 ⟨rfl, hb1⟩
  have S1 := Lib.hid (S0.out.on hb1)
  clear hb1
  go_wp2_with fail
  go_ret2
  exact ⟨rfl, S1.out.b⟩
theorem o_jday (n k : Int) (H : ∀ w, PT w → Calls Tryd.prog 24 #[.int .i64 1, dtv y m d] w fun e w' => e = .returned (numv n k) ∧ Below w.heap.size w w') (ht : PT w) : Calls Tryd.prog 36 #[dtv y m d] w fun e w' => e = .returned (numv n k) ∧ Below w.heap.size w w' := by
  have S0 := Lib.hid (PSt.start ht)
  clear ht
  go_enter Tryd.func36, Tryd.ntmps36
  go_wp2_with fail
  refine (H _ (S0.out.al _).t).mono ?_
  rintro e w1 ⟨rfl, hb1⟩
  have S1 := Lib.hid ((S0.out.al _).on hb1)
  have R1 := Lib.hid (row_on (heap_alloc_new _ _) hb1)
  obtain ⟨c0, c1, c2, g0, g1, g2, z⟩ := row3 R1.out
  clear hb1
  go_wp2_with fail
  go_ret2
  exact ⟨rfl, S1.out.b⟩
theorem o_gday (n k : Int) (H : ∀ w, PT w → Calls Tryd.prog 24 #[.int .i64 2, dtv y m d] w fun e w' => e = .returned (numv n k) ∧ Below w.heap.size w w') (ht : PT w) : Calls Tryd.prog 35 #[dtv y m d] w fun e w' => e = .returned (numv n k) ∧ Below w.heap.size w w' := by
  have S0 := Lib.hid (PSt.start ht)
  clear ht
  go_enter Tryd.func35, Tryd.ntmps35
  go_wp2_with fail
  refine (H _ (S0.out.al _).t).mono ?_
  rintro e w1 ⟨rfl, hb1⟩
  have S1 := Lib.hid ((S0.out.al _).on hb1)
  have R1 := Lib.hid (row_on (heap_alloc_new _ _) hb1)
  obtain ⟨c0, c1, c2, g0, g1, g2, z⟩ := row3 R1.out
  clear hb1
  go_wp2_with fail
  go_ret2
  exact ⟨rfl, S1.out.b⟩
theorem o_greg (n a b c k : Int) (H : ∀ w, PT w → Calls Tryd.prog 39 #[.int .i64 2, .int .i64 n] w fun e w' => e = .returned (datv a b c k) ∧ Below w.heap.size w w') (ht : PT w) : Calls Tryd.prog 19 #[.int .i64 n] w fun e w' => e = .returned (datv a b c k) ∧ Below w.heap.size w w' := by
  have S0 := Lib.hid (PSt.start ht)
  clear ht
  go_enter Tryd.func19, Tryd.ntmps19
  go_wp2_with fail
  refine (H _ (S0.out.al _).t).mono ?_
  rintro e w1 ⟨rfl, hb1⟩
  have S1 := Lib.hid ((S0.out.al _).on hb1)
  have R1 := Lib.hid (row_on (b := w.heap.size) (o := zdate) (heap_alloc_new _ _) hb1)
  obtain ⟨hc1, hf1⟩ := bcell hb1
  have hz1 : w.heap.size < w1.heap.size := World.block_lt_of_cell? _ ⟨w.heap.size, 0, none⟩ (row3 R1.out).1
  clear hb1
  go_wp2_with fail
  generalize hu : (((w1.setCell ⟨w.heap.size, 0, none⟩ (.int .i64 a)).setCell ⟨w.heap.size, 1, none⟩ (.int .i64 b)).setCell ⟨w.heap.size, 2, none⟩ (.int .i64 c)) = u
  obtain ⟨k0, k1, k2⟩ := three_set _ _ _ R1.out hu
  have Hb := Lib.hid (below_set3 S1.out.b (Nat.le_refl _) _ _ _ hu)
  clear hu
  exact bodyPost_ret (v := datv (a) (b) (c) (k)) (by simp [results, Tryd.results19, go_sem, k0, k1, k2]) rfl ⟨rfl, Hb.out⟩
theorem o_to (n p : Int) (n1 : -1 ≤ n) (n2 : n ≤ 365250000100) (p1 : -1 ≤ p) (p2 : p ≤ 365250000100) : Calls Tryd.prog 48 #[.int .i64 n, .int .i64 p] w fun e w' => e = .returned (numv (p - n) 0) ∧ w = w' := by
  go_enter Tryd.func48, Tryd.ntmps48
  go_wp2_with fail
  go_ret2
  exact ⟨rfl, rfl⟩
theorem o_cd_err (n k : Int) (H : ∀ w, PT w → Calls Tryd.prog 18 #[.int .i64 y] w fun e w' => e = .returned (numv n k) ∧ Below w.heap.size w w') (hk : (k != 0) = true) (ht : PT w) : Calls Tryd.prog 17 #[.int .i64 y, .func (.func 18) #[] #[], .func (.func 19) #[] #[]] w fun e w' => e = .returned (datv 0 0 0 k) ∧ Below w.heap.size w w' := by
  have S0 := Lib.hid (PSt.start ht)
  clear ht
  go_enter Tryd.func17, Tryd.ntmps17
  go_wp2_with fail
  refine (H _ (S0.out.al _).t).mono ?_
  rintro e w1 ⟨rfl, hb1⟩
  have S1 := Lib.hid ((S0.out.al _).on hb1)
  have R1 := Lib.hid (row_on (b := w.heap.size) (o := zdate) (heap_alloc_new _ _) hb1)
  obtain ⟨hc1, hf1⟩ := bcell hb1
  have hz1 : w.heap.size < w1.heap.size := World.block_lt_of_cell? _ ⟨w.heap.size, 0, none⟩ (row3 R1.out).1
  clear hb1
  go_wp2_with fail
  generalize hu : (((w1.setCell ⟨w.heap.size, 0, none⟩ (.int .i64 0)).setCell ⟨w.heap.size, 1, none⟩ (.int .i64 0)).setCell ⟨w.heap.size, 2, none⟩ (.int .i64 0)).alloc zdate = u
  obtain ⟨k0, k1, k2, kb⟩ := three_al _ _ _ R1.out hu
  have Hb := Lib.hid (kb _ S1.out.b (Nat.le_refl _))
  clear hu
  exact bodyPost_ret (v := datv (0) (0) (0) (k)) (by simp [results, Tryd.results17, go_sem, k0, k1, k2]) rfl ⟨rfl, Hb.out⟩
theorem o_cd_ok (n a b c k : Int) (H : ∀ w, PT w → Calls Tryd.prog 18 #[.int .i64 y] w fun e w' => e = .returned (numv n 0) ∧ Below w.heap.size w w') (H1 : ∀ w, PT w → Calls Tryd.prog 19 #[.int .i64 n] w fun e w' => e = .returned (datv a b c k) ∧ Below w.heap.size w w') (ht : PT w) : Calls Tryd.prog 17 #[.int .i64 y, .func (.func 18) #[] #[], .func (.func 19) #[] #[]] w fun e w' => e = .returned (datv a b c k) ∧ Below w.heap.size w w' := by
  have S0 := Lib.hid (PSt.start ht)
  clear ht
  go_enter Tryd.func17, Tryd.ntmps17
  go_wp2_with fail
  refine (H _ (S0.out.al _).t).mono ?_
  rintro e w1 ⟨rfl, hb1⟩
  have S1 := Lib.hid ((S0.out.al _).on hb1)
  have R1 := Lib.hid (row_on (b := w.heap.size) (o := zdate) (heap_alloc_new _ _) hb1)
  obtain ⟨hc1, hf1⟩ := bcell hb1
  have hz1 : w.heap.size < w1.heap.size := World.block_lt_of_cell? _ ⟨w.heap.size, 0, none⟩ (row3 R1.out).1
  clear hb1
  go_wp2_with fail
  refine (H1 _ S1.out.t).mono ?_
  rintro e w2 ⟨rfl, hb2⟩
  have S2 := Lib.hid (S1.out.on hb2)
  have R2 := Lib.hid (row_on R1.out hb2)
  obtain ⟨hc2, hf2⟩ := bcell hb2
  have hz2 : w.heap.size < w2.heap.size := World.block_lt_of_cell? _ ⟨w.heap.size, 0, none⟩ (row3 R2.out).1
  clear hb2
  go_wp2_with fail
  generalize hu : (((w2.setCell ⟨w.heap.size, 0, none⟩ (.int .i64 a)).setCell ⟨w.heap.size, 1, none⟩ (.int .i64 b)).setCell ⟨w.heap.size, 2, none⟩ (.int .i64 c)) = u
  obtain ⟨k0, k1, k2⟩ := three_set _ _ _ R2.out hu
  have Hb := Lib.hid (below_set3 S2.out.b (Nat.le_refl _) _ _ _ hu)
  clear hu
  exact bodyPost_ret (v := datv (a) (b) (c) (k)) (by simp [results, Tryd.results17, go_sem, k0, k1, k2]) rfl ⟨rfl, Hb.out⟩
theorem o_date (a b c k : Int) (H : ∀ w, PT w → Calls Tryd.prog 17 #[.int .i64 y, .func (.func 18) #[] #[], .func (.func 19) #[] #[]] w fun e w' => e = .returned (datv a b c k) ∧ Below w.heap.size w w') (ht : PT w) : Calls Tryd.prog 8 #[.int .i64 y] w fun e w' => e = .returned (datv a b c k) ∧ Below w.heap.size w w' := by
  have S0 := Lib.hid (PSt.start ht)
  clear ht
  go_enter Tryd.func8, Tryd.ntmps8
  go_wp2_with fail
  refine (H _ (S0.out.al _).t).mono ?_
  rintro e w1 ⟨rfl, hb1⟩
  have S1 := Lib.hid ((S0.out.al _).on hb1)
  have R1 := Lib.hid (row_on (b := w.heap.size) (o := zdate) (heap_alloc_new _ _) hb1)
  obtain ⟨hc1, hf1⟩ := bcell hb1
  have hz1 : w.heap.size < w1.heap.size := World.block_lt_of_cell? _ ⟨w.heap.size, 0, none⟩ (row3 R1.out).1
  clear hb1
  go_wp2_with fail
  generalize hu : (((w1.setCell ⟨w.heap.size, 0, none⟩ (.int .i64 a)).setCell ⟨w.heap.size, 1, none⟩ (.int .i64 b)).setCell ⟨w.heap.size, 2, none⟩ (.int .i64 c)) = u
  obtain ⟨k0, k1, k2⟩ := three_set _ _ _ R1.out hu
  have Hb := Lib.hid (below_set3 S1.out.b (Nat.le_refl _) _ _ _ hu)
  clear hu
  exact bodyPost_ret (v := datv (a) (b) (c) (k)) (by simp [results, Tryd.results8, go_sem, k0, k1, k2]) rfl ⟨rfl, Hb.out⟩
theorem o_ci_ok (n p : Int) (n1 : -1 ≤ n) (n2 : n ≤ 365250000100) (p1 : -1 ≤ p) (p2 : p ≤ 365250000100) (H : ∀ w, PT w → Calls Tryd.prog 18 #[.int .i64 y] w fun e w' => e = .returned (numv p 0) ∧ Below w.heap.size w w') (ht : PT w) : Calls Tryd.prog 47 #[.int .i64 y, .func (.func 18) #[] #[], .func (.func 48) #[.int .i64 n] #[]] w fun e w' => e = .returned (numv (p - n) 0) ∧ Below w.heap.size w w' := by
  have HT := fun w => o_to w n p n1 n2 p1 p2
  have S0 := Lib.hid (PSt.start ht)
  clear ht
  go_enter Tryd.func47, Tryd.ntmps47
  go_wp2_with fail
  refine (H _ S0.out.t).mono ?_
  rintro e w1 ⟨rfl, hb1⟩
  have S1 := Lib.hid (S0.out.on hb1)
  clear hb1
  go_wp2_with fail
  refine (HT _).mono ?_
  rintro e wq ⟨rfl, rfl⟩
  go_wp2_with fail
  go_ret2
  exact ⟨rfl, S1.out.b⟩
theorem o_cj_ok (n p : Int) (n1 : -1 ≤ n) (n2 : n ≤ 365250000100) (p1 : -1 ≤ p) (p2 : p ≤ 365250000100) (H : ∀ w, PT w → Calls Tryd.prog 36 #[dtv y m d] w fun e w' => e = .returned (numv p 0) ∧ Below w.heap.size w w') (ht : PT w) : Calls Tryd.prog 49 #[dtv y m d, .func (.func 36) #[] #[], .func (.func 48) #[.int .i64 n] #[]] w fun e w' => e = .returned (numv (p - n) 0) ∧ Below w.heap.size w w' := by
  have HT := fun w => o_to w n p n1 n2 p1 p2
  have S0 := Lib.hid (PSt.start ht)
  clear ht
  go_enter Tryd.func49, Tryd.ntmps49
  go_wp2_with fail
  refine (H _ (S0.out.al _).t).mono ?_
  rintro e w1 ⟨rfl, hb1⟩
  have S1 := Lib.hid ((S0.out.al _).on hb1)
  have R1 := Lib.hid (row_on (heap_alloc_new _ _) hb1)
  obtain ⟨c0, c1, c2, g0, g1, g2, z⟩ := row3 R1.out
  clear hb1
  go_wp2_with fail
  refine (HT _).mono ?_
  rintro e wq ⟨rfl, rfl⟩
  go_wp2_with fail
  go_ret2
  exact ⟨rfl, S1.out.b⟩
theorem o_di_err (n k : Int) (H : ∀ w, PT w → Calls Tryd.prog 33 #[.int .i64 y] w fun e w' => e = .returned (numv n k) ∧ Below w.heap.size w w') (hk : (k != 0) = true) (ht : PT w) : Calls Tryd.prog 32 #[.int .i64 y, .func (.func 33) #[] #[], .func (.func 18) #[] #[]] w fun e w' => e = .returned (numv 0 k) ∧ Below w.heap.size w w' := by
  have S0 := Lib.hid (PSt.start ht)
  clear ht
  go_enter Tryd.func32, Tryd.ntmps32
  go_wp2_with fail
  refine (H _ S0.out.t).mono ?_
  rintro e w1 ⟨rfl, hb1⟩
  have S1 := Lib.hid (S0.out.on hb1)
  clear hb1
  go_wp2_with fail
  go_ret2
  exact ⟨rfl, S1.out.b⟩
theorem o_di_ok (n r k : Int) (H : ∀ w, PT w → Calls Tryd.prog 33 #[.int .i64 y] w fun e w' => e = .returned (numv n 0) ∧ Below w.heap.size w w') (H1 : ∀ w, PT w → Calls Tryd.prog 47 #[.int .i64 y, .func (.func 18) #[] #[], .func (.func 48) #[.int .i64 n] #[]] w fun e w' => e = .returned (numv r k) ∧ Below w.heap.size w w') (ht : PT w) : Calls Tryd.prog 32 #[.int .i64 y, .func (.func 33) #[] #[], .func (.func 18) #[] #[]] w fun e w' => e = .returned (numv r k) ∧ Below w.heap.size w w' := by
  have hmf := mk_func
  have S0 := Lib.hid (PSt.start ht)
  clear ht
  go_enter Tryd.func32, Tryd.ntmps32
  go_wp2_with fail
  refine (H _ S0.out.t).mono ?_
  rintro e w1 ⟨rfl, hb1⟩
  have S1 := Lib.hid (S0.out.on hb1)
  clear hb1
  go_wp2_with fail
  refine (H1 _ S1.out.t).mono ?_
  rintro e w2 ⟨rfl, hb2⟩
  have S2 := Lib.hid (S1.out.on hb2)
  clear hb2
  go_wp2_with fail
  go_ret2
  exact ⟨rfl, S2.out.b⟩
theorem o_gap (r k : Int) (H : ∀ w, PT w → Calls Tryd.prog 32 #[.int .i64 y, .func (.func 33) #[] #[], .func (.func 18) #[] #[]] w fun e w' => e = .returned (numv r k) ∧ Below w.heap.size w w') (ht : PT w) : Calls Tryd.prog 13 #[.int .i64 y] w fun e w' => e = .returned (numv r k) ∧ Below w.heap.size w w' := by
  have S0 := Lib.hid (PSt.start ht)
  clear ht
  go_enter Tryd.func13, Tryd.ntmps13
  go_wp2_with fail
  refine (H _ S0.out.t).mono ?_
  rintro e w1 ⟨rfl, hb1⟩
  have S1 := Lib.hid (S0.out.on hb1)
  clear hb1
  go_wp2_with fail
  go_ret2
  exact ⟨rfl, S1.out.b⟩
theorem o_dj_err (n k : Int) (H : ∀ w, PT w → Calls Tryd.prog 35 #[dtv y m d] w fun e w' => e = .returned (numv n k) ∧ Below w.heap.size w w') (hk : (k != 0) = true) (ht : PT w) : Calls Tryd.prog 34 #[dtv y m d, .func (.func 35) #[] #[], .func (.func 36) #[] #[]] w fun e w' => e = .returned (numv 0 k) ∧ Below w.heap.size w w' := by
  have S0 := Lib.hid (PSt.start ht)
  clear ht
  go_enter Tryd.func34, Tryd.ntmps34
  go_wp2_with fail
  refine (H _ (S0.out.al _).t).mono ?_
  rintro e w1 ⟨rfl, hb1⟩
  have S1 := Lib.hid ((S0.out.al _).on hb1)
  have R1 := Lib.hid (row_on (heap_alloc_new _ _) hb1)
  obtain ⟨c0, c1, c2, g0, g1, g2, z⟩ := row3 R1.out
  clear hb1
  go_wp2_with fail
  go_ret2
  exact ⟨rfl, S1.out.b⟩
theorem o_dj_ok (n r k : Int) (H : ∀ w, PT w → Calls Tryd.prog 35 #[dtv y m d] w fun e w' => e = .returned (numv n 0) ∧ Below w.heap.size w w') (H1 : ∀ w, PT w → Calls Tryd.prog 49 #[dtv y m d, .func (.func 36) #[] #[], .func (.func 48) #[.int .i64 n] #[]] w fun e w' => e = .returned (numv r k) ∧ Below w.heap.size w w') (ht : PT w) : Calls Tryd.prog 34 #[dtv y m d, .func (.func 35) #[] #[], .func (.func 36) #[] #[]] w fun e w' => e = .returned (numv r k) ∧ Below w.heap.size w w' := by
  have hmf := mk_func
  have S0 := Lib.hid (PSt.start ht)
  clear ht
  go_enter Tryd.func34, Tryd.ntmps34
  go_wp2_with fail
  refine (H _ (S0.out.al _).t).mono ?_
  rintro e w1 ⟨rfl, hb1⟩
  have S1 := Lib.hid ((S0.out.al _).on hb1)
  have R1 := Lib.hid (row_on (heap_alloc_new _ _) hb1)
  obtain ⟨c0, c1, c2, g0, g1, g2, z⟩ := row3 R1.out
  clear hb1
  go_wp2_with fail
  refine (H1 _ S1.out.t).mono ?_
  rintro e w2 ⟨rfl, hb2⟩
  have S2 := Lib.hid (S1.out.on hb2)
  have R2 := Lib.hid (row_on R1.out hb2)
  clear c0 c1 c2 g0 g1 g2 z
  obtain ⟨c0, c1, c2, g0, g1, g2, z⟩ := row3 R2.out
  clear hb2
  go_wp2_with fail
  go_ret2
  exact ⟨rfl, S2.out.b⟩
theorem o_delay (r k : Int) (H : ∀ w, PT w → Calls Tryd.prog 34 #[dtv y m d, .func (.func 35) #[] #[], .func (.func 36) #[] #[]] w fun e w' => e = .returned (numv r k) ∧ Below w.heap.size w w') (ht : PT w) : Calls Tryd.prog 15 #[dtv y m d] w fun e w' => e = .returned (numv r k) ∧ Below w.heap.size w w' := by
  have S0 := Lib.hid (PSt.start ht)
  clear ht
  go_enter Tryd.func15, Tryd.ntmps15
  go_wp2_with fail
  refine (H _ (S0.out.al _).t).mono ?_
  rintro e w1 ⟨rfl, hb1⟩
  have S1 := Lib.hid ((S0.out.al _).on hb1)
  have R1 := Lib.hid (row_on (heap_alloc_new _ _) hb1)
  obtain ⟨c0, c1, c2, g0, g1, g2, z⟩ := row3 R1.out
  clear hb1
  go_wp2_with fail
  go_ret2
  exact ⟨rfl, S1.out.b⟩
theorem o_orth_any (ht : PT w) : Calls Tryd.prog 18 #[.int .i64 y] w fun e w' => e = .returned (numv (edN 1 y) (epE 1 y)) ∧ Below w.heap.size w w' := o_orth y w _ _ (fun w ht => pday_any 1 y w wf1 ht) ht
theorem o_west_any (ht : PT w) : Calls Tryd.prog 33 #[.int .i64 y] w fun e w' => e = .returned (numv (edN 2 y) (epE 2 y)) ∧ Below w.heap.size w w' := o_west y w _ _ (fun w ht => pday_any 2 y w wf2 ht) ht
theorem o_jday_any (ht : PT w) : Calls Tryd.prog 36 #[dtv y m d] w fun e w' => e = .returned (numv (tN 1 y m d) (tE 1 y m d)) ∧ Below w.heap.size w w' := o_jday y m d w _ _ (fun w ht => ctoday_any y m d w 1 ht.c) ht
theorem o_gday_any (ht : PT w) : Calls Tryd.prog 35 #[dtv y m d] w fun e w' => e = .returned (numv (tN 2 y m d) (tE 2 y m d)) ∧ Below w.heap.size w w' := o_gday y m d w _ _ (fun w ht => ctoday_any y m d w 2 ht.c) ht
theorem o_greg_any (n : Int) (ht : PT w) : Calls Tryd.prog 19 #[.int .i64 n] w fun e w' => e = .returned (datv (fY 2 n) (fM 2 n) (fD 2 n) (fE 2 n)) ∧ Below w.heap.size w w' := o_greg w n _ _ _ _ (fun w ht => cfrom_any n w 2 ht.c) ht
theorem odate_any (ht : PT w) : Calls Tryd.prog 8 #[.int .i64 y] w fun e w' => e = .returned (datv (oxY y) (oxM y) (oxD y) (oxE y)) ∧ Below w.heap.size w w' := by
  have H := fun w ht => o_orth_any y w ht
  by_cases h : epE 1 y = 0
  · rw [(ed_ok h).1, h] at H
    obtain ⟨e1, e2, e3, e4⟩ := ox_in h
    rw [e1, e2, e3, e4]
    exact o_date y w _ _ _ _ (fun w ht => o_cd_ok y w _ _ _ _ _ H (fun w ht => o_greg_any w _ ht) ht) ht
  · obtain ⟨e1, e2, e3, e4⟩ := ox_out h
    rw [e1, e2, e3, e4]
    exact o_date y w _ _ _ _ (fun w ht => o_cd_err y w _ _ H (tE_ne h) ht) ht
theorem ogap_any (ht : PT w) : Calls Tryd.prog 13 #[.int .i64 y] w fun e w' => e = .returned (numv (ogN y) (epE 2 y)) ∧ Below w.heap.size w w' := by
  have H := fun w ht => o_west_any y w ht
  by_cases h : epE 2 y = 0
  · have g := epE_two_one h
    have H1 := fun w ht => o_orth_any y w ht
    rw [(ed_ok h).1, h] at H
    rw [(ed_ok g).1, g] at H1
    have a := eaN_bd h
    have b := eaN_bd g
    rw [og_ok h, h]
    exact o_gap y w _ _ (fun w ht => o_di_ok y w _ _ _ H (fun w ht => o_ci_ok y w _ _ (by omega) (by omega) (by omega) (by omega) H1 ht) ht) ht
  · rw [og_no h]
    exact o_gap y w _ _ (fun w ht => o_di_err y w _ _ H (tE_ne h) ht) ht
theorem odel_any (ht : PT w) : Calls Tryd.prog 15 #[dtv y m d] w fun e w' => e = .returned (numv (odN y m d) (tE 2 y m d)) ∧ Below w.heap.size w w' := by
  have H := fun w ht => o_gday_any y m d w ht
  by_cases h : tE 2 y m d = 0
  · have H1 := fun w ht => o_jday_any y m d w ht
    rw [h] at H
    rw [od_jul h] at H1
    have a := tN_bd 1 y m d
    have b := tN_bd 2 y m d
    rw [od_ok h, h]
    exact o_delay y m d w _ _ (fun w ht => o_dj_ok y m d w _ _ _ H (fun w ht => o_cj_ok y m d w _ _ (by omega) (by omega) (by omega) (by omega) H1 ht) ht) ht
  · rw [od_no h]
    exact o_delay y m d w _ _ (fun w ht => o_dj_err y m d w _ _ H (tE_ne h) ht) ht
end
end Go.Proofs.YtnfeihbkemgecaaDoor

namespace Go.Proofs.YtnfeihbkemgecaaDoor
open Go.RowKit

set_option maxRecDepth 100000 in
set_option maxHeartbeats 800000 in
theorem c13awake_any (W : World) (ht : PT W) : Calls Tryd.prog 7 #[] W fun e w' => e = .returned (.bool true) ∧ Below W.heap.size W w' := by
  have H1 : ∀ w, PT w → Calls Tryd.prog 8 #[.int .i64 2024] w fun e w' => e = .returned (datv 2024 5 5 0) ∧ Below w.heap.size w w' := fun w ht => by
    have := odate_any 2024 w ht
    obtain ⟨e1, e2, e3, e4⟩ := ox_at (y := 2024) (a := 2024) (m := 5) (d := 5) (by kernel_rfl) (by kernel_rfl) (by kernel_rfl)
    rwa [e1, e2, e3, e4] at this
  have H2 : ∀ w, PT w → Calls Tryd.prog 13 #[.int .i64 2024] w fun e w' => e = .returned (numv 35 0) ∧ Below w.heap.size w w' := fun w ht => by
    have := ogap_any 2024 w ht
    rwa [show ogN 2024 = 35 by kernel_rfl, show epE 2 2024 = 0 by kernel_rfl] at this
  have H3 : ∀ w, PT w → Calls Tryd.prog 15 #[dtv 2000 1 1] w fun e w' => e = .returned (numv 13 0) ∧ Below w.heap.size w w' := fun w ht => by
    have := odel_any 2000 1 1 w ht
    rwa [show odN 2000 1 1 = 13 by kernel_rfl, show tE 2 2000 1 1 = 0 by kernel_rfl] at this
  have H4 : ∀ w, PT w → Calls Tryd.prog 8 #[.int .i64 0] w fun e w' => e = .returned (datv 0 0 0 1) ∧ Below w.heap.size w w' := fun w ht => by
    have := odate_any 0 w ht
    obtain ⟨e1, e2, e3, e4⟩ := ox_out (y := 0) (by rw [show epE 1 0 = 1 by kernel_rfl]; decide)
    rwa [e1, e2, e3, e4, show epE 1 0 = 1 by kernel_rfl] at this
  have H5 : ∀ w, PT w → Calls Tryd.prog 15 #[dtv 1900 2 29] w fun e w' => e = .returned (numv 0 2) ∧ Below w.heap.size w w' := fun w ht => by
    have := odel_any 1900 2 29 w ht
    rwa [show odN 1900 2 29 = 0 by kernel_rfl, show tE 2 1900 2 29 = 2 by kernel_rfl] at this
  have S0 := Lib.hid (PSt.start ht)
  clear ht
  go_enter Tryd.func7, Tryd.ntmps7
  go_wp2_with fail
  refine (H1 _ S0.out.t).mono ?_
  rintro e w1 ⟨rfl, hb1⟩
  have S1 := Lib.hid (S0.out.on hb1)
  clear hb1
  go_wp2_with fail
  refine (H2 _ (S1.out.al _).t).mono ?_
  rintro e w2 ⟨rfl, hb2⟩
  have S2 := Lib.hid ((S1.out.al _).on hb2)
  have RD2 := Lib.hid (row_on (heap_alloc_new _ _) hb2)
  obtain ⟨cD0, cD1, cD2, gD0, gD1, gD2, zD⟩ := row3 RD2.out
  clear hb2
  go_wp2_with fail
  refine (H3 _ S2.out.t).mono ?_
  rintro e w3 ⟨rfl, hb3⟩
  have S3 := Lib.hid (S2.out.on hb3)
  have RD3 := Lib.hid (row_on RD2.out hb3)
  clear RD2
  clear cD0 cD1 cD2 gD0 gD1 gD2 zD
  obtain ⟨cD0, cD1, cD2, gD0, gD1, gD2, zD⟩ := row3 RD3.out
  clear hb3
  go_wp2_with fail
  refine (H4 _ S3.out.t).mono ?_
  rintro e w4 ⟨rfl, hb4⟩
  have S4 := Lib.hid (S3.out.on hb4)
  have RD4 := Lib.hid (row_on RD3.out hb4)
  clear RD3
  clear cD0 cD1 cD2 gD0 gD1 gD2 zD
  obtain ⟨cD0, cD1, cD2, gD0, gD1, gD2, zD⟩ := row3 RD4.out
  clear hb4
  go_wp2_with fail
  refine (H5 _ (S4.out.al _).t).mono ?_
  rintro e w5 ⟨rfl, hb5⟩
  have S5 := Lib.hid ((S4.out.al _).on hb5)
  have RD5 := Lib.hid (row_on (row_al RD4.out _) hb5)
  clear RD4
  clear cD0 cD1 cD2 gD0 gD1 gD2 zD
  obtain ⟨cD0, cD1, cD2, gD0, gD1, gD2, zD⟩ := row3 RD5.out
  clear hb5
  go_wp2_with fail
  go_ret
  exact ⟨rfl, S5.out.b⟩
end Go.Proofs.YtnfeihbkemgecaaDoor
