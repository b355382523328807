/- What earlier stages proved: Oa. -/
import Derived.Test.YtkhicgafhbecfaaGreatDoorKs
namespace Go.Proofs.YtkhicgafhbecfaaGreatDoor

theorem epE_one (y : Int) : epE 1 y = if inY y = true then 0 else 1 := rfl
theorem epE_two (y : Int) : epE 2 y = if inG y = true then 0 else 1 := rfl
theorem epE_two_one {y : Int} (h : epE 2 y = 0) : epE 1 y = 0 := by
  have := inG_iff.1 (epE_zero h).2
  rw [epE_one, if_pos (inY_iff.2 (by omega))]

def oxE (y : Int) : Int := if epE 1 y = 0 then fE 2 (eaN 1 y) else epE 1 y
noncomputable def oxY (y : Int) : Int := if epE 1 y = 0 then fY 2 (eaN 1 y) else 0
noncomputable def oxM (y : Int) : Int := if epE 1 y = 0 then fM 2 (eaN 1 y) else 0
noncomputable def oxD (y : Int) : Int := if epE 1 y = 0 then fD 2 (eaN 1 y) else 0
theorem ox_in {y : Int} (h : epE 1 y = 0) : oxE y = fE 2 (eaN 1 y) ∧ oxY y = fY 2 (eaN 1 y) ∧ oxM y = fM 2 (eaN 1 y) ∧ oxD y = fD 2 (eaN 1 y) := by
  unfold oxE oxY oxM oxD; rw [if_pos h, if_pos h, if_pos h, if_pos h]; exact ⟨rfl, rfl, rfl, rfl⟩
theorem ox_out {y : Int} (h : epE 1 y ≠ 0) : oxE y = epE 1 y ∧ oxY y = 0 ∧ oxM y = 0 ∧ oxD y = 0 := by
  unfold oxE oxY oxM oxD; rw [if_neg h, if_neg h, if_neg h, if_neg h]; exact ⟨rfl, rfl, rfl, rfl⟩
theorem ox_ok {y : Int} (h : oxE y = 0) : epE 1 y = 0 ∧ fE 2 (eaN 1 y) = 0 := by
  by_cases g : epE 1 y = 0
  · rw [(ox_in g).1] at h; exact ⟨g, h⟩
  · rw [(ox_out g).1] at h; exact absurd h g
theorem ox_bad {y : Int} (h : oxE y ≠ 0) : oxY y = 0 ∧ oxM y = 0 ∧ oxD y = 0 := by
  by_cases g : epE 1 y = 0
  · rw [(ox_in g).1] at h
    rw [(ox_in g).2.1, (ox_in g).2.2.1, (ox_in g).2.2.2]
    exact fE_no h
  · exact (ox_out g).2
theorem ox_at {y a m d : Int} (h : epE 1 y = 0) (hv : greg.vld a m d = true) (hn : greg.num a m d = eaN 1 y) : oxE y = 0 ∧ oxY y = a ∧ oxM y = m ∧ oxD y = d := by
  obtain ⟨e1, e2, e3, e4⟩ := ox_in h
  rw [e1, e2, e3, e4]
  exact fE_at (c := 2) rfl hv hn
/-- The number of the Gregorian date of Orthodox Easter is that of Easter. -/
theorem ox_num {y : Int} (h : oxE y = 0) : tE 2 (oxY y) (oxM y) (oxD y) = 0 ∧ tN 2 (oxY y) (oxM y) (oxD y) = eaN 1 y := by
  obtain ⟨g, f⟩ := ox_ok h
  obtain ⟨v, n⟩ := fE_in f
  obtain ⟨_, e2, e3, e4⟩ := ox_in g
  rw [e2, e3, e4]
  obtain ⟨t1, t2⟩ := tE_at (c := 2) rfl v
  exact ⟨t1, t2.trans n⟩

def ogN (y : Int) : Int := if epE 2 y = 0 then eaN 1 y - eaN 2 y else 0
theorem og_ok {y : Int} (h : epE 2 y = 0) : ogN y = eaN 1 y - eaN 2 y := by unfold ogN; rw [if_pos h]
theorem og_no {y : Int} (h : epE 2 y ≠ 0) : ogN y = 0 := by unfold ogN; rw [if_neg h]
theorem og_week {y : Int} (h : epE 2 y = 0) : ogN y % 7 = 0 := by
  have a := eaN_mod 1 y
  have b := eaN_mod 2 y
  rw [og_ok h]; omega
theorem og_bd {y : Int} (h : epE 2 y = 0) : -365250000033 ≤ ogN y ∧ ogN y ≤ 365250000033 := by
  have a := eaN_bd h
  have b := eaN_bd (epE_two_one h)
  rw [og_ok h]; omega
def eaX (c y : Int) : Int := marN c y + (offX (lab c y) + 7 - (marN c y + offX (lab c y)) % 7)
theorem eaN_x (c y : Int) : eaN c y = eaX c y := by
  unfold eaN eaO eaX
  rw [off_x (lab_bd c y).1 (lab_bd c y).2]
def gapB (y : Int) : Bool := decide (0 ≤ eaX 1 y - eaX 2 y) && decide (eaX 1 y - eaX 2 y ≤ 42)
def gapC (y : Int) : Bool := decide (0 ≤ eaX 1 y - eaX 2 y) && decide (eaX 1 y - eaX 2 y ≤ 35)
theorem og_42 {y : Int} (h1 : 1583 ≤ y) (h2 : y ≤ 2399) : 0 ≤ ogN y ∧ ogN y ≤ 42 := by
  have h : epE 2 y = 0 := by rw [epE_two, if_pos (inG_iff.2 (by omega))]
  have := all_lt 817 (fun j => gapB (1583 + Int.ofNat j)) (by kernel_rfl) (y - 1583).toNat (by omega)
  rw [show 1583 + Int.ofNat (y - 1583).toNat = y by simp; omega] at this
  unfold gapB at this
  rw [Bool.and_eq_true, decide_eq_true_eq, decide_eq_true_eq, ← eaN_x, ← eaN_x] at this
  rw [og_ok h]; exact this
theorem og_35 {y : Int} (h1 : 1900 ≤ y) (h2 : y ≤ 2099) : 0 ≤ ogN y ∧ ogN y ≤ 35 := by
  have h : epE 2 y = 0 := by rw [epE_two, if_pos (inG_iff.2 (by omega))]
  have := all_lt 200 (fun j => gapC (1900 + Int.ofNat j)) (by kernel_rfl) (y - 1900).toNat (by omega)
  rw [show 1900 + Int.ofNat (y - 1900).toNat = y by simp; omega] at this
  unfold gapC at this
  rw [Bool.and_eq_true, decide_eq_true_eq, decide_eq_true_eq, ← eaN_x, ← eaN_x] at this
  rw [og_ok h]; exact this

def odN (y m d : Int) : Int := if tE 2 y m d = 0 then tN 1 y m d - tN 2 y m d else 0
theorem od_ok {y m d : Int} (h : tE 2 y m d = 0) : odN y m d = tN 1 y m d - tN 2 y m d := by unfold odN; rw [if_pos h]
theorem od_no {y m d : Int} (h : tE 2 y m d ≠ 0) : odN y m d = 0 := by unfold odN; rw [if_neg h]
theorem od_bd (y m d : Int) : -365250000033 ≤ odN y m d ∧ odN y m d ≤ 365250000033 := by
  have a := tN_bd 1 y m d
  have b := tN_bd 2 y m d
  unfold odN; split <;> omega
theorem glp_jlp {y : Int} (h : glp y = true) : jlp y = true := by
  unfold glp at h; unfold jlp
  simp only [Bool.or_eq_true, Bool.and_eq_true, decide_eq_true_eq, Bool.not_eq_true', decide_eq_false_iff_not] at *
  omega
theorem dim_le13 (m : Int) {a b : Bool} (h : a = true → b = true) : dim a m ≤ dim b m := by
  cases a with
  | true => rw [h rfl]; omega
  | false =>
    have := l01_bd b
    have e : l01 false = 0 := rfl
    unfold dim
    repeat' split
    all_goals omega
theorem greg_jul {y m d : Int} (h : greg.vld y m d = true) : jul.vld y m d = true := by
  rw [Cal.vld_iff] at *
  have : dim (greg.lp y) m ≤ dim (jul.lp y) m := dim_le13 m (fun e => glp_jlp e)
  omega
/-- A date of the Gregorian calendar is one of the Julian calendar; where the Julian calendar has an error, the Gregorian one has the same. -/
theorem od_jul {y m d : Int} (h : tE 2 y m d = 0) : tE 1 y m d = 0 := (tE_at (c := 1) rfl (greg_jul (tE_zero h).2.1)).1
theorem od_err {y m d : Int} (h : tE 1 y m d ≠ 0) : tE 2 y m d = tE 1 y m d := by
  have g : greg.vld y m d = false := by
    cases e : greg.vld y m d with
    | false => rfl
    | true => exact absurd (tE_at (c := 1) rfl (greg_jul e)).1 h
  have j : jul.vld y m d = false := by
    cases e : jul.vld y m d with
    | false => rfl
    | true => exact absurd (tE_at (c := 1) rfl e).1 h
  show dE greg y m d = dE jul y m d
  unfold dE; rw [g, j]
/-- The year whose last century day lies behind a date. -/
def cenY (y m : Int) : Int := if m < 3 then y - 1 else y
theorem num_diff {y m : Int} (d : Int) (m1 : 1 ≤ m) (m2 : m ≤ 12) : jul.num y m d - greg.num y m d = cenY y m / 100 - cenY y m / 400 - 2 := by
  show jfst y + cum (jlp y) m + d - 1 - (gfst y + cum (glp y) m + d - 1) = _
  unfold jfst gfst cenY
  by_cases h : m < 3
  · have e : ∀ l : Bool, cum l m = 31 * (m - 1) := fun l => by unfold cum; rw [if_pos (by omega)]
    rw [e, e, if_pos h]; omega
  · have e : ∀ l : Bool, cum l m = (153 * (m - 3) + 2) / 5 + 59 + l01 l := fun l => by unfold cum; rw [if_neg (by omega)]
    rw [e, e, if_neg h]
    by_cases h1 : y % 100 = 0
    · by_cases h2 : y % 400 = 0
      · have a : jlp y = true := by unfold jlp; rw [decide_eq_true_eq]; omega
        have b : glp y = true := by unfold glp; simp only [Bool.or_eq_true, decide_eq_true_eq]; exact Or.inr h2
        rw [a, b, show l01 true = 1 from rfl]; omega
      · have a : jlp y = true := by unfold jlp; rw [decide_eq_true_eq]; omega
        have b : glp y = false := by unfold glp; rw [decide_eq_true h1, decide_eq_false h2]; simp
        rw [a, b, show l01 true = 1 from rfl, show l01 false = 0 from rfl]; omega
    · have h2 : ¬ y % 400 = 0 := by omega
      have b : glp y = jlp y := by unfold glp jlp; rw [decide_eq_false h1, decide_eq_false h2]; simp
      rw [b]; omega
theorem od_diff {y m d : Int} (h : tE 2 y m d = 0) : odN y m d = cenY y m / 100 - cenY y m / 400 - 2 := by
  obtain ⟨_, v, n⟩ := tE_zero h
  obtain ⟨_, _, n1⟩ := tE_zero (od_jul h)
  obtain ⟨m1, m2⟩ := greg.vld_month v
  rw [od_ok h, n, n1]
  exact num_diff d m1 m2

theorem ox_cent {y : Int} (h1 : 1900 ≤ y) (h2 : y ≤ 2099) : oxE y = 0 ∧ oxY y = y ∧ ((oxM y = 4 ∧ 4 ≤ oxD y ∧ oxD y ≤ 30) ∨ (oxM y = 5 ∧ 1 ≤ oxD y ∧ oxD y ≤ 8)) := by
  have g : epE 1 y = 0 := by rw [epE_one, if_pos (inY_iff.2 (by omega))]
  have o := eaO_bd 1 y
  have n := num_diff (y := y) (m := 3) 21 (by omega) (by omega)
  rw [show cenY y 3 = y from rfl] at n
  have e : eaN 1 y = greg.num y 3 21 + 13 + eaO 1 y := by
    unfold eaN; rw [show marN 1 y = jul.num y 3 21 from rfl]; omega
  have a4 : dim (greg.lp y) 4 = 30 := rfl
  have a5 : dim (greg.lp y) 5 = 31 := rfl
  have b3 : cum (greg.lp y) 3 = 59 + l01 (greg.lp y) := by unfold cum; rw [if_neg (by omega)]; omega
  have b4 : cum (greg.lp y) 4 = 90 + l01 (greg.lp y) := by unfold cum; rw [if_neg (by omega)]; omega
  have b5 : cum (greg.lp y) 5 = 120 + l01 (greg.lp y) := by unfold cum; rw [if_neg (by omega)]; omega
  by_cases k : eaO 1 y ≤ 27
  · obtain ⟨e1, e2, e3, e4⟩ := ox_at (y := y) (a := y) (m := 4) (d := eaO 1 y + 3) g (greg.vld_iff.2 ⟨by omega, by omega, by omega, by rw [a4]; omega⟩) (by rw [e]; unfold Cal.num; rw [b3, b4]; omega)
    rw [e1, e2, e3, e4]
    exact ⟨rfl, rfl, Or.inl ⟨rfl, by omega, by omega⟩⟩
  · obtain ⟨e1, e2, e3, e4⟩ := ox_at (y := y) (a := y) (m := 5) (d := eaO 1 y - 27) g (greg.vld_iff.2 ⟨by omega, by omega, by omega, by rw [a5]; omega⟩) (by rw [e]; unfold Cal.num; rw [b3, b5]; omega)
    rw [e1, e2, e3, e4]
    exact ⟨rfl, rfl, Or.inr ⟨rfl, by omega, by omega⟩⟩
end Go.Proofs.YtkhicgafhbecfaaGreatDoor
