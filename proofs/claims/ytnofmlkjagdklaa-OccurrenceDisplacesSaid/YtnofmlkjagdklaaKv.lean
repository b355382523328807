/- What earlier stages proved: Qa Qb Qc. -/
import Derived.Test.YtnofmlkjagdklaaKl
import Derived.Test.YtnofmlkjagdklaaKs
import Derived.Test.YtnofmlkjagdklaaKw
import Derived.Test.YtnofmlkjagdklaaKt
import Derived.Deep.RegionHeld3
namespace Go.Proofs.Ytnofmlkjagdklaa

/-- The bounds of the kind Nth, for the day n of a common year. -/
def nthB (n c : Int) : Bool := if 1 ≤ c ∧ c ≤ 8 then decide (n + 6 + 7 * (c - 1) ≤ 365) else if -8 ≤ c ∧ c ≤ -1 then decide (1 ≤ n - 6 - 7 * (-c - 1)) else false
/-- Is the anchor (Kind, Month, Day, Offset, Weekday, Count) well-formed? -/
def wfA (k m d o w c : Int) : Bool :=
  if k = 2 then decide (m = 0) && (decide (d = 0) && (decide (w = 0) && (decide (c = 0) && (decide (-80 ≤ o) && decide (o ≤ 250)))))
  else if okD m d = true ∧ o = 0 then (if k = 1 then decide (w = 0) && decide (c = 0) else if k = 3 then inW w && nthB (doy m d) c else false)
  else false
theorem wfA_fixed {m d o w c : Int} : wfA 1 m d o w c = true ↔ okD m d = true ∧ o = 0 ∧ w = 0 ∧ c = 0 := by
  unfold wfA
  rw [if_neg (by decide)]
  by_cases h : okD m d = true ∧ o = 0
  · rw [if_pos h, if_pos rfl, Bool.and_eq_true, decide_eq_true_iff, decide_eq_true_iff]
    exact ⟨fun g => ⟨h.1, h.2, g.1, g.2⟩, fun g => ⟨g.2.2.1, g.2.2.2⟩⟩
  · rw [if_neg h]
    exact ⟨fun g => (by cases g), fun g => absurd ⟨g.1, g.2.1⟩ h⟩
theorem wfA_pas {m d o w c : Int} : wfA 2 m d o w c = true ↔ m = 0 ∧ d = 0 ∧ w = 0 ∧ c = 0 ∧ -80 ≤ o ∧ o ≤ 250 := by
  unfold wfA; rw [if_pos rfl]; simp
theorem wfA_nth {m d o w c : Int} : wfA 3 m d o w c = true ↔ okD m d = true ∧ o = 0 ∧ inW w = true ∧ nthB (doy m d) c = true := by
  unfold wfA
  rw [if_neg (by decide)]
  by_cases h : okD m d = true ∧ o = 0
  · rw [if_pos h, if_neg (by decide), if_pos rfl, Bool.and_eq_true]
    exact ⟨fun g => ⟨h.1, h.2, g.1, g.2⟩, fun g => ⟨g.2.2.1, g.2.2.2⟩⟩
  · rw [if_neg h]
    exact ⟨fun g => (by cases g), fun g => absurd ⟨g.1, g.2.1⟩ h⟩
theorem wfA_kind {k m d o w c : Int} (h : wfA k m d o w c = true) : k = 1 ∨ k = 2 ∨ k = 3 := by
  unfold wfA at h
  split at h
  · exact .inr (.inl ‹_›)
  · split at h
    · split at h
      · exact .inl ‹_›
      · split at h
        · exact .inr (.inr ‹_›)
        · cases h
    · cases h
theorem nthB_iff {n c : Int} : nthB n c = true ↔ (1 ≤ c ∧ c ≤ 8 ∧ n + 6 + 7 * (c - 1) ≤ 365) ∨ (-8 ≤ c ∧ c ≤ -1 ∧ 1 ≤ n - 6 - 7 * (-c - 1)) := by
  unfold nthB
  split
  · rw [decide_eq_true_iff]; omega
  · split
    · rw [decide_eq_true_iff]; omega
    · exact ⟨fun g => (by cases g), fun g => by omega⟩

/-- The error of an anchor and a year; the day of a well-formed one; what Day and Date answer. -/
def anE (k m d o w c y : Int) : Int := if wfA k m d o w c = true then (if inG y = true then 0 else 1) else 3
def anD (k m d o w c y : Int) : Int := if k = 2 then eaN 2 y + o else if k = 3 then nth (greg.num y m d) w c else greg.num y m d
theorem anE_zero {k m d o w c y : Int} (h : anE k m d o w c y = 0) : wfA k m d o w c = true ∧ inG y = true := by
  unfold anE at h
  split at h
  · split at h
    · exact ⟨‹_›, ‹_›⟩
    · omega
  · omega
theorem anE_ok {k m d o w c y : Int} (h : wfA k m d o w c = true) (g : inG y = true) : anE k m d o w c y = 0 := by unfold anE; rw [if_pos h, if_pos g]
/-- A month and day of a common year in any year. -/
theorem anD_vld {y m d : Int} (g : inG y = true) (h : okD m d = true) : greg.vld y m d = true := by
  have b := okD_iff.1 h
  have i := inG_iff.1 g
  have l := l01_bd (greg.lp y)
  refine greg.vld_iff.2 ⟨by omega, by omega, b.1, ?_⟩
  have e := dim_lp (greg.lp y) m
  omega
theorem num_doy {y m d : Int} (h : okD m d = true) : greg.fst y + doy m d - 1 ≤ greg.num y m d ∧ greg.num y m d ≤ greg.fst y + doy m d - 1 + l01 (greg.lp y) := by
  have b := okD_bd h
  have l := l01_bd (greg.lp y)
  unfold Cal.num doy cum
  have e : l01 false = 0 := rfl
  split <;> omega
theorem mar_doy (y : Int) : marN 2 y = greg.fst y + 79 + l01 (greg.lp y) := by
  show greg.num y 3 21 = _
  unfold Cal.num cum
  rw [if_neg (by decide)]; omega
theorem nth_bd {n w c : Int} : (0 < c → n + 7 * (c - 1) ≤ nth n w c ∧ nth n w c ≤ n + 6 + 7 * (c - 1)) ∧ (c < 0 → n - 6 + 7 * (c + 1) ≤ nth n w c ∧ nth n w c ≤ n + 7 * (c + 1)) := by
  refine ⟨fun h => ?_, fun h => ?_⟩
  · rw [nth_pos h]; have := aft_bd (n := n) (w := w); omega
  · rw [nth_neg h]; have := bef_bd (n := n) (w := w); omega
/-- The day lies in the year. -/
theorem an_in {k m d o w c y : Int} (h : anE k m d o w c y = 0) : greg.fst y ≤ anD k m d o w c y ∧ anD k m d o w c y < greg.fst (y + 1) := by
  obtain ⟨hw, g⟩ := anE_zero h
  have i := inG_iff.1 g
  have st := greg.step y (by omega)
  have l := l01_bd (greg.lp y)
  rw [st]
  rcases wfA_kind hw with rfl | rfl | rfl
  · obtain ⟨hd, rfl, rfl, rfl⟩ := wfA_fixed.1 hw
    have b := greg.num_bd (anD_vld g hd)
    rw [st] at b
    unfold anD; rw [if_neg (by decide), if_neg (by decide)]; exact b
  · obtain ⟨rfl, rfl, rfl, rfl, o1, o2⟩ := wfA_pas.1 hw
    unfold anD; rw [if_pos rfl]
    have e := eaO_bd 2 y
    have f := mar_doy y
    unfold eaN; omega
  · obtain ⟨hd, rfl, hw2, hc⟩ := wfA_nth.1 hw
    unfold anD; rw [if_neg (by decide), if_pos rfl]
    have a := num_doy (y := y) hd
    have b := nth_bd (n := greg.num y m d) (w := w) (c := c)
    have dd := doy_bd hd
    rcases nthB_iff.1 hc with ⟨c1, c2, c3⟩ | ⟨c1, c2, c3⟩
    · have := b.1 (by omega); omega
    · have := b.2 (by omega); omega
/-- It has a date, in the year. -/
theorem an_date {k m d o w c y : Int} (h : anE k m d o w c y = 0) : InD greg (anD k m d o w c y) ∧ fE 2 (anD k m d o w c y) = 0 := by
  have a := an_in h
  have i := inG_iff.1 (anE_zero h).2
  have e1 := greg.fst_mono 1 y (by omega) (by omega)
  have e2 := greg.fst_mono (y + 1) 1000000001 (by omega) (by omega)
  have hI : InD greg (anD k m d o w c y) := ⟨by omega, by omega⟩
  refine ⟨hI, ?_⟩
  unfold fE; rw [if_pos (by decide : okC 2 = true), calOf2, if_pos hI]
theorem an_bd {k m d o w c y : Int} (h : anE k m d o w c y = 0) : 1 ≤ anD k m d o w c y ∧ anD k m d o w c y ≤ 365249999998 := by
  have a := an_in h
  have i := inG_iff.1 (anE_zero h).2
  have e1 := greg.fst_mono 1 y (by omega) (by omega)
  have b := InD_bd (c := 2) (an_date h).1
  have e3 : greg.fst 1 = 1 := by decide
  omega
theorem nthB_ne {n c : Int} (h : nthB n c = true) : c ≠ 0 ∧ cOk c = true := by
  have := nthB_iff.1 h
  refine ⟨by omega, cOk_iff.2 ⟨by omega, by omega, by omega⟩⟩
end Go.Proofs.Ytnofmlkjagdklaa

namespace Go.Proofs.Ytnofmlkjagdklaa
open Go.RowKit

abbrev ancv (k m d o w c : Int) : Value := .agg #[.int .i64 k, .int .i64 m, .int .i64 d, .int .i64 o, .int .i64 w, .int .i64 c]
abbrev ancO (k m d o w c : Int) : Obj := .cells #[.int .i64 k, .int .i64 m, .int .i64 d, .int .i64 o, .int .i64 w, .int .i64 c] 55 (0, 0)
theorem ret_i16 {a b : Int} (h : a = b) : Ending.returned (.int .i64 a) = .returned (.int .i64 b) := by rw [h]
section
variable (k m d o w c y : Int) (W : World)
theorem r16ofy (h : okD m d = true) : Calls Try.prog 53 #[.int .i64 m, .int .i64 d] W fun e w' => e = .returned (.int .i64 (doy m d)) ∧ Below W.heap.size W w' := by
  have hv : greg.vld 2001 m d = true := anD_vld (y := 2001) (by decide) h
  have HT : ∀ w, Calls Try.prog 49 #[dtv 2001 m d] w fun e w' => e = .returned (numv (greg.fst 2001 + doy m d - 1) 0) ∧ Below w.heap.size w w' := fun w => by
    have := sday_all 2001 m d w
    rw [(dE_at hv).1, (dE_at hv).2, show greg.num 2001 m d = greg.fst 2001 + doy m d - 1 by unfold Cal.num doy; rw [show greg.lp 2001 = false by decide]; omega] at this
    exact this
  have HF := fun w => sfirst_in 2001 w (by decide) (by decide)
  rw [show greg.fst 2001 = 730486 by decide] at HT
  rw [show gfst 2001 = 730486 by decide] at HF
  have b := doy_bd h
  generalize doy m d = n at *
  have n1 := b.1
  have n2 := b.2
  clear b hv h
  have e1 : 730486 + n - 1 - 730486 + 1 = n := by omega
  have S0 := Lib.hid (Below.refl W.heap.size W)
  go_enter Try.func53, Try.ntmps53
  go_wp2_with fail
  refine (HT _).mono ?_
  rintro e w1 ⟨rfl, hb1⟩
  have S1 := Lib.hid (below_on S0.out hb1)
  clear hb1
  go_wp2_with fail
  refine (HF _).mono ?_
  rintro e wq ⟨rfl, rfl⟩
  go_wp2_with fail
  go_ret
  exact ⟨ret_i16 (by omega), S1.out⟩
theorem r16ck_2 (b : Bool) (hb : ((m == 0) = false ∧ b = false) ∨ (m = 0 ∧ (d == 0) = false ∧ b = false) ∨ (m = 0 ∧ d = 0 ∧ (w == 0) = false ∧ b = false) ∨ (m = 0 ∧ d = 0 ∧ w = 0 ∧ (c == 0) = false ∧ b = false) ∨ (m = 0 ∧ d = 0 ∧ w = 0 ∧ c = 0 ∧ decide (-80 ≤ o) = false ∧ b = false) ∨ (m = 0 ∧ d = 0 ∧ w = 0 ∧ c = 0 ∧ decide (-80 ≤ o) = true ∧ decide (o ≤ 250) = b)) :
    Calls Try.prog 46 #[ancv 2 m d o w c] W fun e w' => e = .returned (.bool b) ∧ Below W.heap.size W w' := by
  rcases hb with ⟨h1, rfl⟩ | ⟨rfl, h1, rfl⟩ | ⟨rfl, rfl, h1, rfl⟩ | ⟨rfl, rfl, rfl, h1, rfl⟩ | ⟨rfl, rfl, rfl, rfl, h1, rfl⟩ | ⟨rfl, rfl, rfl, rfl, h1, h2⟩
  all_goals
    go_enter Try.func46, Try.ntmps46
    go_wp2
    go_ret
    exact ⟨rfl, (Below.refl _ _).alloc (Nat.le_refl _) _⟩
theorem r16ck_a (e b : Bool) (hk : (k == 2) = false) (HE : ∀ u, Calls Try.prog 52 #[.int .i64 m, .int .i64 d] u fun r w' => r = .returned (.bool e) ∧ u = w')
    (hb : (e = false ∧ b = false) ∨ (e = true ∧ (o != 0) = true ∧ b = false) ∨ (e = true ∧ o = 0 ∧ k = 1 ∧ (w == 0) = false ∧ b = false) ∨ (e = true ∧ o = 0 ∧ k = 1 ∧ w = 0 ∧ (c == 0) = b)) :
    Calls Try.prog 46 #[ancv k m d o w c] W fun e w' => e = .returned (.bool b) ∧ Below W.heap.size W w' := by
  rcases hb with ⟨rfl, rfl⟩ | ⟨rfl, h1, rfl⟩ | ⟨rfl, rfl, rfl, h1, rfl⟩ | ⟨rfl, rfl, rfl, rfl, h1⟩
  all_goals
    go_enter Try.func46, Try.ntmps46
    go_wp2_with fail
    refine (HE _).mono ?_
    rintro r wq ⟨rfl, rfl⟩
    go_wp2_with fail
    go_ret
    exact ⟨rfl, (Below.refl _ _).alloc (Nat.le_refl _) _⟩
theorem r16ck_b (n : Int) (b : Bool) (n1 : 1 ≤ n) (n2 : n ≤ 365) (hk : (k == 2) = false) (hk1 : (k == 1) = false) (HE : ∀ u, Calls Try.prog 52 #[.int .i64 m, .int .i64 d] u fun r w' => r = .returned (.bool true) ∧ u = w')
    (HO : ∀ u, Calls Try.prog 53 #[.int .i64 m, .int .i64 d] u fun r w' => r = .returned (.int .i64 n) ∧ Below u.heap.size u w')
    (hb : ((k != 3) = true ∧ b = false) ∨ (k = 3 ∧ decide (w < 0) = true ∧ b = false) ∨ (k = 3 ∧ decide (w < 0) = false ∧ decide (6 < w) = true ∧ b = false) ∨
      (k = 3 ∧ decide (w < 0) = false ∧ decide (6 < w) = false ∧ decide (1 ≤ c) = true ∧ decide (c ≤ 8) = true ∧ 1 ≤ c ∧ c ≤ 8 ∧ decide (n + 6 + 7 * (c - 1) ≤ 365) = b) ∨
      (k = 3 ∧ decide (w < 0) = false ∧ decide (6 < w) = false ∧ decide (1 ≤ c) = true ∧ decide (c ≤ 8) = false ∧ decide (c ≤ -1) = false ∧ b = false) ∨
      (k = 3 ∧ decide (w < 0) = false ∧ decide (6 < w) = false ∧ decide (1 ≤ c) = false ∧ decide (c ≤ -1) = false ∧ b = false) ∨
      (k = 3 ∧ decide (w < 0) = false ∧ decide (6 < w) = false ∧ decide (1 ≤ c) = false ∧ decide (c ≤ -1) = true ∧ decide (-8 ≤ c) = false ∧ b = false) ∨
      (k = 3 ∧ decide (w < 0) = false ∧ decide (6 < w) = false ∧ decide (1 ≤ c) = false ∧ decide (c ≤ -1) = true ∧ decide (-8 ≤ c) = true ∧ c ≤ -1 ∧ -8 ≤ c ∧ decide (1 ≤ n - 6 - 7 * (-c - 1)) = b)) :
    Calls Try.prog 46 #[ancv k m d 0 w c] W fun e w' => e = .returned (.bool b) ∧ Below W.heap.size W w' := by
  rcases hb with ⟨h1, rfl⟩ | ⟨rfl, h1, rfl⟩ | ⟨rfl, h1, h2, rfl⟩ | ⟨rfl, h1, h2, h3, h4, c1, c2, h5⟩ | ⟨rfl, h1, h2, h3, h4, h5, rfl⟩ | ⟨rfl, h1, h2, h3, h4, rfl⟩ | ⟨rfl, h1, h2, h3, h4, h5, rfl⟩ | ⟨rfl, h1, h2, h3, h4, h5, c1, c2, h6⟩
  all_goals
    have S0 := Lib.hid (Below.refl W.heap.size W)
    go_enter Try.func46, Try.ntmps46
    go_wp2_with fail
    refine (HE _).mono ?_
    rintro r wq ⟨rfl, rfl⟩
    go_wp2_with fail
    refine (HO _).mono ?_
    rintro r w1 ⟨rfl, hb1⟩
    have R1 := Lib.hid (row_on (heap_alloc_new _ _) hb1)
    obtain ⟨c0, c1, c2, c3, c4, c5, g0, g1, g2, g3, g4, g5, z⟩ := row6 R1.out
    have S1 := Lib.hid (below_on (S0.out.alloc (Nat.le_refl _) _) hb1)
    clear hb1
    go_wp2_with fail
    go_ret
    exact ⟨rfl, S1.out⟩
theorem r16ck_any : Calls Try.prog 46 #[ancv k m d o w c] W fun e w' => e = .returned (.bool (wfA k m d o w c)) ∧ Below W.heap.size W w' := by
  have HE := fun u => rex_any m d u
  by_cases k2 : k = 2
  · subst k2
    refine r16ck_2 m d o w c W _ ?_
    unfold wfA
    rw [if_pos rfl]
    by_cases h1 : m = 0
    · by_cases h2 : d = 0
      · by_cases h3 : w = 0
        · by_cases h4 : c = 0
          · by_cases h5 : -80 ≤ o
            · exact .inr (.inr (.inr (.inr (.inr ⟨h1, h2, h3, h4, decide_eq_true h5, by simp [h1, h2, h3, h4, h5]⟩))))
            · exact .inr (.inr (.inr (.inr (.inl ⟨h1, h2, h3, h4, decide_eq_false h5, by simp [h5]⟩))))
          · exact .inr (.inr (.inr (.inl ⟨h1, h2, h3, beq_eq_false_iff_ne.2 h4, by simp [h4]⟩)))
        · exact .inr (.inr (.inl ⟨h1, h2, beq_eq_false_iff_ne.2 h3, by simp [h3]⟩))
      · exact .inr (.inl ⟨h1, beq_eq_false_iff_ne.2 h2, by simp [h2]⟩)
    · exact .inl ⟨beq_eq_false_iff_ne.2 h1, by simp [h1]⟩
  · have hk := beq_eq_false_iff_ne.2 k2
    cases he : okD m d
    · rw [he] at HE
      refine r16ck_a k m d o w c W _ _ hk HE (.inl ⟨rfl, ?_⟩)
      unfold wfA; rw [if_neg k2, if_neg (by rw [he]; simp)]
    · rw [he] at HE
      by_cases ho : o = 0
      · subst ho
        by_cases k1 : k = 1
        · refine r16ck_a k m d 0 w c W _ _ hk HE ?_
          unfold wfA; rw [if_neg k2, if_pos ⟨he, rfl⟩, if_pos k1]
          by_cases h1 : w = 0
          · refine .inr (.inr (.inr ⟨rfl, rfl, k1, h1, ?_⟩))
            rw [decide_eq_true h1, Bool.true_and]; rfl
          · exact .inr (.inr (.inl ⟨rfl, rfl, k1, beq_eq_false_iff_ne.2 h1, by rw [decide_eq_false h1]; rfl⟩))
        · have b := doy_bd he
          refine r16ck_b k m d w c W (doy m d) _ b.1 b.2 hk (beq_eq_false_iff_ne.2 k1) HE (fun u => r16ofy m d u he) ?_
          unfold wfA; rw [if_neg k2, if_pos ⟨he, rfl⟩, if_neg k1]
          by_cases k3 : k = 3
          · rw [if_pos k3]
            right
            by_cases w1 : w < 0
            · exact .inl ⟨k3, decide_eq_true w1, by rw [show inW w = false by unfold inW; simp; omega]; rfl⟩
            · right
              by_cases w2 : 6 < w
              · exact .inl ⟨k3, decide_eq_false w1, decide_eq_true w2, by rw [show inW w = false by unfold inW; simp; omega]; rfl⟩
              · right
                rw [show inW w = true by rw [inW_iff]; omega, Bool.true_and]
                unfold nthB
                by_cases c1 : 1 ≤ c
                · by_cases c2 : c ≤ 8
                  · exact .inl ⟨k3, decide_eq_false w1, decide_eq_false w2, decide_eq_true c1, decide_eq_true c2, c1, c2, by rw [if_pos ⟨c1, c2⟩]⟩
                  · exact .inr (.inl ⟨k3, decide_eq_false w1, decide_eq_false w2, decide_eq_true c1, decide_eq_false c2, decide_eq_false (by omega), by rw [if_neg (by omega), if_neg (by omega)]⟩)
                · right; right
                  by_cases c2 : c ≤ -1
                  · right
                    by_cases c3 : -8 ≤ c
                    · exact .inr ⟨k3, decide_eq_false w1, decide_eq_false w2, decide_eq_false c1, decide_eq_true c2, decide_eq_true c3, c2, c3, by rw [if_neg (by omega), if_pos ⟨c3, c2⟩]⟩
                    · exact .inl ⟨k3, decide_eq_false w1, decide_eq_false w2, decide_eq_false c1, decide_eq_true c2, decide_eq_false c3, by rw [if_neg (by omega), if_neg (by omega)]⟩
                  · exact .inl ⟨k3, decide_eq_false w1, decide_eq_false w2, decide_eq_false c1, decide_eq_false c2, by rw [if_neg (by omega), if_neg (by omega)]⟩
          · rw [if_neg k3]; exact .inl ⟨bne_iff_ne.2 k3, rfl⟩
      · refine r16ck_a k m d o w c W _ _ hk HE (.inr (.inl ⟨rfl, bne_iff_ne.2 ho, ?_⟩))
        unfold wfA; rw [if_neg k2, if_neg (by simp [ho])]
abbrev AnO (W : World) (o : Int) (u : World) : Prop := u.cell? ⟨W.heap.size, 3, none⟩ = some (.int .i64 o) ∧ PT u ∧ Below W.heap.size W u
theorem AnO.on {W : World} {o : Int} {u u' : World} (h : AnO W o u) (hb : Below u.heap.size u u') : AnO W o u' := by
  have hz := World.block_lt_of_cell? u _ h.1
  exact ⟨by rw [(bcell hb).1 _ _ hz]; exact h.1, h.2.1.on hb, below_on h.2.2 hb⟩
theorem r16day_2 (n : Int) (n1 : 0 ≤ n) (n2 : n ≤ 365250000033) (o1 : -80 ≤ o) (o2 : o ≤ 250) (HD : ∀ u, PT u → Calls Try.prog 48 #[.int .i64 2, .int .i64 y] u fun e w' => e = .returned (.int .i64 n) ∧ Below u.heap.size u w') (ht : PT W) :
    Calls Try.prog 41 #[ancv 2 m d o w c, .int .i64 y] W fun e w' => e = .returned (.int .i64 (n + o)) ∧ Below W.heap.size W w' := by
  have HA := Lib.hid (fun u (hu : AnO W o u) => (HD u hu.2.1).mono (R' := fun e u' => e = .returned (.int .i64 n) ∧ AnO W o u') fun e u' ⟨he, hq⟩ => ⟨he, hu.on hq⟩)
  have H0 : AnO W o (W.alloc (ancO 2 m d o w c)) := ⟨(row6 (heap_alloc_new W (ancO 2 m d o w c))).2.2.2.1, ht.al _, (Below.refl _ _).alloc (Nat.le_refl _) _⟩
  have H1 := Lib.hid (H0.on (below_dn (Below.refl _ _) 1))
  have hw : IntKind.i64.wrap (n + o) = n + o := by rw [IntKind.wrap_i64]; omega
  have hw' := Lib.hid hw
  clear HD H0 ht hw
  go_enter Try.func41, Try.ntmps41
  go_wp2_with fail
  go_region_held3 (fun u => u.cell? ⟨W.heap.size, 3, none⟩ = some (.int .i64 o) ∧ PT u ∧ Below W.heap.size W u)
    (first | exact H1.out | assumption)
    (first | (go_at_call 48; refine (HA.out _ (by assumption)).mono ?_; rintro e1 w1 ⟨rfl, hs1⟩))
  go_wp2_with fail
  go_ret
  exact ⟨congrArg (fun z => Ending.returned (.int .i64 z)) hw'.out, hs1.2.2⟩
theorem r16day_1 (n g : Int) (hk : (k == 2) = false) (hk3 : (k == 3) = false) (HT : ∀ u, Calls Try.prog 49 #[dtv y m d] u fun e w' => e = .returned (numv n g) ∧ Below u.heap.size u w') :
    Calls Try.prog 41 #[ancv k m d o w c, .int .i64 y] W fun e w' => e = .returned (.int .i64 n) ∧ Below W.heap.size W w' := by
  have S0 := Lib.hid (Below.refl W.heap.size W)
  go_enter Try.func41, Try.ntmps41
  go_wp2_with fail
  refine (HT _).mono ?_
  rintro e w1 ⟨rfl, hb1⟩
  have R1 := Lib.hid (row_on (heap_alloc_new _ _) hb1)
  obtain ⟨c0, c1, c2, c3, c4, c5, g0, g1, g2, g3, g4, g5, z⟩ := row6 R1.out
  have S1 := Lib.hid (below_on (S0.out.alloc (Nat.le_refl _) _) hb1)
  clear hb1
  go_wp2_with fail
  go_ret
  exact ⟨rfl, S1.out⟩
theorem r16day_3 (n g r h : Int) (HT : ∀ u, Calls Try.prog 49 #[dtv y m d] u fun e w' => e = .returned (numv n g) ∧ Below u.heap.size u w') (HN : ∀ u, Calls Try.prog 50 #[.int .i64 n, .int .i64 w, .int .i64 c] u fun e w' => e = .returned (numv r h) ∧ u = w') :
    Calls Try.prog 41 #[ancv 3 m d o w c, .int .i64 y] W fun e w' => e = .returned (.int .i64 r) ∧ Below W.heap.size W w' := by
  have S0 := Lib.hid (Below.refl W.heap.size W)
  go_enter Try.func41, Try.ntmps41
  go_wp2_with fail
  refine (HT _).mono ?_
  rintro e w1 ⟨rfl, hb1⟩
  have R1 := Lib.hid (row_on (heap_alloc_new _ _) hb1)
  obtain ⟨c0, c1, c2, c3, c4, c5, g0, g1, g2, g3, g4, g5, z⟩ := row6 R1.out
  have S1 := Lib.hid (below_on (S0.out.alloc (Nat.le_refl _) _) hb1)
  clear hb1
  go_wp2_with fail
  refine (HN _).mono ?_
  rintro e wq ⟨rfl, rfl⟩
  go_wp2_with fail
  go_ret
  exact ⟨rfl, S1.out⟩
theorem r16day_any (h : anE k m d o w c y = 0) (ht : PT W) : Calls Try.prog 41 #[ancv k m d o w c, .int .i64 y] W fun e w' => e = .returned (.int .i64 (anD k m d o w c y)) ∧ Below W.heap.size W w' := by
  obtain ⟨hw, g⟩ := anE_zero h
  rcases wfA_kind hw with rfl | rfl | rfl
  · obtain ⟨hd, rfl, rfl, rfl⟩ := wfA_fixed.1 hw
    have HT := fun u => sday_all y m d u
    rw [(dE_at (anD_vld g hd)).2] at HT
    unfold anD; rw [if_neg (by decide), if_neg (by decide)]
    exact r16day_1 1 m d 0 0 0 y W _ _ rfl rfl HT
  · obtain ⟨rfl, rfl, rfl, rfl, o1, o2⟩ := wfA_pas.1 hw
    have e : epE 2 y = 0 := by show (if inG y = true then (0 : Int) else 1) = 0; rw [if_pos g]
    have b := eaN_bd e
    unfold anD; rw [if_pos rfl]
    exact r16day_2 0 0 o 0 0 y W _ b.1 b.2 o1 o2 (fun u hu => r10day_any 2 y u e hu) ht
  · obtain ⟨hd, rfl, hw2, hc⟩ := wfA_nth.1 hw
    have HT := fun u => sday_all y m d u
    have hv := anD_vld g hd
    rw [(dE_at hv).2] at HT
    have HN := fun u => rnth_any (greg.num y m d) w c u
    have hI := greg.num_range hv
    have hb := InD_bd (c := 2) hI
    have hn : nOk (greg.num y m d) w c = true := by unfold nOk; rw [(nthB_ne hc).2, wOk_iff.2 ⟨inW_iff.1 hw2, by omega⟩]; rfl
    rw [hn, show ifb true (nth (greg.num y m d) w c) = nth (greg.num y m d) w c from rfl] at HN
    unfold anD; rw [if_neg (by decide), if_pos rfl]
    exact r16day_3 m d 0 w c y W _ _ _ _ HT HN
end
end Go.Proofs.Ytnofmlkjagdklaa

namespace Go.Proofs.Ytnofmlkjagdklaa
open Go.RowKit

abbrev W1 (x : Int) : Prop := -9223372036854775808 ≤ x ∧ x ≤ 9223372036854775807
/-- A struct of six cells in memory, the tables, what was. -/
structure AnR (W : World) (b : Nat) (k m d o w c : Int) (u : World) : Prop where
  r : u.heap[b]? = some (ancO k m d o w c)
  t : PT u
  b : Below W.heap.size W u
theorem AnR.on {W u u' : World} {b : Nat} {k m d o w c : Int} (h : AnR W b k m d o w c u) (hb : Below u.heap.size u u') : AnR W b k m d o w c u' := ⟨row_on h.r hb, h.t.on hb, below_on h.b hb⟩
abbrev AnC (W : World) (b : Nat) (k m d o w c : Int) (u : World) : Prop := u.cell? ⟨b, 0, none⟩ = some (.int .i64 k) ∧ u.cell? ⟨b, 1, none⟩ = some (.int .i64 m) ∧ u.cell? ⟨b, 2, none⟩ = some (.int .i64 d) ∧ u.cell? ⟨b, 3, none⟩ = some (.int .i64 o) ∧ u.cell? ⟨b, 4, none⟩ = some (.int .i64 w) ∧ u.cell? ⟨b, 5, none⟩ = some (.int .i64 c) ∧ PT u ∧ Below W.heap.size W u
theorem AnR.c {W u : World} {b : Nat} {k m d o w c : Int} (h : AnR W b k m d o w c u) : AnC W b k m d o w c u := by
  obtain ⟨c0, c1, c2, c3, c4, c5, _⟩ := row6 h.r
  exact ⟨c0, c1, c2, c3, c4, c5, h.t, h.b⟩
theorem AnC.on {W u u' : World} {b : Nat} {k m d o w c : Int} (h : AnC W b k m d o w c u) (hb : Below u.heap.size u u') : AnC W b k m d o w c u' := by
  have hz := World.block_lt_of_cell? u _ h.1
  have e := (bcell hb).1
  exact ⟨by rw [e _ _ hz]; exact h.1, by rw [e _ _ hz]; exact h.2.1, by rw [e _ _ hz]; exact h.2.2.1, by rw [e _ _ hz]; exact h.2.2.2.1, by rw [e _ _ hz]; exact h.2.2.2.2.1, by rw [e _ _ hz]; exact h.2.2.2.2.2.1, h.2.2.2.2.2.2.1.on hb, below_on h.2.2.2.2.2.2.2 hb⟩
end Go.Proofs.Ytnofmlkjagdklaa
