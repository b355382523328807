/- What earlier stages proved: Qa Qb Qc. -/
import Derived.Test.YtiegddohgjofbaaKl
import Derived.Test.YtiegddohgjofbaaKs
import Derived.Test.YtiegddohgjofbaaKw
import Derived.Test.YtiegddohgjofbaaKt
import Derived.LoopTactic
import Derived.Deep.RegionHeld3
namespace Go.Proofs.Ytiegddohgjofbaa

/-- The bounds of the kind Nth, for the day n of a common year. -/
def nthB (n c : Int) : Bool := if 1 ≤ c ∧ c ≤ 8 then decide (n + 6 + 7 * (c - 1) ≤ 365) else if -8 ≤ c ∧ c ≤ -1 then decide (1 ≤ n - 6 - 7 * (-c - 1)) else false
/-- Is the anchor (Kind, Month, Day, Offset, Weekday, Count) well-formed? -/
def wfA (k m d o w c : Int) : Bool :=
  if k = 2 then decide (m = 0) && (decide (d = 0) && (decide (w = 0) && (decide (c = 0) && (decide (-80 ≤ o) && decide (o ≤ 250)))))
  else if okD m d = true ∧ o = 0 then (if k = 1 then decide (w = 0) && decide (c = 0) else if k = 3 then inW w && nthB (doy m d) c else false)
  else false
def anD (k m d o w c y : Int) : Int := if k = 2 then eaN 2 y + o else if k = 3 then nth (greg.num y m d) w c else greg.num y m d
/-- A month and day of a common year in any year. -/
theorem anD_vld {y m d : Int} (g : inG y = true) (h : okD m d = true) : greg.vld y m d = true := by
  have b := okD_iff.1 h
  have i := inG_iff.1 g
  have l := l01_bd (greg.lp y)
  refine greg.vld_iff.2 ⟨by omega, by omega, b.1, ?_⟩
  have e := dim_lp (greg.lp y) m
  omega
end Go.Proofs.Ytiegddohgjofbaa

namespace Go.Proofs.Ytiegddohgjofbaa
open Go.RowKit

abbrev ancv (k m d o w c : Int) : Value := .agg #[.int .i64 k, .int .i64 m, .int .i64 d, .int .i64 o, .int .i64 w, .int .i64 c]
abbrev ancO (k m d o w c : Int) : Obj := .cells #[.int .i64 k, .int .i64 m, .int .i64 d, .int .i64 o, .int .i64 w, .int .i64 c] 31 (0, 0)
theorem ret_i16 {a b : Int} (h : a = b) : Ending.returned (.int .i64 a) = .returned (.int .i64 b) := by rw [h]
section
variable (k m d o w c y : Int) (W : World)
theorem r16ofy (h : okD m d = true) : Calls Try.prog 29 #[.int .i64 m, .int .i64 d] W fun e w' => e = .returned (.int .i64 (doy m d)) ∧ Below W.heap.size W w' := by
  have hv : greg.vld 2001 m d = true := anD_vld (y := 2001) (by decide) h
  have HT : ∀ w, Calls Try.prog 31 #[dtv 2001 m d] w fun e w' => e = .returned (numv (greg.fst 2001 + doy m d - 1) 0) ∧ Below w.heap.size w w' := fun w => by
    have := sday_all 2001 m d w
    rw [(dE_at hv).1, (dE_at hv).2, show greg.num 2001 m d = greg.fst 2001 + doy m d - 1 by unfold Cal.num doy; rw [show greg.lp 2001 = false by decide]; omega] at this
    exact this
  have HF := fun w => sfirst_in 2001 w (by decide) (by decide)
  rw [show greg.fst 2001 = 730486 by decide] at HT
  rw [show gfst 2001 = 730486 by decide] at HF
  have b := doy_bd h
  generalize doy m d = n at *
  have n1 := b.1
  have n2 := b.2
  clear b hv h
  have e1 : 730486 + n - 1 - 730486 + 1 = n := by omega
  have S0 := Lib.hid (Below.refl W.heap.size W)
  go_enter Try.func29, Try.ntmps29
  go_wp2_with fail
  refine (HT _).mono ?_
  rintro e w1 ⟨rfl, hb1⟩
  have S1 := Lib.hid (below_on S0.out hb1)
  clear hb1
  go_wp2_with fail
  refine (HF _).mono ?_
  rintro e wq ⟨rfl, rfl⟩
  go_wp2_with fail
  go_ret
  exact ⟨ret_i16 (by omega), S1.out⟩
theorem r16ck_2 (b : Bool) (hb : ((m == 0) = false ∧ b = false) ∨ (m = 0 ∧ (d == 0) = false ∧ b = false) ∨ (m = 0 ∧ d = 0 ∧ (w == 0) = false ∧ b = false) ∨ (m = 0 ∧ d = 0 ∧ w = 0 ∧ (c == 0) = false ∧ b = false) ∨ (m = 0 ∧ d = 0 ∧ w = 0 ∧ c = 0 ∧ decide (-80 ≤ o) = false ∧ b = false) ∨ (m = 0 ∧ d = 0 ∧ w = 0 ∧ c = 0 ∧ decide (-80 ≤ o) = true ∧ decide (o ≤ 250) = b)) :
    Calls Try.prog 27 #[ancv 2 m d o w c] W fun e w' => e = .returned (.bool b) ∧ Below W.heap.size W w' := by
  rcases hb with ⟨h1, rfl⟩ | ⟨rfl, h1, rfl⟩ | ⟨rfl, rfl, h1, rfl⟩ | ⟨rfl, rfl, rfl, h1, rfl⟩ | ⟨rfl, rfl, rfl, rfl, h1, rfl⟩ | ⟨rfl, rfl, rfl, rfl, h1, h2⟩
  all_goals
    go_enter Try.func27, Try.ntmps27
    go_wp2
    go_ret
    exact ⟨rfl, (Below.refl _ _).alloc (Nat.le_refl _) _⟩
theorem r16ck_a (e b : Bool) (hk : (k == 2) = false) (HE : ∀ u, Calls Try.prog 28 #[.int .i64 m, .int .i64 d] u fun r w' => r = .returned (.bool e) ∧ u = w')
    (hb : (e = false ∧ b = false) ∨ (e = true ∧ (o != 0) = true ∧ b = false) ∨ (e = true ∧ o = 0 ∧ k = 1 ∧ (w == 0) = false ∧ b = false) ∨ (e = true ∧ o = 0 ∧ k = 1 ∧ w = 0 ∧ (c == 0) = b)) :
    Calls Try.prog 27 #[ancv k m d o w c] W fun e w' => e = .returned (.bool b) ∧ Below W.heap.size W w' := by
  rcases hb with ⟨rfl, rfl⟩ | ⟨rfl, h1, rfl⟩ | ⟨rfl, rfl, rfl, h1, rfl⟩ | ⟨rfl, rfl, rfl, rfl, h1⟩
  all_goals
    go_enter Try.func27, Try.ntmps27
    go_wp2_with fail
    refine (HE _).mono ?_
    rintro r wq ⟨rfl, rfl⟩
    go_wp2_with fail
    go_ret
    exact ⟨rfl, (Below.refl _ _).alloc (Nat.le_refl _) _⟩
theorem r16ck_b (n : Int) (b : Bool) (n1 : 1 ≤ n) (n2 : n ≤ 365) (hk : (k == 2) = false) (hk1 : (k == 1) = false) (HE : ∀ u, Calls Try.prog 28 #[.int .i64 m, .int .i64 d] u fun r w' => r = .returned (.bool true) ∧ u = w')
    (HO : ∀ u, Calls Try.prog 29 #[.int .i64 m, .int .i64 d] u fun r w' => r = .returned (.int .i64 n) ∧ Below u.heap.size u w')
    (hb : ((k != 3) = true ∧ b = false) ∨ (k = 3 ∧ decide (w < 0) = true ∧ b = false) ∨ (k = 3 ∧ decide (w < 0) = false ∧ decide (6 < w) = true ∧ b = false) ∨
      (k = 3 ∧ decide (w < 0) = false ∧ decide (6 < w) = false ∧ decide (1 ≤ c) = true ∧ decide (c ≤ 8) = true ∧ 1 ≤ c ∧ c ≤ 8 ∧ decide (n + 6 + 7 * (c - 1) ≤ 365) = b) ∨
      (k = 3 ∧ decide (w < 0) = false ∧ decide (6 < w) = false ∧ decide (1 ≤ c) = true ∧ decide (c ≤ 8) = false ∧ decide (c ≤ -1) = false ∧ b = false) ∨
      (k = 3 ∧ decide (w < 0) = false ∧ decide (6 < w) = false ∧ decide (1 ≤ c) = false ∧ decide (c ≤ -1) = false ∧ b = false) ∨
      (k = 3 ∧ decide (w < 0) = false ∧ decide (6 < w) = false ∧ decide (1 ≤ c) = false ∧ decide (c ≤ -1) = true ∧ decide (-8 ≤ c) = false ∧ b = false) ∨
      (k = 3 ∧ decide (w < 0) = false ∧ decide (6 < w) = false ∧ decide (1 ≤ c) = false ∧ decide (c ≤ -1) = true ∧ decide (-8 ≤ c) = true ∧ c ≤ -1 ∧ -8 ≤ c ∧ decide (1 ≤ n - 6 - 7 * (-c - 1)) = b)) :
    Calls Try.prog 27 #[ancv k m d 0 w c] W fun e w' => e = .returned (.bool b) ∧ Below W.heap.size W w' := by
  rcases hb with ⟨h1, rfl⟩ | ⟨rfl, h1, rfl⟩ | ⟨rfl, h1, h2, rfl⟩ | ⟨rfl, h1, h2, h3, h4, c1, c2, h5⟩ | ⟨rfl, h1, h2, h3, h4, h5, rfl⟩ | ⟨rfl, h1, h2, h3, h4, rfl⟩ | ⟨rfl, h1, h2, h3, h4, h5, rfl⟩ | ⟨rfl, h1, h2, h3, h4, h5, c1, c2, h6⟩
  all_goals
    have S0 := Lib.hid (Below.refl W.heap.size W)
    go_enter Try.func27, Try.ntmps27
    go_wp2_with fail
    refine (HE _).mono ?_
    rintro r wq ⟨rfl, rfl⟩
    go_wp2_with fail
    refine (HO _).mono ?_
    rintro r w1 ⟨rfl, hb1⟩
    have R1 := Lib.hid (row_on (heap_alloc_new _ _) hb1)
    obtain ⟨c0, c1, c2, c3, c4, c5, g0, g1, g2, g3, g4, g5, z⟩ := row6 R1.out
    have S1 := Lib.hid (below_on (S0.out.alloc (Nat.le_refl _) _) hb1)
    clear hb1
    go_wp2_with fail
    go_ret
    exact ⟨rfl, S1.out⟩
theorem r16ck_any : Calls Try.prog 27 #[ancv k m d o w c] W fun e w' => e = .returned (.bool (wfA k m d o w c)) ∧ Below W.heap.size W w' := by
  have HE := fun u => rex_any m d u
  by_cases k2 : k = 2
  · subst k2
    refine r16ck_2 m d o w c W _ ?_
    unfold wfA
    rw [if_pos rfl]
    by_cases h1 : m = 0
    · by_cases h2 : d = 0
      · by_cases h3 : w = 0
        · by_cases h4 : c = 0
          · by_cases h5 : -80 ≤ o
            · exact .inr (.inr (.inr (.inr (.inr ⟨h1, h2, h3, h4, decide_eq_true h5, by simp [h1, h2, h3, h4, h5]⟩))))
            · exact .inr (.inr (.inr (.inr (.inl ⟨h1, h2, h3, h4, decide_eq_false h5, by simp [h5]⟩))))
          · exact .inr (.inr (.inr (.inl ⟨h1, h2, h3, beq_eq_false_iff_ne.2 h4, by simp [h4]⟩)))
        · exact .inr (.inr (.inl ⟨h1, h2, beq_eq_false_iff_ne.2 h3, by simp [h3]⟩))
      · exact .inr (.inl ⟨h1, beq_eq_false_iff_ne.2 h2, by simp [h2]⟩)
    · exact .inl ⟨beq_eq_false_iff_ne.2 h1, by simp [h1]⟩
  · have hk := beq_eq_false_iff_ne.2 k2
    cases he : okD m d
    · rw [he] at HE
      refine r16ck_a k m d o w c W _ _ hk HE (.inl ⟨rfl, ?_⟩)
      unfold wfA; rw [if_neg k2, if_neg (by rw [he]; simp)]
    · rw [he] at HE
      by_cases ho : o = 0
      · subst ho
        by_cases k1 : k = 1
        · refine r16ck_a k m d 0 w c W _ _ hk HE ?_
          unfold wfA; rw [if_neg k2, if_pos ⟨he, rfl⟩, if_pos k1]
          by_cases h1 : w = 0
          · refine .inr (.inr (.inr ⟨rfl, rfl, k1, h1, ?_⟩))
            rw [decide_eq_true h1, Bool.true_and]; rfl
          · exact .inr (.inr (.inl ⟨rfl, rfl, k1, beq_eq_false_iff_ne.2 h1, by rw [decide_eq_false h1]; rfl⟩))
        · have b := doy_bd he
          refine r16ck_b k m d w c W (doy m d) _ b.1 b.2 hk (beq_eq_false_iff_ne.2 k1) HE (fun u => r16ofy m d u he) ?_
          unfold wfA; rw [if_neg k2, if_pos ⟨he, rfl⟩, if_neg k1]
          by_cases k3 : k = 3
          · rw [if_pos k3]
            right
            by_cases w1 : w < 0
            · exact .inl ⟨k3, decide_eq_true w1, by rw [show inW w = false by unfold inW; simp; omega]; rfl⟩
            · right
              by_cases w2 : 6 < w
              · exact .inl ⟨k3, decide_eq_false w1, decide_eq_true w2, by rw [show inW w = false by unfold inW; simp; omega]; rfl⟩
              · right
                rw [show inW w = true by rw [inW_iff]; omega, Bool.true_and]
                unfold nthB
                by_cases c1 : 1 ≤ c
                · by_cases c2 : c ≤ 8
                  · exact .inl ⟨k3, decide_eq_false w1, decide_eq_false w2, decide_eq_true c1, decide_eq_true c2, c1, c2, by rw [if_pos ⟨c1, c2⟩]⟩
                  · exact .inr (.inl ⟨k3, decide_eq_false w1, decide_eq_false w2, decide_eq_true c1, decide_eq_false c2, decide_eq_false (by omega), by rw [if_neg (by omega), if_neg (by omega)]⟩)
                · right; right
                  by_cases c2 : c ≤ -1
                  · right
                    by_cases c3 : -8 ≤ c
                    · exact .inr ⟨k3, decide_eq_false w1, decide_eq_false w2, decide_eq_false c1, decide_eq_true c2, decide_eq_true c3, c2, c3, by rw [if_neg (by omega), if_pos ⟨c3, c2⟩]⟩
                    · exact .inl ⟨k3, decide_eq_false w1, decide_eq_false w2, decide_eq_false c1, decide_eq_true c2, decide_eq_false c3, by rw [if_neg (by omega), if_neg (by omega)]⟩
                  · exact .inl ⟨k3, decide_eq_false w1, decide_eq_false w2, decide_eq_false c1, decide_eq_false c2, by rw [if_neg (by omega), if_neg (by omega)]⟩
          · rw [if_neg k3]; exact .inl ⟨bne_iff_ne.2 k3, rfl⟩
      · refine r16ck_a k m d o w c W _ _ hk HE (.inr (.inl ⟨rfl, bne_iff_ne.2 ho, ?_⟩))
        unfold wfA; rw [if_neg k2, if_neg (by simp [ho])]
abbrev AnO (W : World) (o : Int) (u : World) : Prop := u.cell? ⟨W.heap.size, 3, none⟩ = some (.int .i64 o) ∧ PT u ∧ Below W.heap.size W u
theorem AnO.on {W : World} {o : Int} {u u' : World} (h : AnO W o u) (hb : Below u.heap.size u u') : AnO W o u' := by
  have hz := World.block_lt_of_cell? u _ h.1
  exact ⟨by rw [(bcell hb).1 _ _ hz]; exact h.1, h.2.1.on hb, below_on h.2.2 hb⟩
end
end Go.Proofs.Ytiegddohgjofbaa

namespace Go.Proofs.Ytiegddohgjofbaa
open Go.RowKit

abbrev W1 (x : Int) : Prop := -9223372036854775808 ≤ x ∧ x ≤ 9223372036854775807
/-- A struct of six cells in memory, the tables, what was. -/
structure AnR (W : World) (b : Nat) (k m d o w c : Int) (u : World) : Prop where
  r : u.heap[b]? = some (ancO k m d o w c)
  t : PT u
  b : Below W.heap.size W u
theorem AnR.on {W u u' : World} {b : Nat} {k m d o w c : Int} (h : AnR W b k m d o w c u) (hb : Below u.heap.size u u') : AnR W b k m d o w c u' := ⟨row_on h.r hb, h.t.on hb, below_on h.b hb⟩
abbrev AnC (W : World) (b : Nat) (k m d o w c : Int) (u : World) : Prop := u.cell? ⟨b, 0, none⟩ = some (.int .i64 k) ∧ u.cell? ⟨b, 1, none⟩ = some (.int .i64 m) ∧ u.cell? ⟨b, 2, none⟩ = some (.int .i64 d) ∧ u.cell? ⟨b, 3, none⟩ = some (.int .i64 o) ∧ u.cell? ⟨b, 4, none⟩ = some (.int .i64 w) ∧ u.cell? ⟨b, 5, none⟩ = some (.int .i64 c) ∧ PT u ∧ Below W.heap.size W u
theorem AnR.c {W u : World} {b : Nat} {k m d o w c : Int} (h : AnR W b k m d o w c u) : AnC W b k m d o w c u := by
  obtain ⟨c0, c1, c2, c3, c4, c5, _⟩ := row6 h.r
  exact ⟨c0, c1, c2, c3, c4, c5, h.t, h.b⟩
theorem AnC.on {W u u' : World} {b : Nat} {k m d o w c : Int} (h : AnC W b k m d o w c u) (hb : Below u.heap.size u u') : AnC W b k m d o w c u' := by
  have hz := World.block_lt_of_cell? u _ h.1
  have e := (bcell hb).1
  exact ⟨by rw [e _ _ hz]; exact h.1, by rw [e _ _ hz]; exact h.2.1, by rw [e _ _ hz]; exact h.2.2.1, by rw [e _ _ hz]; exact h.2.2.2.1, by rw [e _ _ hz]; exact h.2.2.2.2.1, by rw [e _ _ hz]; exact h.2.2.2.2.2.1, h.2.2.2.2.2.2.1.on hb, below_on h.2.2.2.2.2.2.2 hb⟩
end Go.Proofs.Ytiegddohgjofbaa
