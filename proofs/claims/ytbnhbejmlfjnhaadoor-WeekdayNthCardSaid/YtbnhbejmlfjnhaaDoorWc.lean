/- The contracts of Nth, of package weekday and of its reference. -/
import Derived.Test.YtbnhbejmlfjnhaaDoorWb
namespace Go.Proofs.YtbnhbejmlfjnhaaDoor
open Go.RowKit

def cOk (c : Int) : Bool := !decide (c = 0) && (decide (-1000 ≤ c) && decide (c ≤ 1000))
theorem cOk_iff {c : Int} : cOk c = true ↔ ¬ c = 0 ∧ -1000 ≤ c ∧ c ≤ 1000 := by simp [cOk]
def nth (n w c : Int) : Int := if 0 < c then aft n w + 7 * (c - 1) else bef n w + 7 * (c + 1)
theorem nth_pos {n w c : Int} (h : 0 < c) : nth n w c = aft n w + 7 * (c - 1) := by unfold nth; rw [if_pos h]
theorem nth_neg {n w c : Int} (h : c < 0) : nth n w c = bef n w + 7 * (c + 1) := by unfold nth; rw [if_neg (by omega)]
def nOk (n w c : Int) : Bool := cOk c && wOk n w
def nErr (n w c : Int) : Int := if cOk c = true then wErr n w else 3
theorem nErr_c {n w c : Int} (h : cOk c = false) : nErr n w c = 3 := by simp [nErr, h]
theorem nErr_w {n w c : Int} (h : cOk c = true) : nErr n w c = wErr n w := by simp [nErr, h]
theorem nOk_c {n w c : Int} (h : cOk c = false) : nOk n w c = false := by simp [nOk, h]
theorem nOk_w {n w c : Int} (h : cOk c = true) : nOk n w c = wOk n w := by simp [nOk, h]

/-! the program's -/
theorem nth_c (n x c : Int) (w : World) (h : cOk c = false) :
    Calls Tryd.prog 13 #[.int .i64 n, .int .i64 x, .int .i64 c] w fun e w' => e = .returned (.tuple #[.int .i64 0, .int .i64 3]) ∧ Below w.heap.size w w' := by
  have h' : c = 0 ∨ (¬ c = 0 ∧ c < -1000) ∨ (¬ c = 0 ∧ ¬ c < -1000 ∧ 1000 < c) := by
    rcases Decidable.em (c = 0) with g | g
    · exact .inl g
    · rcases Int.lt_or_le c (-1000) with g2 | g2
      · exact .inr (.inl ⟨g, g2⟩)
      · rcases Int.lt_or_le 1000 c with g3 | g3
        · exact .inr (.inr ⟨g, by omega, g3⟩)
        · rw [cOk_iff.2 ⟨g, g2, g3⟩] at h; cases h
  clear h
  rcases h' with rfl | ⟨h1, h2⟩ | ⟨h1, h2, h3⟩
  all_goals
    go_enter Tryd.func13, Tryd.ntmps13
    go_wp2_with fail
    go_ret2
    exact ⟨rfl, Below.refl _ _⟩
theorem nth_pos_yes (n x c v : Int) (w : World) (h1 : 0 < c) (h2 : c ≤ 1000) (b1 : -1200000000000 ≤ v) (b2 : v ≤ 1200000000000)
    (H : ∀ w, Calls Tryd.prog 9 #[.int .i64 n, .int .i64 x] w fun e w' => e = .returned (.tuple #[.int .i64 v, .int .i64 0]) ∧ Below w.heap.size w w') :
    Calls Tryd.prog 13 #[.int .i64 n, .int .i64 x, .int .i64 c] w fun e w' => e = .returned (.tuple #[.int .i64 (v + 7 * (c - 1)), .int .i64 0]) ∧ Below w.heap.size w w' := by
  have e0 : (c == 0) = false := by rw [beq_eq_false_iff_ne]; omega
  go_enter Tryd.func13, Tryd.ntmps13
  go_wp2_with fail
  refine (H _).mono ?_
  rintro e w1 ⟨rfl, hb1⟩
  go_wp2_with fail
  go_ret2
  exact ⟨rfl, hb1⟩
theorem nth_pos_no (n x c E : Int) (w : World) (h1 : 0 < c) (h2 : c ≤ 1000) (hE : ¬ E = 0)
    (H : ∀ w, Calls Tryd.prog 9 #[.int .i64 n, .int .i64 x] w fun e w' => e = .returned (.tuple #[.int .i64 0, .int .i64 E]) ∧ Below w.heap.size w w') :
    Calls Tryd.prog 13 #[.int .i64 n, .int .i64 x, .int .i64 c] w fun e w' => e = .returned (.tuple #[.int .i64 0, .int .i64 E]) ∧ Below w.heap.size w w' := by
  have e0 : (c == 0) = false := by rw [beq_eq_false_iff_ne]; omega
  go_enter Tryd.func13, Tryd.ntmps13
  go_wp2_with fail
  refine (H _).mono ?_
  rintro e w1 ⟨rfl, hb1⟩
  go_wp2_with fail
  go_ret2
  exact ⟨rfl, hb1⟩
theorem nth_neg_yes (n x c v : Int) (w : World) (h1 : c < 0) (h2 : -1000 ≤ c) (b1 : -1200000000000 ≤ v) (b2 : v ≤ 1200000000000)
    (H : ∀ w, Calls Tryd.prog 11 #[.int .i64 n, .int .i64 x] w fun e w' => e = .returned (.tuple #[.int .i64 v, .int .i64 0]) ∧ Below w.heap.size w w') :
    Calls Tryd.prog 13 #[.int .i64 n, .int .i64 x, .int .i64 c] w fun e w' => e = .returned (.tuple #[.int .i64 (v + 7 * (c + 1)), .int .i64 0]) ∧ Below w.heap.size w w' := by
  have e0 : (c == 0) = false := by rw [beq_eq_false_iff_ne]; omega
  go_enter Tryd.func13, Tryd.ntmps13
  go_wp2_with fail
  refine (H _).mono ?_
  rintro e w1 ⟨rfl, hb1⟩
  go_wp2_with fail
  go_ret2
  exact ⟨rfl, hb1⟩
theorem nth_neg_no (n x c E : Int) (w : World) (h1 : c < 0) (h2 : -1000 ≤ c) (hE : ¬ E = 0)
    (H : ∀ w, Calls Tryd.prog 11 #[.int .i64 n, .int .i64 x] w fun e w' => e = .returned (.tuple #[.int .i64 0, .int .i64 E]) ∧ Below w.heap.size w w') :
    Calls Tryd.prog 13 #[.int .i64 n, .int .i64 x, .int .i64 c] w fun e w' => e = .returned (.tuple #[.int .i64 0, .int .i64 E]) ∧ Below w.heap.size w w' := by
  have e0 : (c == 0) = false := by rw [beq_eq_false_iff_ne]; omega
  go_enter Tryd.func13, Tryd.ntmps13
  go_wp2_with fail
  refine (H _).mono ?_
  rintro e w1 ⟨rfl, hb1⟩
  go_wp2_with fail
  go_ret2
  exact ⟨rfl, hb1⟩
theorem nth_any (n x c : Int) (w : World) :
    Calls Tryd.prog 13 #[.int .i64 n, .int .i64 x, .int .i64 c] w fun e w' => e = .returned (.tuple #[.int .i64 (ifb (nOk n x c) (nth n x c)), .int .i64 (nErr n x c)]) ∧ Below w.heap.size w w' := by
  cases hc : cOk c
  · rw [nErr_c hc, nOk_c hc]; exact nth_c n x c w hc
  · rw [nErr_w hc, nOk_w hc]
    obtain ⟨c0, c1, c2⟩ := cOk_iff.1 hc
    rcases Int.lt_or_gt_of_ne c0 with g | g
    · rw [nth_neg g]
      cases h : wOk n x
      · have H := fun w => bef_any n x w
        rw [h] at H
        exact nth_neg_no n x c _ w g c1 (wErr_no h) H
      · have H := fun w => bef_any n x w
        rw [h, wErr_ok h] at H
        rw [wErr_ok h]
        obtain ⟨-, n1, n2⟩ := wOk_iff.1 h
        obtain ⟨b1, b2⟩ := bef_bd (n := n) (w := x)
        exact nth_neg_yes n x c _ w g c1 (by omega) (by omega) H
    · rw [nth_pos g]
      cases h : wOk n x
      · have H := fun w => aft_any n x w
        rw [h] at H
        exact nth_pos_no n x c _ w g c2 (wErr_no h) H
      · have H := fun w => aft_any n x w
        rw [h, wErr_ok h] at H
        rw [wErr_ok h]
        obtain ⟨-, n1, n2⟩ := wOk_iff.1 h
        obtain ⟨b1, b2⟩ := aft_bd (n := n) (w := x)
        exact nth_pos_yes n x c _ w g c2 (by omega) (by omega) H

/-! the reference's -/
theorem rnth_bad (n x c : Int) (w : World) (h : (inW x && cOk c) = false) :
    Calls Tryd.prog 14 #[.int .i64 n, .int .i64 x, .int .i64 c] w fun e w' => e = .returned (.tuple #[.int .i64 0, .int .i64 3]) ∧ w = w' := by
  have h' : x < 0 ∨ (¬ x < 0 ∧ 6 < x) ∨ (¬ x < 0 ∧ ¬ 6 < x ∧ c = 0) ∨ (¬ x < 0 ∧ ¬ 6 < x ∧ ¬ c = 0 ∧ c < -1000) ∨ (¬ x < 0 ∧ ¬ 6 < x ∧ ¬ c = 0 ∧ ¬ c < -1000 ∧ 1000 < c) := by
    by_cases g1 : x < 0
    · exact .inl g1
    · by_cases g2 : 6 < x
      · exact .inr (.inl ⟨g1, g2⟩)
      · by_cases g3 : c = 0
        · exact .inr (.inr (.inl ⟨g1, g2, g3⟩))
        · by_cases g4 : c < -1000
          · exact .inr (.inr (.inr (.inl ⟨g1, g2, g3, g4⟩)))
          · by_cases g5 : 1000 < c
            · exact .inr (.inr (.inr (.inr ⟨g1, g2, g3, g4, g5⟩)))
            · rw [inW_iff.2 ⟨by omega, by omega⟩, cOk_iff.2 ⟨g3, by omega, by omega⟩] at h; cases h
  clear h
  rcases h' with h1 | ⟨h1, h2⟩ | ⟨h1, h2, rfl⟩ | ⟨h1, h2, h3, h4⟩ | ⟨h1, h2, h3, h4, h5⟩
  all_goals
    go_enter Tryd.func14, Tryd.ntmps14
    go_wp2_with fail
    go_ret2
    exact ⟨rfl, rfl⟩
theorem rnth_pos_yes (n x c v : Int) (w : World) (x1 : 0 ≤ x) (x2 : x ≤ 6) (h1 : 0 < c) (h2 : c ≤ 1000) (b1 : -1200000000000 ≤ v) (b2 : v ≤ 1200000000000)
    (H : ∀ w, Calls Tryd.prog 10 #[.int .i64 n, .int .i64 x] w fun e w' => e = .returned (.tuple #[.int .i64 v, .int .i64 0]) ∧ w = w') :
    Calls Tryd.prog 14 #[.int .i64 n, .int .i64 x, .int .i64 c] w fun e w' => e = .returned (.tuple #[.int .i64 (v + 7 * (c - 1)), .int .i64 0]) ∧ w = w' := by
  have e0 : (c == 0) = false := by rw [beq_eq_false_iff_ne]; omega
  go_enter Tryd.func14, Tryd.ntmps14
  go_wp2_with fail
  refine (H _).mono ?_
  rintro e w' ⟨rfl, rfl⟩
  go_wp2_with fail
  clear H
  go_loop [8, 10] (fun d i => ∃ k : Int, 1 ≤ k ∧ k ≤ c ∧ i = .int .i64 k ∧ d = .int .i64 (v + 7 * (k - 1))) (fun _ i => (c - intOf i).toNat)
  case atStart => exact ⟨1, by omega, by omega, rfl, by simp⟩
  case round =>
    obtain ⟨k, k1, k2, rfl, rfl⟩ := hrel
    by_cases hk : k < c
    · have hv := Lib.hid (show v + 7 * (k - 1) + 7 = v + 7 * (k + 1 - 1) by omega)
      go_wp2_with fail
      go_round
      case rel => exact ⟨k + 1, by omega, by omega, rfl, by rw [hv.out]⟩
      case measure => simp [intOf]; omega
    · obtain rfl : k = c := by omega
      go_wp2_with fail
      go_ret2
      exact ⟨rfl, rfl⟩
theorem rnth_neg_yes (n x c v : Int) (w : World) (x1 : 0 ≤ x) (x2 : x ≤ 6) (h1 : c < 0) (h2 : -1000 ≤ c) (b1 : -1200000000000 ≤ v) (b2 : v ≤ 1200000000000)
    (H : ∀ w, Calls Tryd.prog 12 #[.int .i64 n, .int .i64 x] w fun e w' => e = .returned (.tuple #[.int .i64 v, .int .i64 0]) ∧ w = w') :
    Calls Tryd.prog 14 #[.int .i64 n, .int .i64 x, .int .i64 c] w fun e w' => e = .returned (.tuple #[.int .i64 (v + 7 * (c + 1)), .int .i64 0]) ∧ w = w' := by
  have e0 : (c == 0) = false := by rw [beq_eq_false_iff_ne]; omega
  go_enter Tryd.func14, Tryd.ntmps14
  go_wp2_with fail
  refine (H _).mono ?_
  rintro e w' ⟨rfl, rfl⟩
  go_wp2_with fail
  clear H
  go_loop [11, 13] (fun d i => ∃ k : Int, c ≤ k ∧ k ≤ -1 ∧ i = .int .i64 k ∧ d = .int .i64 (v + 7 * (k + 1))) (fun _ i => (intOf i - c).toNat)
  case atStart => exact ⟨-1, by omega, by omega, rfl, by simp⟩
  case round =>
    obtain ⟨k, k1, k2, rfl, rfl⟩ := hrel
    by_cases hk : c < k
    · have hv := Lib.hid (show v + 7 * (k + 1) - 7 = v + 7 * (k - 1 + 1) by omega)
      go_wp2_with fail
      go_round
      case rel => exact ⟨k - 1, by omega, by omega, rfl, by rw [hv.out]⟩
      case measure => simp [intOf]; omega
    · obtain rfl : k = c := by omega
      go_wp2_with fail
      go_ret2
      exact ⟨rfl, rfl⟩
theorem rnth_pos_no (n x c E : Int) (w : World) (x1 : 0 ≤ x) (x2 : x ≤ 6) (h1 : 0 < c) (h2 : c ≤ 1000) (hE : ¬ E = 0)
    (H : ∀ w, Calls Tryd.prog 10 #[.int .i64 n, .int .i64 x] w fun e w' => e = .returned (.tuple #[.int .i64 0, .int .i64 E]) ∧ w = w') :
    Calls Tryd.prog 14 #[.int .i64 n, .int .i64 x, .int .i64 c] w fun e w' => e = .returned (.tuple #[.int .i64 0, .int .i64 E]) ∧ w = w' := by
  have e0 : (c == 0) = false := by rw [beq_eq_false_iff_ne]; omega
  have e1 : (E == 0) = false := by rw [beq_eq_false_iff_ne]; omega
  cases e2 : decide (1 < c)
  all_goals
    go_enter Tryd.func14, Tryd.ntmps14
    go_wp2_with fail
    refine (H _).mono ?_
    rintro e w' ⟨rfl, rfl⟩
    go_wp2_with fail
    go_loop [8, 10] (fun d i => d = .int .i64 0 ∧ i = .int .i64 1) (fun _ _ => 0)
    case atStart => exact ⟨rfl, rfl⟩
    case round =>
      obtain ⟨rfl, rfl⟩ := hrel
      go_wp2_with fail
      go_ret2
      exact ⟨rfl, rfl⟩
theorem rnth_neg_no (n x c E : Int) (w : World) (x1 : 0 ≤ x) (x2 : x ≤ 6) (h1 : c < 0) (h2 : -1000 ≤ c) (hE : ¬ E = 0)
    (H : ∀ w, Calls Tryd.prog 12 #[.int .i64 n, .int .i64 x] w fun e w' => e = .returned (.tuple #[.int .i64 0, .int .i64 E]) ∧ w = w') :
    Calls Tryd.prog 14 #[.int .i64 n, .int .i64 x, .int .i64 c] w fun e w' => e = .returned (.tuple #[.int .i64 0, .int .i64 E]) ∧ w = w' := by
  have e0 : (c == 0) = false := by rw [beq_eq_false_iff_ne]; omega
  have e1 : (E == 0) = false := by rw [beq_eq_false_iff_ne]; omega
  cases e2 : decide (c < -1)
  all_goals
    go_enter Tryd.func14, Tryd.ntmps14
    go_wp2_with fail
    refine (H _).mono ?_
    rintro e w' ⟨rfl, rfl⟩
    go_wp2_with fail
    go_loop [11, 13] (fun d i => d = .int .i64 0 ∧ i = .int .i64 (-1)) (fun _ _ => 0)
    case atStart => exact ⟨rfl, rfl⟩
    case round =>
      obtain ⟨rfl, rfl⟩ := hrel
      go_wp2_with fail
      go_ret2
      exact ⟨rfl, rfl⟩
theorem rnth_any (n x c : Int) (w : World) :
    Calls Tryd.prog 14 #[.int .i64 n, .int .i64 x, .int .i64 c] w fun e w' => e = .returned (.tuple #[.int .i64 (ifb (nOk n x c) (nth n x c)), .int .i64 (nErr n x c)]) ∧ w = w' := by
  cases hc : (inW x && cOk c)
  · have e1 : nOk n x c = false := by
      unfold nOk wOk
      cases h1 : cOk c <;> cases h2 : inW x <;> simp_all
    have e2 : nErr n x c = 3 := by
      unfold nErr wErr
      cases h1 : cOk c <;> cases h2 : inW x <;> simp_all
    rw [e1, e2]; exact rnth_bad n x c w hc
  · rw [Bool.and_eq_true] at hc
    obtain ⟨hw, hc⟩ := hc
    obtain ⟨x1, x2⟩ := inW_iff.1 hw
    rw [nErr_w hc, nOk_w hc]
    obtain ⟨c0, c1, c2⟩ := cOk_iff.1 hc
    rcases Int.lt_or_gt_of_ne c0 with g | g
    · rw [nth_neg g]
      cases h : wOk n x
      · have H := fun w => rbef_any n x w
        rw [h] at H
        exact rnth_neg_no n x c _ w x1 x2 g c1 (wErr_no h) H
      · have H := fun w => rbef_any n x w
        rw [h, wErr_ok h] at H
        rw [wErr_ok h]
        obtain ⟨-, n1, n2⟩ := wOk_iff.1 h
        obtain ⟨b1, b2⟩ := bef_bd (n := n) (w := x)
        exact rnth_neg_yes n x c _ w x1 x2 g c1 (by omega) (by omega) H
    · rw [nth_pos g]
      cases h : wOk n x
      · have H := fun w => raft_any n x w
        rw [h] at H
        exact rnth_pos_no n x c _ w x1 x2 g c2 (wErr_no h) H
      · have H := fun w => raft_any n x w
        rw [h, wErr_ok h] at H
        rw [wErr_ok h]
        obtain ⟨-, n1, n2⟩ := wOk_iff.1 h
        obtain ⟨b1, b2⟩ := aft_bd (n := n) (w := x)
        exact rnth_pos_yes n x c _ w x1 x2 g c2 (by omega) (by omega) H
end Go.Proofs.YtbnhbejmlfjnhaaDoor
