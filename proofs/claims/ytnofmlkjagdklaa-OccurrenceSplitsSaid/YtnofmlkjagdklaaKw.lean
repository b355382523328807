/- What earlier stages proved: Wo Wa Wb Wc Wd. -/
import Derived.Test.YtnofmlkjagdklaaKa
namespace Go.Proofs.Ytnofmlkjagdklaa
open Go.RowKit

theorem rof_any (n : Int) (w : World) (hn : inR n = true) :
    Calls Try.prog 40 #[.int .i64 n] w fun e w' => e = .returned (.int .i64 (n % 7)) ∧ w = w' := by
  have H := fun w => rmod_any n 7 w hn (by decide) (spl_pos n 7 (by omega))
  rw [Int.fmod_eq_emod_of_nonneg _ (by omega)] at H
  clear hn
  generalize n % 7 = r at *
  go_enter Try.func40, Try.ntmps40
  go_wp2_with (go_at_call 47; refine (H _).mono ?_; rintro e w' ⟨rfl, rfl⟩)
  go_ret
  exact ⟨rfl, rfl⟩
end Go.Proofs.Ytnofmlkjagdklaa

namespace Go.Proofs.Ytnofmlkjagdklaa
open Go.RowKit

def inW (w : Int) : Bool := decide (0 ≤ w) && decide (w ≤ 6)
theorem inW_iff {w : Int} : inW w = true ↔ 0 ≤ w ∧ w ≤ 6 := by simp [inW]
def inN (n : Int) : Bool := decide (-1099511627776 ≤ n) && decide (n ≤ 1099511627776)
theorem inN_iff {n : Int} : inN n = true ↔ -1099511627776 ≤ n ∧ n ≤ 1099511627776 := by simp [inN]
/-- The error of a day and a day of the week. -/
def wErr (n w : Int) : Int := if inW w = true then (if inN n = true then 0 else 1) else 3
theorem wErr_w {n w : Int} (h : inW w = false) : wErr n w = 3 := by simp [wErr, h]
theorem wErr_n {n w : Int} (h : inW w = true) (g : inN n = false) : wErr n w = 1 := by simp [wErr, h, g]
theorem wErr_0 {n w : Int} (h : inW w = true) (g : inN n = true) : wErr n w = 0 := by simp [wErr, h, g]

theorem fails_any (n x : Int) (w : World) :
    Calls Try.prog 68 #[.int .i64 n, .int .i64 x] w fun e w' => e = .returned (.int .i64 (wErr n x)) ∧ w = w' := by
  cases hw : inW x
  · have e := Lib.hid (wErr_w (n := n) hw)
    have hw' : x < 0 ∨ 6 < x := by
      rcases Int.lt_or_le x 0 with h | h
      · exact .inl h
      · rcases Int.lt_or_le 6 x with g | g
        · exact .inr g
        · rw [inW_iff.2 ⟨h, g⟩] at hw; cases hw
    clear hw
    rcases hw' with h | h
    · go_enter Try.func68, Try.ntmps68
      go_wp2
      go_ret
      exact ⟨ret_int e.out.symm, rfl⟩
    · have h2 : ¬ x < 0 := by omega
      go_enter Try.func68, Try.ntmps68
      go_wp2
      go_ret
      exact ⟨ret_int e.out.symm, rfl⟩
  · obtain ⟨g1, g2⟩ := inW_iff.1 hw
    cases hn : inN n
    · have e := Lib.hid (wErr_n hw hn)
      have hn' : n < -1099511627776 ∨ 1099511627776 < n := by
        rcases Int.lt_or_le n (-1099511627776) with h | h
        · exact .inl h
        · rcases Int.lt_or_le 1099511627776 n with g | g
          · exact .inr g
          · rw [inN_iff.2 ⟨h, g⟩] at hn; cases hn
      clear hw hn
      rcases hn' with h | h
      · go_enter Try.func68, Try.ntmps68
        go_wp2
        go_ret
        exact ⟨ret_int e.out.symm, rfl⟩
      · have h2 : ¬ n < -1099511627776 := by omega
        go_enter Try.func68, Try.ntmps68
        go_wp2
        go_ret
        exact ⟨ret_int e.out.symm, rfl⟩
    · have e := Lib.hid (wErr_0 hw hn)
      obtain ⟨h1, h2⟩ := inN_iff.1 hn
      clear hw hn
      go_enter Try.func68, Try.ntmps68
      go_wp2
      go_ret
      exact ⟨ret_int e.out.symm, rfl⟩
end Go.Proofs.Ytnofmlkjagdklaa

namespace Go.Proofs.Ytnofmlkjagdklaa
open Go.RowKit

def aft (n w : Int) : Int := n + (w - n % 7) % 7
def bef (n w : Int) : Int := n - (n % 7 - w) % 7
def wOk (n w : Int) : Bool := inW w && inN n
theorem wErr_ok {n w : Int} (h : wOk n w = true) : wErr n w = 0 := by
  simp only [wOk, Bool.and_eq_true] at h; exact wErr_0 h.1 h.2
theorem wErr_no {n w : Int} (h : wOk n w = false) : ¬ wErr n w = 0 := by
  unfold wOk at h; unfold wErr
  cases h1 : inW w <;> cases h2 : inN n <;> simp_all
theorem wOk_iff {n w : Int} : wOk n w = true ↔ (0 ≤ w ∧ w ≤ 6) ∧ (-1099511627776 ≤ n ∧ n ≤ 1099511627776) := by
  rw [wOk, Bool.and_eq_true, inW_iff, inN_iff]
theorem aft_bd {n w : Int} : n ≤ aft n w ∧ aft n w ≤ n + 6 := by unfold aft; omega
theorem bef_bd {n w : Int} : n - 6 ≤ bef n w ∧ bef n w ≤ n := by unfold bef; omega
theorem aft_mod {n w : Int} (h1 : 0 ≤ w) (h2 : w ≤ 6) : aft n w % 7 = w := by unfold aft; omega
theorem bef_mod {n w : Int} (h1 : 0 ≤ w) (h2 : w ≤ 6) : bef n w % 7 = w := by unfold bef; omega
theorem aft_first {n w k : Int} (h1 : n ≤ k) (h2 : k < aft n w) : ¬ k % 7 = w := by unfold aft at h2; omega
theorem bef_last {n w k : Int} (h1 : k ≤ n) (h2 : bef n w < k) : ¬ k % 7 = w := by unfold bef at h2; omega

theorem raft_any (n x : Int) (w : World) :
    Calls Try.prog 61 #[.int .i64 n, .int .i64 x] w fun e w' => e = .returned (.tuple #[.int .i64 (ifb (wOk n x) (aft n x)), .int .i64 (wErr n x)]) ∧ w = w' := by
  have HC := fun w => fails_any n x w
  cases h : wOk n x
  · have hE := wErr_no h
    generalize wErr n x = E at *
    clear h
    go_enter Try.func61, Try.ntmps61
    go_wp2_with fail
    refine (HC _).mono ?_
    rintro e w' ⟨rfl, rfl⟩
    go_wp2_with fail
    go_ret2
    exact ⟨rfl, rfl⟩
  · rw [wErr_ok h] at HC ⊢
    obtain ⟨⟨x1, x2⟩, n1, n2⟩ := wOk_iff.1 h
    obtain ⟨b1, b2⟩ := aft_bd (n := n) (w := x)
    clear h
    go_enter Try.func61, Try.ntmps61
    go_wp2_with fail
    refine (HC _).mono ?_
    rintro e w' ⟨rfl, rfl⟩
    go_wp2_with fail
    go_loop [0] (fun t => ∃ k : Int, n ≤ k ∧ k ≤ aft n x ∧ t = .int .i64 k) (fun t => (aft n x - intOf t).toNat)
    case atStart => exact ⟨n, by omega, b1, rfl⟩
    case round =>
      obtain ⟨k, k1, k2, rfl⟩ := hrel
      have HO := fun w => rof_any k w (inR_iff.2 (by omega))
      by_cases hk : k < aft n x
      · have hne := aft_first k1 hk
        generalize k % 7 = q at *
        go_wp2_with (go_at_call 40; refine (HO _).mono ?_; rintro e w' ⟨rfl, rfl⟩)
        go_round
        case rel => exact ⟨k + 1, by omega, by omega, rfl⟩
        case measure => simp [intOf]; omega
      · obtain rfl : k = aft n x := by omega
        rw [aft_mod x1 x2] at HO
        go_wp2_with (go_at_call 40; refine (HO _).mono ?_; rintro e w' ⟨rfl, rfl⟩)
        go_ret2
        exact ⟨rfl, rfl⟩
theorem rbef_any (n x : Int) (w : World) :
    Calls Try.prog 62 #[.int .i64 n, .int .i64 x] w fun e w' => e = .returned (.tuple #[.int .i64 (ifb (wOk n x) (bef n x)), .int .i64 (wErr n x)]) ∧ w = w' := by
  have HC := fun w => fails_any n x w
  cases h : wOk n x
  · have hE := wErr_no h
    generalize wErr n x = E at *
    clear h
    go_enter Try.func62, Try.ntmps62
    go_wp2_with fail
    refine (HC _).mono ?_
    rintro e w' ⟨rfl, rfl⟩
    go_wp2_with fail
    go_ret2
    exact ⟨rfl, rfl⟩
  · rw [wErr_ok h] at HC ⊢
    obtain ⟨⟨x1, x2⟩, n1, n2⟩ := wOk_iff.1 h
    obtain ⟨b1, b2⟩ := bef_bd (n := n) (w := x)
    clear h
    go_enter Try.func62, Try.ntmps62
    go_wp2_with fail
    refine (HC _).mono ?_
    rintro e w' ⟨rfl, rfl⟩
    go_wp2_with fail
    go_loop [0] (fun t => ∃ k : Int, bef n x ≤ k ∧ k ≤ n ∧ t = .int .i64 k) (fun t => (intOf t - bef n x).toNat)
    case atStart => exact ⟨n, by omega, by omega, rfl⟩
    case round =>
      obtain ⟨k, k1, k2, rfl⟩ := hrel
      have HO := fun w => rof_any k w (inR_iff.2 (by omega))
      by_cases hk : bef n x < k
      · have hne := bef_last k2 hk
        generalize k % 7 = q at *
        go_wp2_with (go_at_call 40; refine (HO _).mono ?_; rintro e w' ⟨rfl, rfl⟩)
        go_round
        case rel => exact ⟨k - 1, by omega, by omega, rfl⟩
        case measure => simp [intOf]; omega
      · obtain rfl : k = bef n x := by omega
        rw [bef_mod x1 x2] at HO
        go_wp2_with (go_at_call 40; refine (HO _).mono ?_; rintro e w' ⟨rfl, rfl⟩)
        go_ret2
        exact ⟨rfl, rfl⟩
end Go.Proofs.Ytnofmlkjagdklaa

namespace Go.Proofs.Ytnofmlkjagdklaa
open Go.RowKit

def cOk (c : Int) : Bool := !decide (c = 0) && (decide (-1000 ≤ c) && decide (c ≤ 1000))
theorem cOk_iff {c : Int} : cOk c = true ↔ ¬ c = 0 ∧ -1000 ≤ c ∧ c ≤ 1000 := by simp [cOk]
def nth (n w c : Int) : Int := if 0 < c then aft n w + 7 * (c - 1) else bef n w + 7 * (c + 1)
theorem nth_pos {n w c : Int} (h : 0 < c) : nth n w c = aft n w + 7 * (c - 1) := by unfold nth; rw [if_pos h]
theorem nth_neg {n w c : Int} (h : c < 0) : nth n w c = bef n w + 7 * (c + 1) := by unfold nth; rw [if_neg (by omega)]
def nOk (n w c : Int) : Bool := cOk c && wOk n w
def nErr (n w c : Int) : Int := if cOk c = true then wErr n w else 3
theorem nErr_w {n w c : Int} (h : cOk c = true) : nErr n w c = wErr n w := by simp [nErr, h]
theorem nOk_w {n w c : Int} (h : cOk c = true) : nOk n w c = wOk n w := by simp [nOk, h]

theorem rnth_bad (n x c : Int) (w : World) (h : (inW x && cOk c) = false) :
    Calls Try.prog 50 #[.int .i64 n, .int .i64 x, .int .i64 c] w fun e w' => e = .returned (.tuple #[.int .i64 0, .int .i64 3]) ∧ w = w' := by
  have h' : x < 0 ∨ (¬ x < 0 ∧ 6 < x) ∨ (¬ x < 0 ∧ ¬ 6 < x ∧ c = 0) ∨ (¬ x < 0 ∧ ¬ 6 < x ∧ ¬ c = 0 ∧ c < -1000) ∨ (¬ x < 0 ∧ ¬ 6 < x ∧ ¬ c = 0 ∧ ¬ c < -1000 ∧ 1000 < c) := by
    by_cases g1 : x < 0
    · exact .inl g1
    · by_cases g2 : 6 < x
      · exact .inr (.inl ⟨g1, g2⟩)
      · by_cases g3 : c = 0
        · exact .inr (.inr (.inl ⟨g1, g2, g3⟩))
        · by_cases g4 : c < -1000
          · exact .inr (.inr (.inr (.inl ⟨g1, g2, g3, g4⟩)))
          · by_cases g5 : 1000 < c
            · exact .inr (.inr (.inr (.inr ⟨g1, g2, g3, g4, g5⟩)))
            · rw [inW_iff.2 ⟨by omega, by omega⟩, cOk_iff.2 ⟨g3, by omega, by omega⟩] at h; cases h
  clear h
  rcases h' with h1 | ⟨h1, h2⟩ | ⟨h1, h2, rfl⟩ | ⟨h1, h2, h3, h4⟩ | ⟨h1, h2, h3, h4, h5⟩
  all_goals
    go_enter Try.func50, Try.ntmps50
    go_wp2_with fail
    go_ret2
    exact ⟨rfl, rfl⟩
theorem rnth_pos_yes (n x c v : Int) (w : World) (x1 : 0 ≤ x) (x2 : x ≤ 6) (h1 : 0 < c) (h2 : c ≤ 1000) (b1 : -1200000000000 ≤ v) (b2 : v ≤ 1200000000000)
    (H : ∀ w, Calls Try.prog 61 #[.int .i64 n, .int .i64 x] w fun e w' => e = .returned (.tuple #[.int .i64 v, .int .i64 0]) ∧ w = w') :
    Calls Try.prog 50 #[.int .i64 n, .int .i64 x, .int .i64 c] w fun e w' => e = .returned (.tuple #[.int .i64 (v + 7 * (c - 1)), .int .i64 0]) ∧ w = w' := by
  have e0 : (c == 0) = false := by rw [beq_eq_false_iff_ne]; omega
  go_enter Try.func50, Try.ntmps50
  go_wp2_with fail
  refine (H _).mono ?_
  rintro e w' ⟨rfl, rfl⟩
  go_wp2_with fail
  clear H
  go_loop [8, 10] (fun d i => ∃ k : Int, 1 ≤ k ∧ k ≤ c ∧ i = .int .i64 k ∧ d = .int .i64 (v + 7 * (k - 1))) (fun _ i => (c - intOf i).toNat)
  case atStart => exact ⟨1, by omega, by omega, rfl, by simp⟩
  case round =>
    obtain ⟨k, k1, k2, rfl, rfl⟩ := hrel
    by_cases hk : k < c
    · have hv := Lib.hid (show v + 7 * (k - 1) + 7 = v + 7 * (k + 1 - 1) by omega)
      go_wp2_with fail
      go_round
      case rel => exact ⟨k + 1, by omega, by omega, rfl, by rw [hv.out]⟩
      case measure => simp [intOf]; omega
    · obtain rfl : k = c := by omega
      go_wp2_with fail
      go_ret2
      exact ⟨rfl, rfl⟩
theorem rnth_neg_yes (n x c v : Int) (w : World) (x1 : 0 ≤ x) (x2 : x ≤ 6) (h1 : c < 0) (h2 : -1000 ≤ c) (b1 : -1200000000000 ≤ v) (b2 : v ≤ 1200000000000)
    (H : ∀ w, Calls Try.prog 62 #[.int .i64 n, .int .i64 x] w fun e w' => e = .returned (.tuple #[.int .i64 v, .int .i64 0]) ∧ w = w') :
    Calls Try.prog 50 #[.int .i64 n, .int .i64 x, .int .i64 c] w fun e w' => e = .returned (.tuple #[.int .i64 (v + 7 * (c + 1)), .int .i64 0]) ∧ w = w' := by
  have e0 : (c == 0) = false := by rw [beq_eq_false_iff_ne]; omega
  go_enter Try.func50, Try.ntmps50
  go_wp2_with fail
  refine (H _).mono ?_
  rintro e w' ⟨rfl, rfl⟩
  go_wp2_with fail
  clear H
  go_loop [11, 13] (fun d i => ∃ k : Int, c ≤ k ∧ k ≤ -1 ∧ i = .int .i64 k ∧ d = .int .i64 (v + 7 * (k + 1))) (fun _ i => (intOf i - c).toNat)
  case atStart => exact ⟨-1, by omega, by omega, rfl, by simp⟩
  case round =>
    obtain ⟨k, k1, k2, rfl, rfl⟩ := hrel
    by_cases hk : c < k
    · have hv := Lib.hid (show v + 7 * (k + 1) - 7 = v + 7 * (k - 1 + 1) by omega)
      go_wp2_with fail
      go_round
      case rel => exact ⟨k - 1, by omega, by omega, rfl, by rw [hv.out]⟩
      case measure => simp [intOf]; omega
    · obtain rfl : k = c := by omega
      go_wp2_with fail
      go_ret2
      exact ⟨rfl, rfl⟩
theorem rnth_pos_no (n x c E : Int) (w : World) (x1 : 0 ≤ x) (x2 : x ≤ 6) (h1 : 0 < c) (h2 : c ≤ 1000) (hE : ¬ E = 0)
    (H : ∀ w, Calls Try.prog 61 #[.int .i64 n, .int .i64 x] w fun e w' => e = .returned (.tuple #[.int .i64 0, .int .i64 E]) ∧ w = w') :
    Calls Try.prog 50 #[.int .i64 n, .int .i64 x, .int .i64 c] w fun e w' => e = .returned (.tuple #[.int .i64 0, .int .i64 E]) ∧ w = w' := by
  have e0 : (c == 0) = false := by rw [beq_eq_false_iff_ne]; omega
  have e1 : (E == 0) = false := by rw [beq_eq_false_iff_ne]; omega
  cases e2 : decide (1 < c)
  all_goals
    go_enter Try.func50, Try.ntmps50
    go_wp2_with fail
    refine (H _).mono ?_
    rintro e w' ⟨rfl, rfl⟩
    go_wp2_with fail
    go_loop [8, 10] (fun d i => d = .int .i64 0 ∧ i = .int .i64 1) (fun _ _ => 0)
    case atStart => exact ⟨rfl, rfl⟩
    case round =>
      obtain ⟨rfl, rfl⟩ := hrel
      go_wp2_with fail
      go_ret2
      exact ⟨rfl, rfl⟩
theorem rnth_neg_no (n x c E : Int) (w : World) (x1 : 0 ≤ x) (x2 : x ≤ 6) (h1 : c < 0) (h2 : -1000 ≤ c) (hE : ¬ E = 0)
    (H : ∀ w, Calls Try.prog 62 #[.int .i64 n, .int .i64 x] w fun e w' => e = .returned (.tuple #[.int .i64 0, .int .i64 E]) ∧ w = w') :
    Calls Try.prog 50 #[.int .i64 n, .int .i64 x, .int .i64 c] w fun e w' => e = .returned (.tuple #[.int .i64 0, .int .i64 E]) ∧ w = w' := by
  have e0 : (c == 0) = false := by rw [beq_eq_false_iff_ne]; omega
  have e1 : (E == 0) = false := by rw [beq_eq_false_iff_ne]; omega
  cases e2 : decide (c < -1)
  all_goals
    go_enter Try.func50, Try.ntmps50
    go_wp2_with fail
    refine (H _).mono ?_
    rintro e w' ⟨rfl, rfl⟩
    go_wp2_with fail
    go_loop [11, 13] (fun d i => d = .int .i64 0 ∧ i = .int .i64 (-1)) (fun _ _ => 0)
    case atStart => exact ⟨rfl, rfl⟩
    case round =>
      obtain ⟨rfl, rfl⟩ := hrel
      go_wp2_with fail
      go_ret2
      exact ⟨rfl, rfl⟩
theorem rnth_any (n x c : Int) (w : World) :
    Calls Try.prog 50 #[.int .i64 n, .int .i64 x, .int .i64 c] w fun e w' => e = .returned (.tuple #[.int .i64 (ifb (nOk n x c) (nth n x c)), .int .i64 (nErr n x c)]) ∧ w = w' := by
  cases hc : (inW x && cOk c)
  · have e1 : nOk n x c = false := by
      unfold nOk wOk
      cases h1 : cOk c <;> cases h2 : inW x <;> simp_all
    have e2 : nErr n x c = 3 := by
      unfold nErr wErr
      cases h1 : cOk c <;> cases h2 : inW x <;> simp_all
    rw [e1, e2]; exact rnth_bad n x c w hc
  · rw [Bool.and_eq_true] at hc
    obtain ⟨hw, hc⟩ := hc
    obtain ⟨x1, x2⟩ := inW_iff.1 hw
    rw [nErr_w hc, nOk_w hc]
    obtain ⟨c0, c1, c2⟩ := cOk_iff.1 hc
    rcases Int.lt_or_gt_of_ne c0 with g | g
    · rw [nth_neg g]
      cases h : wOk n x
      · have H := fun w => rbef_any n x w
        rw [h] at H
        exact rnth_neg_no n x c _ w x1 x2 g c1 (wErr_no h) H
      · have H := fun w => rbef_any n x w
        rw [h, wErr_ok h] at H
        rw [wErr_ok h]
        obtain ⟨-, n1, n2⟩ := wOk_iff.1 h
        obtain ⟨b1, b2⟩ := bef_bd (n := n) (w := x)
        exact rnth_neg_yes n x c _ w x1 x2 g c1 (by omega) (by omega) H
    · rw [nth_pos g]
      cases h : wOk n x
      · have H := fun w => raft_any n x w
        rw [h] at H
        exact rnth_pos_no n x c _ w x1 x2 g c2 (wErr_no h) H
      · have H := fun w => raft_any n x w
        rw [h, wErr_ok h] at H
        rw [wErr_ok h]
        obtain ⟨-, n1, n2⟩ := wOk_iff.1 h
        obtain ⟨b1, b2⟩ := aft_bd (n := n) (w := x)
        exact rnth_pos_yes n x c _ w x1 x2 g c2 (by omega) (by omega) H
end Go.Proofs.Ytnofmlkjagdklaa

namespace Go.Proofs.Ytnofmlkjagdklaa
open Go.RowKit

def nm (w : Int) : ByteArray := if w = 0 then ⟨#[115, 117, 110, 100, 97, 121]⟩ else if w = 1 then ⟨#[109, 111, 110, 100, 97, 121]⟩ else if w = 2 then ⟨#[116, 117, 101, 115, 100, 97, 121]⟩ else if w = 3 then ⟨#[119, 101, 100, 110, 101, 115, 100, 97, 121]⟩ else if w = 4 then ⟨#[116, 104, 117, 114, 115, 100, 97, 121]⟩ else if w = 5 then ⟨#[102, 114, 105, 100, 97, 121]⟩ else if w = 6 then ⟨#[115, 97, 116, 117, 114, 100, 97, 121]⟩ else ⟨#[]⟩
end Go.Proofs.Ytnofmlkjagdklaa
