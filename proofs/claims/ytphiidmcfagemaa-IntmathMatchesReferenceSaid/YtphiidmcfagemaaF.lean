/- The contracts of Clamp, of the law's helper result, and of the reference's Splits, Adds and Subs, for any 64-bit integers. -/
import Derived.Test.YtphiidmcfagemaaA
import Derived.Deep.QuietTactic
import Derived.BigQuiet
namespace Go.Proofs.Ytphiidmcfagemaa
open Go.RowKit

/-! The reference's functions; Clamp -/
theorem splits_any (a b : Int) (w : World) :
    Calls Try.prog 8 #[.int .i64 a, .int .i64 b] w fun e w' => e = .returned (.bool (spl a b)) ∧ w = w' := by
  cases h0 : (b != 0) <;> cases h1 : (a != -9223372036854775808)
  all_goals
    go_enter Try.func8, Try.ntmps8
    go_wp2
    go_ret
    exact ⟨ret_bool (by simp [spl, fits, h0, h1]; try simp [bne]), rfl⟩

theorem ret_int {a b : Int} (h : a = b) : Ending.returned (.int .i64 a) = .returned (.int .i64 b) := by rw [h]
def clampI (n l h : Int) : Int := if n < l then l else if h < n then h else n
theorem clamp_lo {n l h : Int} (h1 : n < l) : l = clampI n l h := by unfold clampI; rw [if_pos h1]
theorem clamp_hi {n l h : Int} (h1 : l ≤ n) (h2 : h < n) : h = clampI n l h := by unfold clampI; rw [if_neg (by omega), if_pos h2]
theorem clamp_in {n l h : Int} (h1 : l ≤ n) (h2 : n ≤ h) : n = clampI n l h := by unfold clampI; rw [if_neg (by omega), if_neg (by omega)]

theorem clamp_any (n l h : Int) (w : World) :
    Calls Try.prog 22 #[.int .i64 n, .int .i64 l, .int .i64 h] w fun e w' => e = .returned (.int .i64 (clampI n l h)) ∧ w = w' := by
  by_cases h1 : n < l
  · go_enter Try.func22, Try.ntmps22
    go_wp2
    go_ret
    exact ⟨ret_int (clamp_lo h1), rfl⟩
  · have h1 : l ≤ n := by omega
    by_cases h2 : h < n
    · go_enter Try.func22, Try.ntmps22
      go_wp2
      go_ret
      exact ⟨ret_int (clamp_hi h1 h2), rfl⟩
    · have h2 : n ≤ h := by omega
      go_enter Try.func22, Try.ntmps22
      go_wp2
      go_ret
      exact ⟨ret_int (clamp_in h1 h2), rfl⟩

def resB (n : Int) (ok : Bool) (want : Int) (ex : Bool) : Bool := match ex with | true => ok && n == want | false => !ok && n == 0
theorem result_any (n want : Int) (ok ex : Bool) (w : World) :
    Calls Try.prog 13 #[.int .i64 n, .bool ok, .int .i64 want, .bool ex] w fun e w' => e = .returned (.bool (resB n ok want ex)) ∧ w = w' := by
  cases ex <;> cases ok
  all_goals
    go_enter Try.func13, Try.ntmps13
    go_wp2
    go_ret
    exact ⟨ret_bool (by simp [resB]), rfl⟩

theorem adds_neg (a b : Int) (w : World) (h : b < 0) :
    Calls Try.prog 17 #[.int .i64 a, .int .i64 b] w fun e w' => e = .returned (.bool (decide (wrap64 (-9223372036854775808 - b) ≤ a))) ∧ w = w' := by
  go_enter Try.func17, Try.ntmps17
  go_wp2
  go_ret
  exact ⟨rfl, rfl⟩
theorem adds_pos (a b : Int) (w : World) (h : 0 ≤ b) :
    Calls Try.prog 17 #[.int .i64 a, .int .i64 b] w fun e w' => e = .returned (.bool (decide (a ≤ wrap64 (9223372036854775807 - b)))) ∧ w = w' := by
  go_enter Try.func17, Try.ntmps17
  go_wp2
  go_ret
  exact ⟨rfl, rfl⟩
theorem subs_neg (a b : Int) (w : World) (h : b < 0) :
    Calls Try.prog 18 #[.int .i64 a, .int .i64 b] w fun e w' => e = .returned (.bool (decide (a ≤ wrap64 (9223372036854775807 + b)))) ∧ w = w' := by
  go_enter Try.func18, Try.ntmps18
  go_wp2
  go_ret
  exact ⟨rfl, rfl⟩
theorem subs_pos (a b : Int) (w : World) (h : 0 ≤ b) :
    Calls Try.prog 18 #[.int .i64 a, .int .i64 b] w fun e w' => e = .returned (.bool (decide (wrap64 (-9223372036854775808 + b) ≤ a))) ∧ w = w' := by
  go_enter Try.func18, Try.ntmps18
  go_wp2
  go_ret
  exact ⟨rfl, rfl⟩

theorem adds_any (a b : Int) (w : World) (_ha : inR a = true) (hb : inR b = true) :
    Calls Try.prog 17 #[.int .i64 a, .int .i64 b] w fun e w' => e = .returned (.bool (inR (a + b))) ∧ w = w' := by
  rw [inR_iff] at hb
  have ha := inR_iff.1 _ha
  rcases Int.lt_or_le b 0 with h | h
  · have e : inR (a + b) = decide (wrap64 (-9223372036854775808 - b) ≤ a) := by
      rw [IntWalk.wrap64_in _ (by omega), Bool.eq_iff_iff, inR_iff, decide_eq_true_iff]; omega
    rw [e]; exact adds_neg a b w h
  · have e : inR (a + b) = decide (a ≤ wrap64 (9223372036854775807 - b)) := by
      rw [IntWalk.wrap64_in _ (by omega), Bool.eq_iff_iff, inR_iff, decide_eq_true_iff]; omega
    rw [e]; exact adds_pos a b w h
theorem subs_any (a b : Int) (w : World) (ha : inR a = true) (hb : inR b = true) :
    Calls Try.prog 18 #[.int .i64 a, .int .i64 b] w fun e w' => e = .returned (.bool (inR (a - b))) ∧ w = w' := by
  rw [inR_iff] at ha hb
  rcases Int.lt_or_le b 0 with h | h
  · have e : inR (a - b) = decide (a ≤ wrap64 (9223372036854775807 + b)) := by
      rw [IntWalk.wrap64_in _ (by omega), Bool.eq_iff_iff, inR_iff, decide_eq_true_iff]; omega
    rw [e]; exact subs_neg a b w h
  · have e : inR (a - b) = decide (wrap64 (-9223372036854775808 + b) ≤ a) := by
      rw [IntWalk.wrap64_in _ (by omega), Bool.eq_iff_iff, inR_iff, decide_eq_true_iff]; omega
    rw [e]; exact subs_pos a b w h

end Go.Proofs.Ytphiidmcfagemaa
