/- What earlier stages proved: Fa Fb Fc Fd Fe Ff Fg Fh Fi Fj Fk Fl Fm. -/
import Ieee.Arith
import Derived.WalkKit
import Derived.Laws.FloatArith
import Derived.Test.YtiidmnmedkekjaaKa
import Derived.Laws.Externs
import Derived.Laws.Cover2
import Derived.Laws.BitsAllLaws
namespace Go.Proofs.Ytiidmnmedkekjaa

theorem two_pow_pos (k : Nat) : 0 < 2 ^ k := Nat.pow_pos (by decide)
theorem two_pow_succ (k : Nat) : 2 ^ (k + 1) = 2 * 2 ^ k := by rw [Nat.pow_succ, Nat.mul_comm]
def rne (n g : Nat) : Nat := n / g + (decide (g < 2 * (n % g)) || (decide (g = 2 * (n % g)) && decide (n / g % 2 = 1))).toNat
theorem rne_cases (n g : Nat) : (2 * (n % g) < g ∧ rne n g = n / g) ∨ (g < 2 * (n % g) ∧ rne n g = n / g + 1) ∨ (g = 2 * (n % g) ∧ n / g % 2 = 1 ∧ rne n g = n / g + 1) ∨ (g = 2 * (n % g) ∧ n / g % 2 = 0 ∧ rne n g = n / g) := by
  unfold rne
  rcases Nat.lt_trichotomy (2 * (n % g)) g with h | h | h
  · left; refine ⟨h, ?_⟩
    rw [decide_eq_false (by omega : ¬ g < 2 * (n % g)), decide_eq_false (by omega : ¬ g = 2 * (n % g))]; rfl
  · rw [decide_eq_false (by omega : ¬ g < 2 * (n % g)), decide_eq_true h.symm]
    rcases Nat.mod_two_eq_zero_or_one (n / g) with e | e
    · right; right; right; rw [decide_eq_false (by omega)]; exact ⟨h.symm, e, rfl⟩
    · right; right; left; rw [decide_eq_true e]; exact ⟨h.symm, e, rfl⟩
  · right; left; refine ⟨h, ?_⟩
    rw [decide_eq_true h]; rfl
theorem rne_err (n : Nat) {g : Nat} (hg : 0 < g) : 2 * (rne n g * g) ≤ 2 * n + g ∧ 2 * n ≤ 2 * (rne n g * g) + g := by
  have h := Nat.div_add_mod n g
  have hm := Nat.mod_lt n hg
  rw [Nat.mul_comm] at h
  rcases rne_cases n g with ⟨a, e⟩ | ⟨a, e⟩ | ⟨a, _, e⟩ | ⟨a, _, e⟩ <;> rw [e] <;> (try rw [Nat.add_mul, Nat.one_mul]) <;> omega
theorem rne_ge {n g a : Nat} (hg : 0 < g) (h : a * g ≤ n) : a ≤ rne n g := by
  have : a ≤ n / g := (Nat.le_div_iff_mul_le hg).2 h
  unfold rne; omega
theorem rne_le {n g a : Nat} (hg : 0 < g) (h : n ≤ a * g) : rne n g ≤ a := by
  rcases Nat.lt_or_ge n (a * g) with l | l
  · have h1 : n / g < a := (Nat.div_lt_iff_lt_mul hg).2 l
    rcases rne_cases n g with ⟨_, e⟩ | ⟨_, e⟩ | ⟨_, _, e⟩ | ⟨_, _, e⟩ <;> omega
  · obtain rfl : n = a * g := by omega
    have h1 : a * g / g = a := Nat.mul_div_cancel a hg
    have h2 : a * g % g = 0 := Nat.mul_mod_left a g
    rcases rne_cases (a * g) g with ⟨_, e⟩ | ⟨b, e⟩ | ⟨b, _, e⟩ | ⟨b, _, e⟩
    · omega
    · omega
    · omega
    · omega
theorem rne_mul (a : Nat) {g : Nat} (hg : 0 < g) : rne (a * g) g = a := Nat.le_antisymm (rne_le hg (Nat.le_refl _)) (rne_ge hg (Nat.le_refl _))
theorem rne_one (n : Nat) : rne n 1 = n := by have := rne_mul n (g := 1) (by decide); rwa [Nat.mul_one] at this
theorem rne_mono {n n' : Nat} (g : Nat) (h : n ≤ n') : rne n g ≤ rne n' g := by
  have h1 : n / g ≤ n' / g := Nat.div_le_div_right h
  rcases Nat.lt_or_ge (n / g) (n' / g) with l | l
  · have a : rne n g ≤ n / g + 1 := by rcases rne_cases n g with ⟨_, e⟩ | ⟨_, e⟩ | ⟨_, _, e⟩ | ⟨_, _, e⟩ <;> omega
    have b : n' / g ≤ rne n' g := by unfold rne; omega
    omega
  · have e : n / g = n' / g := Nat.le_antisymm h1 l
    have e1 := Nat.div_add_mod n g
    have e2 := Nat.div_add_mod n' g
    rw [e] at e1
    have : n % g ≤ n' % g := by omega
    rcases rne_cases n g with ⟨a, q⟩ | ⟨a, q⟩ | ⟨a, b, q⟩ | ⟨a, b, q⟩ <;> rcases rne_cases n' g with ⟨a', q'⟩ | ⟨a', q'⟩ | ⟨a', b', q'⟩ | ⟨a', b', q'⟩ <;> omega
theorem rne_scale (n g : Nat) {k : Nat} (hk : 0 < k) : rne (n * k) (g * k) = rne n g := by
  have h1 : n * k / (g * k) = n / g := Nat.mul_div_mul_right n g hk
  have h2 : n * k % (g * k) = n % g * k := Nat.mul_mod_mul_right k n g
  unfold rne
  rw [h1, h2]
  have e1 : decide (g * k < 2 * (n % g * k)) = decide (g < 2 * (n % g)) := by
    rw [← Nat.mul_assoc]; exact decide_eq_decide.2 (Nat.mul_lt_mul_right hk)
  have e2 : decide (g * k = 2 * (n % g * k)) = decide (g = 2 * (n % g)) := by
    rw [← Nat.mul_assoc]; exact decide_eq_decide.2 ⟨fun h => Nat.eq_of_mul_eq_mul_right hk h, fun h => by rw [← h]⟩
  rw [e1, e2]
/-- A number less than half a unit is cut to nothing. -/
theorem rne_small {n g : Nat} (h : 2 * n < g) : rne n g = 0 := by
  have h1 : n / g = 0 := Nat.div_eq_of_lt (by omega)
  have h2 : n % g = n := Nat.mod_eq_of_lt (by omega)
  rcases rne_cases n g with ⟨_, e⟩ | ⟨a, _⟩ | ⟨a, _, _⟩ | ⟨a, _, _⟩ <;> omega
theorem cut_even (neg : Bool) (n drop : Nat) : Ieee.Toward.even.cut neg n drop = rne n (2 ^ drop) := by
  have key : ∀ g, n / g + (decide (g < 2 * (n % g)) || (g == 2 * (n % g) && n / g % 2 == 1)).toNat = rne n g := fun g => by
    unfold rne
    congr 2
  unfold Ieee.Toward.cut
  simp only [Nat.shiftLeft_eq, Nat.one_mul]
  rcases Nat.lt_or_ge drop (n.log2 + 2) with h | h
  · rw [Nat.min_eq_left (Nat.le_of_lt h)]; exact key _
  · rw [Nat.min_eq_right h]
    rw [key]
    have hn : n < 2 ^ (n.log2 + 1) := Nat.lt_log2_self
    have e : (2 : Nat) ^ (n.log2 + 2) = 2 * 2 ^ (n.log2 + 1) := two_pow_succ _
    have p : 2 ^ (n.log2 + 2) ≤ 2 ^ drop := Nat.pow_le_pow_right (by decide) h
    rw [rne_small (by omega), rne_small (by omega)]

theorem BB_eq : (2 : Nat) ^ 52 = 4503599627370496 := rfl
def U (r : Nat) : Nat := if r < 4503599627370496 then r else (4503599627370496 + r % 4503599627370496) * 2 ^ (r / 4503599627370496 - 1)
theorem U_low {r : Nat} (h : r < 4503599627370496) : U r = r := by unfold U; rw [if_pos h]
theorem U_high {q e : Nat} (h : q < 4503599627370496) : U ((e + 1) * 4503599627370496 + q) = (4503599627370496 + q) * 2 ^ e := by
  have e1 : ((e + 1) * 4503599627370496 + q) % 4503599627370496 = q := by rw [Nat.mul_comm, Nat.mul_add_mod]; exact Nat.mod_eq_of_lt h
  have e2 : ((e + 1) * 4503599627370496 + q) / 4503599627370496 = e + 1 := by
    rw [Nat.mul_comm, Nat.mul_add_div (by decide)]; rw [Nat.div_eq_of_lt h]
  unfold U
  rw [if_neg (by omega), e1, e2]; rfl
/-- Every rung is low or in a binade. -/
theorem rung_cases (r : Nat) : r < 4503599627370496 ∨ ∃ e q, q < 4503599627370496 ∧ r = (e + 1) * 4503599627370496 + q := by
  rcases Nat.lt_or_ge r 4503599627370496 with h | h
  · exact .inl h
  · refine .inr ⟨r / 4503599627370496 - 1, r % 4503599627370496, Nat.mod_lt _ (by decide), ?_⟩
    have h1 := Nat.div_add_mod r 4503599627370496
    have h2 : 1 ≤ r / 4503599627370496 := (Nat.le_div_iff_mul_le (by decide)).2 (by omega)
    rw [Nat.sub_add_cancel h2, Nat.mul_comm]; exact h1.symm
/-- The number of a rung that is s binades and k: k from 2^52 to 2^53, or less where s is 0. -/
theorem U_at (s k : Nat) (h1 : s = 0 ∨ 4503599627370496 ≤ k) (h2 : k ≤ 2 * 4503599627370496) : U (s * 4503599627370496 + k) = k * 2 ^ s := by
  rcases Nat.lt_or_ge k 4503599627370496 with l | l
  · rcases h1 with rfl | h1
    · rw [Nat.zero_mul, Nat.zero_add, U_low l]; simp
    · omega
  · rcases Nat.lt_or_ge k (2 * 4503599627370496) with l2 | l2
    · have e : s * 4503599627370496 + k = (s + 1) * 4503599627370496 + (k - 4503599627370496) := by rw [Nat.add_mul]; omega
      rw [e, U_high (by omega), show 4503599627370496 + (k - 4503599627370496) = k by omega]
    · obtain rfl : k = 2 * 4503599627370496 := by omega
      have e : s * 4503599627370496 + 2 * 4503599627370496 = (s + 1 + 1) * 4503599627370496 + 0 := by omega
      rw [e, U_high (by decide), two_pow_succ, Nat.add_zero, Nat.mul_comm 2 4503599627370496, Nat.mul_assoc]
def rn (n d : Nat) : Nat := (n.log2 - (d + 52)) * 4503599627370496 + rne n (2 ^ (d + (n.log2 - (d + 52))))
theorem rn_zero (d : Nat) : rn 0 d = 0 := by
  unfold rn
  have h : rne 0 (2 ^ (d + ((0 : Nat).log2 - (d + 52)))) = 0 := rne_small (by have := two_pow_pos (d + ((0 : Nat).log2 - (d + 52))); omega)
  rw [h, show (0 : Nat).log2 = 0 by rfl]; simp
/-- How many units the kept part has. -/
theorem rn_kept (n d : Nat) : rne n (2 ^ (d + (n.log2 - (d + 52)))) ≤ 2 * 4503599627370496 ∧ (n.log2 - (d + 52) = 0 ∨ 4503599627370496 ≤ rne n (2 ^ (d + (n.log2 - (d + 52))))) := by
  have hn : n < 2 ^ (n.log2 + 1) := Nat.lt_log2_self
  refine ⟨rne_le (two_pow_pos _) ?_, ?_⟩
  · have e : 2 * 4503599627370496 * 2 ^ (d + (n.log2 - (d + 52))) = 2 ^ (d + (n.log2 - (d + 52)) + 53) := by
      rw [Nat.pow_add _ _ 53, Nat.mul_comm]
    rw [e]
    exact Nat.le_trans (Nat.le_of_lt hn) (Nat.pow_le_pow_right (by decide) (by omega))
  · rcases Nat.eq_zero_or_pos (n.log2 - (d + 52)) with h | h
    · exact .inl h
    · right
      refine rne_ge (two_pow_pos _) ?_
      have n0 : n ≠ 0 := fun e => by subst e; rw [show (0 : Nat).log2 = 0 by rfl] at h; omega
      have e : 4503599627370496 * 2 ^ (d + (n.log2 - (d + 52))) = 2 ^ (d + (n.log2 - (d + 52)) + 52) := by
        rw [Nat.pow_add _ _ 52, Nat.mul_comm, BB_eq]
      rw [e, show d + (n.log2 - (d + 52)) + 52 = n.log2 by omega]
      exact Nat.log2_self_le n0
theorem U_rn (n d : Nat) : U (rn n d) = rne n (2 ^ (d + (n.log2 - (d + 52)))) * 2 ^ (n.log2 - (d + 52)) := by
  have := rn_kept n d
  unfold rn
  exact U_at _ _ this.2 this.1
theorem log2_mono {n n' : Nat} (h : n ≤ n') : n.log2 ≤ n'.log2 := by
  rcases Nat.eq_zero_or_pos n with rfl | p
  · rw [show (0 : Nat).log2 = 0 by rfl]; omega
  · exact (Nat.le_log2 (by omega)).2 (Nat.le_trans (Nat.log2_self_le (by omega)) h)
theorem rn_mono {n n' : Nat} (d : Nat) (h : n ≤ n') : rn n d ≤ rn n' d := by
  have hl := log2_mono h
  have k1 := rn_kept n d
  have k2 := rn_kept n' d
  unfold rn
  rcases Nat.lt_or_ge (n.log2 - (d + 52)) (n'.log2 - (d + 52)) with l | l
  · have hm : (n.log2 - (d + 52) + 1) * 4503599627370496 ≤ (n'.log2 - (d + 52)) * 4503599627370496 := Nat.mul_le_mul_right _ l
    rw [Nat.add_mul] at hm
    rcases k2.2 with z | z
    · omega
    · omega
  · have e : n.log2 - (d + 52) = n'.log2 - (d + 52) := by omega
    rw [e]
    exact Nat.add_le_add_left (rne_mono _ h) _
theorem log2_of {n k : Nat} (h1 : 2 ^ k ≤ n) (h2 : n < 2 ^ (k + 1)) : n.log2 = k := (Nat.log2_eq_iff (by have := two_pow_pos k; omega)).2 ⟨h1, h2⟩
/-- A rung's own number is nearest to it. -/
theorem rn_U (r d : Nat) : rn (U r * 2 ^ d) d = r := by
  rcases rung_cases r with h | ⟨e, q, hq, rfl⟩
  · rw [U_low h]
    rcases Nat.eq_zero_or_pos r with rfl | p
    · rw [Nat.zero_mul, rn_zero]
    · have hr : r * 2 ^ d < 2 ^ (d + 52) := by
        rw [Nat.pow_add, Nat.mul_comm]; exact Nat.mul_lt_mul_of_pos_left (by rw [BB_eq]; exact h) (two_pow_pos d)
      have hl : (r * 2 ^ d).log2 < d + 52 := (Nat.log2_lt (Nat.ne_of_gt (Nat.mul_pos p (two_pow_pos d)))).2 hr
      unfold rn
      rw [show (r * 2 ^ d).log2 - (d + 52) = 0 by omega, Nat.add_zero, rne_mul r (two_pow_pos d)]; simp
  · rw [U_high hq]
    have hN : (4503599627370496 + q) * 2 ^ e * 2 ^ d = (4503599627370496 + q) * 2 ^ (d + e) := by rw [Nat.mul_assoc, ← Nat.pow_add, Nat.add_comm e d]
    have hl : ((4503599627370496 + q) * 2 ^ e * 2 ^ d).log2 = d + e + 52 := by
      rw [hN]
      refine log2_of ?_ ?_
      · rw [Nat.pow_add, Nat.mul_comm, BB_eq]; exact Nat.mul_le_mul_right _ (by omega)
      · rw [show d + e + 52 + 1 = d + e + 53 by omega, Nat.pow_add 2 (d + e) 53, Nat.mul_comm]
        exact Nat.mul_lt_mul_of_pos_left (show 4503599627370496 + q < 2 ^ 53 by rw [show (2 : Nat) ^ 53 = 2 * 4503599627370496 by rfl]; omega) (two_pow_pos _)
    unfold rn
    rw [hl, show d + e + 52 - (d + 52) = e by omega, hN, rne_mul _ (two_pow_pos _), Nat.add_mul]
    omega
theorem U_lt_succ (r : Nat) : U r < U (r + 1) := by
  rcases rung_cases r with h | ⟨e, q, hq, rfl⟩
  · rw [U_low h]
    rcases Nat.lt_or_ge (r + 1) 4503599627370496 with l | l
    · rw [U_low l]; omega
    · obtain rfl : r = 4503599627370495 := by omega
      decide
  · rw [U_high hq]
    rcases Nat.lt_or_ge (q + 1) 4503599627370496 with l | l
    · rw [Nat.add_assoc, U_high l]
      exact Nat.mul_lt_mul_of_pos_right (by omega) (two_pow_pos e)
    · obtain rfl : q = 4503599627370495 := by omega
      have e1 : (e + 1) * 4503599627370496 + 4503599627370495 + 1 = (e + 1 + 1) * 4503599627370496 + 0 := by omega
      rw [e1, U_high (by decide), two_pow_succ, Nat.add_zero, ← Nat.mul_assoc, Nat.mul_comm 4503599627370496 2]
      exact Nat.mul_lt_mul_of_pos_right (by decide) (two_pow_pos e)
theorem U_lt {r r' : Nat} (h : r < r') : U r < U r' := by
  induction r' with
  | zero => omega
  | succ k ih =>
    rcases Nat.lt_or_ge r k with l | l
    · exact Nat.lt_trans (ih l) (U_lt_succ k)
    · obtain rfl : r = k := by omega
      exact U_lt_succ r
theorem U_le {r r' : Nat} (h : r ≤ r') : U r ≤ U r' := by
  rcases Nat.lt_or_ge r r' with l | l
  · exact Nat.le_of_lt (U_lt l)
  · obtain rfl : r = r' := by omega
    exact Nat.le_refl _
theorem U_lt_iff {r r' : Nat} : U r < U r' ↔ r < r' := ⟨fun h => by
  rcases Nat.lt_or_ge r r' with l | l
  · exact l
  · have := U_le l; omega, U_lt⟩
theorem U_inj {r r' : Nat} (h : U r = U r') : r = r' := by
  rcases Nat.lt_trichotomy r r' with l | l | l
  · have := U_lt l; omega
  · exact l
  · have := U_lt l; omega
theorem U_zero : U 0 = 0 := rfl
/-- What lies at or above a rung's number is rounded to it or above; what lies at or below, to it or below. -/
theorem rn_ge {n d r : Nat} (h : U r * 2 ^ d ≤ n) : r ≤ rn n d := by have := rn_mono d h; rwa [rn_U] at this
theorem rn_le {n d r : Nat} (h : n ≤ U r * 2 ^ d) : rn n d ≤ r := by have := rn_mono d h; rwa [rn_U] at this
/-- The error is at most half a unit of the last place kept. -/
theorem rn_err (n d : Nat) : 2 * (U (rn n d) * 2 ^ d) ≤ 2 * n + 2 ^ (d + (n.log2 - (d + 52))) ∧ 2 * n ≤ 2 * (U (rn n d) * 2 ^ d) + 2 ^ (d + (n.log2 - (d + 52))) := by
  rw [U_rn]
  have h := rne_err n (two_pow_pos (d + (n.log2 - (d + 52))))
  have e : rne n (2 ^ (d + (n.log2 - (d + 52)))) * 2 ^ (n.log2 - (d + 52)) * 2 ^ d = rne n (2 ^ (d + (n.log2 - (d + 52)))) * 2 ^ (d + (n.log2 - (d + 52))) := by
    rw [Nat.mul_assoc, ← Nat.pow_add, Nat.add_comm (n.log2 - (d + 52)) d]
  rw [e]; exact h
theorem log2_scale {n : Nat} (hn : n ≠ 0) (k : Nat) : (n * 2 ^ k).log2 = n.log2 + k := by
  refine log2_of ?_ ?_
  · rw [Nat.pow_add]; exact Nat.mul_le_mul_right _ (Nat.log2_self_le hn)
  · rw [show n.log2 + k + 1 = n.log2 + 1 + k by omega, Nat.pow_add]
    exact Nat.mul_lt_mul_of_pos_right Nat.lt_log2_self (two_pow_pos k)
/-- The same number, written finer. -/
theorem rn_scale (n d k : Nat) : rn (n * 2 ^ k) (d + k) = rn n d := by
  rcases Nat.eq_zero_or_pos n with rfl | p
  · rw [Nat.zero_mul, rn_zero, rn_zero]
  · unfold rn
    rw [log2_scale (by omega) k, show n.log2 + k - (d + k + 52) = n.log2 - (d + 52) by omega, show d + k + (n.log2 - (d + 52)) = d + (n.log2 - (d + 52)) + k by omega, Nat.pow_add, rne_scale _ _ (two_pow_pos k)]
end Go.Proofs.Ytiidmnmedkekjaa

namespace Go.Proofs.Ytiidmnmedkekjaa

/-- One is 2 to the power of E0 least units. -/
def E0 : Nat := 1074
theorem E0_eq : E0 = 1074 := rfl
/-- The word of a sign and a rung; a word's sign and rung; its number in least units. -/
def wd (s : Bool) (r : Nat) : Nat := if s then 9223372036854775808 + r else r
def sg (w : Nat) : Bool := w / 9223372036854775808 % 2 == 1
def rg (w : Nat) : Nat := w % 9223372036854775808
def SV (w : Nat) : Int := if sg w then -(U (rg w) : Int) else U (rg w)
def Fin (w : Nat) : Prop := rg w < 9218868437227405312
theorem rg_lt (w : Nat) : rg w < 9223372036854775808 := Nat.mod_lt _ (by decide)
theorem sg_wd (s : Bool) {r : Nat} (h : r < 9223372036854775808) : sg (wd s r) = s := by
  unfold sg wd
  cases s
  · rw [if_neg (by decide), Nat.div_eq_of_lt h]; rfl
  · rw [if_pos rfl, show (9223372036854775808 + r) / 9223372036854775808 = 1 by omega]; rfl
theorem rg_wd (s : Bool) {r : Nat} (h : r < 9223372036854775808) : rg (wd s r) = r := by
  unfold rg wd
  cases s
  · rw [if_neg (by decide)]; exact Nat.mod_eq_of_lt h
  · rw [if_pos rfl]; omega
theorem wd_is (s : Bool) (r : Nat) : Ieee.double.word s r = wd s r := rfl
theorem least_is : Ieee.double.leastPlace = -1074 := by decide
theorem inf_is : Ieee.double.infRung = 9218868437227405312 := by decide
theorem bin_is : Ieee.double.binade = 4503599627370496 := by decide
theorem sw_is : Ieee.double.signWeight = 9223372036854775808 := by decide

theorem toNat_cases (p : Int) : (∃ a : Nat, p = -1074 + a ∧ (p + 1074).toNat = a ∧ (-1074 - p).toNat = 0) ∨ (∃ d : Nat, 0 < d ∧ p = -1074 - d ∧ (p + 1074).toNat = 0 ∧ (-1074 - p).toNat = d) := by
  rcases Int.lt_or_le p (-1074) with h | h
  · exact .inr ⟨(-1074 - p).toNat, by omega, by omega, by omega, rfl⟩
  · exact .inl ⟨(p + 1074).toNat, by omega, rfl, by omega⟩
theorem nearest_is (s : Bool) (m : Nat) (p : Int) : Ieee.double.nearest s m p = wd s (min (rn (m * 2 ^ (p + 1074).toNat) (-1074 - p).toNat) 9218868437227405312) := by
  rcases Nat.eq_zero_or_pos m with rfl | hm
  · unfold Ieee.Format.nearest
    rw [if_pos rfl, Nat.zero_mul, rn_zero, wd_is]; rfl
  · have hl0 : (2 : Nat) ^ m.log2 ≤ m := Nat.log2_self_le (by omega)
    unfold Ieee.Format.nearest
    rw [if_neg (by omega), least_is, inf_is, bin_is, wd_is]
    simp only [cut_even, Nat.shiftLeft_eq]
    have hf : ((Ieee.double.fractionBits : Nat) : Int) = 52 := rfl
    rw [hf]
    refine congrArg (fun z => wd s (min z 9218868437227405312)) ?_
    rcases toNat_cases p with ⟨a, rfl, e1, e2⟩ | ⟨d, hd, rfl, e1, e2⟩
    · rw [e1, e2]
      unfold rn
      rw [log2_scale (by omega), Nat.zero_add, Nat.zero_add]
      obtain ⟨t, ht⟩ : ∃ t, m.log2 + a - 52 = t := ⟨_, rfl⟩
      have hmax : max (-1074 + (a : Int) + (m.log2 : Int) - 52) (-1074) = -1074 + (t : Int) := by omega
      rw [hmax, ht, show (-1074 + (t : Int) - -1074).toNat = t by omega]
      congr 1
      rcases Nat.lt_or_ge a t with h | h
      · rw [show (-1074 + (a : Int) - (-1074 + (t : Int))).toNat = 0 by omega, show (-1074 + (t : Int) - (-1074 + (a : Int))).toNat = t - a by omega, Nat.pow_zero, Nat.mul_one]
        rw [← rne_scale m (2 ^ (t - a)) (two_pow_pos a), ← Nat.pow_add, show t - a + a = t by omega]
      · rw [show (-1074 + (a : Int) - (-1074 + (t : Int))).toNat = a - t by omega, show (-1074 + (t : Int) - (-1074 + (a : Int))).toNat = 0 by omega, Nat.pow_zero, rne_one]
        rw [show m * 2 ^ a = m * 2 ^ (a - t) * 2 ^ t by rw [Nat.mul_assoc, ← Nat.pow_add, show a - t + t = a by omega], rne_mul _ (two_pow_pos t)]
    · rw [e1, e2, Nat.pow_zero, Nat.mul_one]
      unfold rn
      obtain ⟨t, ht⟩ : ∃ t, m.log2 - (d + 52) = t := ⟨_, rfl⟩
      have hmax : max (-1074 - (d : Int) + (m.log2 : Int) - 52) (-1074) = -1074 + (t : Int) := by omega
      rw [hmax, ht, show (-1074 + (t : Int) - -1074).toNat = t by omega]
      congr 1
      rw [show (-1074 - (d : Int) - (-1074 + (t : Int))).toNat = 0 by omega, show (-1074 + (t : Int) - (-1074 - (d : Int))).toNat = d + t by omega, Nat.pow_zero, Nat.mul_one]
/-- A finite word is a whole number times a power of two. -/
theorem read_fin {w : Nat} (h : Fin w) : ∃ m e : Nat, Ieee.double.read w = .number (sg w) m (-1074 + (e : Int)) ∧ U (rg w) = m * 2 ^ e := by
  unfold Fin at h
  have hs : (w / Ieee.double.signWeight % 2 == 1) = sg w := by rw [sw_is]; rfl
  have hr : w % Ieee.double.signWeight = rg w := by rw [sw_is]; rfl
  unfold Ieee.Format.read
  rw [hs, hr, bin_is, inf_is, least_is]
  dsimp only
  rcases Nat.lt_or_ge (rg w) 4503599627370496 with l | l
  · exact ⟨rg w, 0, by rw [if_pos l]; rfl, by rw [U_low l]; simp⟩
  · refine ⟨4503599627370496 + rg w % 4503599627370496, rg w / 4503599627370496 - 1, ?_, ?_⟩
    · rw [if_neg (by omega), if_pos h]
    · unfold U; rw [if_neg (by omega)]
theorem read_inf {w : Nat} (h : rg w = 9218868437227405312) : Ieee.double.read w = .infinity (sg w) := by
  have hs : (w / Ieee.double.signWeight % 2 == 1) = sg w := by rw [sw_is]; rfl
  have hr : w % Ieee.double.signWeight = rg w := by rw [sw_is]; rfl
  unfold Ieee.Format.read
  rw [hs, hr, bin_is, inf_is]
  dsimp only
  rw [if_neg (by omega), if_neg (by omega), if_pos h]
theorem read_nan {w : Nat} (h : 9218868437227405312 < rg w) : Ieee.double.read w = .nan (sg w) (rg w - 9218868437227405312) := by
  have hs : (w / Ieee.double.signWeight % 2 == 1) = sg w := by rw [sw_is]; rfl
  have hr : w % Ieee.double.signWeight = rg w := by rw [sw_is]; rfl
  unfold Ieee.Format.read
  rw [hs, hr, bin_is, inf_is]
  dsimp only
  rw [if_neg (by omega), if_neg (by omega), if_neg (by omega)]

theorem signed_mul (s : Bool) (m a b : Nat) : Ieee.signed s m a * ((2 ^ b : Nat) : Int) = if s then -((m * 2 ^ (a + b) : Nat) : Int) else ((m * 2 ^ (a + b) : Nat) : Int) := by
  unfold Ieee.signed
  rw [Nat.shiftLeft_eq]
  have e : ((m * 2 ^ a : Nat) : Int) * ((2 ^ b : Nat) : Int) = ((m * 2 ^ (a + b) : Nat) : Int) := by
    rw [← Int.natCast_mul, Nat.mul_assoc, ← Nat.pow_add]
  cases s
  · rw [if_neg (by decide), if_neg (by decide), e]
  · rw [if_pos rfl, if_pos rfl, Int.neg_mul, e]
/-- The sign of a sum: of zeros, the common sign or +. -/
def sumS (T : Int) (a b : Bool) : Bool := if T = 0 then a && b else decide (T < 0)
def SVs (s : Bool) (n : Nat) : Int := if s then -(n : Int) else n
theorem SV_is (w : Nat) : SV w = SVs (sg w) (U (rg w)) := rfl
theorem sum_is (s t : Bool) (m n e f : Nat) : (Ieee.Datum.sum (.number s m (-1074 + (e : Int))) (.number t n (-1074 + (f : Int)))).map Ieee.double.write = some (wd (sumS (SVs s (m * 2 ^ e) + SVs t (n * 2 ^ f)) s t) (min (rn (SVs s (m * 2 ^ e) + SVs t (n * 2 ^ f)).natAbs 0) 9218868437227405312)) := by
  obtain ⟨k, hk1, hk2, hk⟩ : ∃ k : Nat, k ≤ e ∧ k ≤ f ∧ min (-1074 + (e : Int)) (-1074 + (f : Int)) = -1074 + (k : Int) := ⟨min e f, by omega, by omega, by omega⟩
  unfold Ieee.Datum.sum
  dsimp only [Option.map_some, Ieee.Format.write]
  rw [hk, show (-1074 + (e : Int) - (-1074 + (k : Int))).toNat = e - k by omega, show (-1074 + (f : Int) - (-1074 + (k : Int))).toNat = f - k by omega]
  have h1 := signed_mul s m (e - k) k
  have h2 := signed_mul t n (f - k) k
  rw [show e - k + k = e by omega] at h1
  rw [show f - k + k = f by omega] at h2
  have e1 : SVs s (m * 2 ^ e) = Ieee.signed s m (e - k) * ((2 ^ k : Nat) : Int) := h1.symm
  have e2 : SVs t (n * 2 ^ f) = Ieee.signed t n (f - k) * ((2 ^ k : Nat) : Int) := h2.symm
  rw [e1, e2, ← Int.add_mul]
  generalize Ieee.signed s m (e - k) + Ieee.signed t n (f - k) = T
  have kp : (0 : Int) < ((2 ^ k : Nat) : Int) := Int.natCast_pos.2 (two_pow_pos k)
  have z1 : T * ((2 ^ k : Nat) : Int) = 0 ↔ T = 0 := ⟨fun h => by
    rcases Int.mul_eq_zero.1 h with h | h
    · exact h
    · omega, fun h => by rw [h, Int.zero_mul]⟩
  have z2 : T * ((2 ^ k : Nat) : Int) < 0 ↔ T < 0 := ⟨fun h => by
    rcases Int.lt_or_le T 0 with l | l
    · exact l
    · have := Int.mul_nonneg l (Int.le_of_lt kp); omega, fun h => Int.mul_neg_of_neg_of_pos h kp⟩
  rw [nearest_is, show (-1074 + (k : Int) + 1074).toNat = k by omega, show (-1074 - (-1074 + (k : Int))).toNat = 0 by omega]
  have e3 : (T * ((2 ^ k : Nat) : Int)).natAbs = T.natAbs * 2 ^ k := by rw [Int.natAbs_mul, Int.natAbs_natCast]
  rw [e3]
  congr 2
  unfold sumS
  by_cases h : T = 0
  · rw [if_pos h, if_pos (z1.2 h)]
  · rw [if_neg h, if_neg (fun g => h (z1.1 g))]
    exact (decide_eq_decide.2 z2).symm
theorem add_is {x y : Nat} (hx : Fin x) (hy : Fin y) : Ieee.double.add x y = some (wd (sumS (SV x + SV y) (sg x) (sg y)) (min (rn (SV x + SV y).natAbs 0) 9218868437227405312)) := by
  obtain ⟨m, e, r1, u1⟩ := read_fin hx
  obtain ⟨n, f, r2, u2⟩ := read_fin hy
  unfold Ieee.Format.add
  rw [r1, r2, sum_is, SV_is, SV_is, u1, u2]
theorem SVs_not (s : Bool) (n : Nat) : SVs (!s) n = -SVs s n := by
  unfold SVs; cases s
  · rw [if_pos (by rfl), if_neg (by decide)]
  · rw [if_neg (by decide), if_pos rfl, Int.neg_neg]
theorem sub_is {x y : Nat} (hx : Fin x) (hy : Fin y) : Ieee.double.sub x y = some (wd (sumS (SV x - SV y) (sg x) (!sg y)) (min (rn (SV x - SV y).natAbs 0) 9218868437227405312)) := by
  obtain ⟨m, e, r1, u1⟩ := read_fin hx
  obtain ⟨n, f, r2, u2⟩ := read_fin hy
  unfold Ieee.Format.sub
  rw [r1, r2, Ieee.Datum.opposite, sum_is, SV_is, SV_is, u1, u2, SVs_not, ← Int.sub_eq_add_neg]
theorem mul_is {x y : Nat} (hx : Fin x) (hy : Fin y) : Ieee.double.mul x y = some (wd (sg x ^^ sg y) (min (rn (U (rg x) * U (rg y)) E0) 9218868437227405312)) := by
  obtain ⟨m, e, r1, u1⟩ := read_fin hx
  obtain ⟨n, f, r2, u2⟩ := read_fin hy
  unfold Ieee.Format.mul
  rw [r1, r2, u1, u2]
  unfold Ieee.Datum.product
  dsimp only [Option.map_some, Ieee.Format.write]
  rw [nearest_is, show m * 2 ^ e * (n * 2 ^ f) = m * n * 2 ^ (e + f) by rw [Nat.pow_add, Nat.mul_mul_mul_comm]]
  refine congrArg (fun z => some (wd (sg x ^^ sg y) (min z 9218868437227405312))) ?_
  have hE := E0_eq
  rcases Nat.lt_or_ge (e + f) E0 with h | h
  · rw [show (-1074 + (e : Int) + (-1074 + (f : Int)) + 1074).toNat = 0 by omega, show (-1074 - (-1074 + (e : Int) + (-1074 + (f : Int)))).toNat = E0 - (e + f) by omega, Nat.pow_zero, Nat.mul_one]
    have := rn_scale (m * n) (E0 - (e + f)) (e + f)
    rw [show E0 - (e + f) + (e + f) = E0 by omega] at this
    exact this.symm
  · rw [show (-1074 + (e : Int) + (-1074 + (f : Int)) + 1074).toNat = e + f - E0 by omega, show (-1074 - (-1074 + (e : Int) + (-1074 + (f : Int)))).toNat = 0 by omega]
    have := rn_scale (m * n * 2 ^ (e + f - E0)) 0 E0
    rw [Nat.mul_assoc, ← Nat.pow_add, show e + f - E0 + E0 = e + f by omega, Nat.zero_add] at this
    exact this.symm

theorem compare_scale (a b : Int) (k : Nat) : compare (a * ((2 ^ k : Nat) : Int)) (b * ((2 ^ k : Nat) : Int)) = compare a b := by
  have kp : (0 : Int) < ((2 ^ k : Nat) : Int) := Int.natCast_pos.2 (two_pow_pos k)
  rcases Int.lt_trichotomy a b with h | h | h
  · rw [Int.compare_eq_lt.2 h, Int.compare_eq_lt.2 (Int.mul_lt_mul_of_pos_right h kp)]
  · subst h; rw [Int.compare_eq_eq.2 rfl, Int.compare_eq_eq.2 rfl]
  · rw [Int.compare_eq_gt.2 h, Int.compare_eq_gt.2 (Int.mul_lt_mul_of_pos_right h kp)]
theorem order_is {x y : Nat} (hx : Fin x) (hy : Fin y) : Ieee.double.order x y = some (compare (SV x) (SV y)) := by
  obtain ⟨m, e, r1, u1⟩ := read_fin hx
  obtain ⟨n, f, r2, u2⟩ := read_fin hy
  unfold Ieee.Format.order
  rw [r1, r2, SV_is, SV_is, u1, u2]
  obtain ⟨k, hk1, hk2, hk⟩ : ∃ k : Nat, k ≤ e ∧ k ≤ f ∧ min (-1074 + (e : Int)) (-1074 + (f : Int)) = -1074 + (k : Int) := ⟨min e f, by omega, by omega, by omega⟩
  unfold Ieee.Datum.order
  dsimp only
  rw [hk, show (-1074 + (e : Int) - (-1074 + (k : Int))).toNat = e - k by omega, show (-1074 + (f : Int) - (-1074 + (k : Int))).toNat = f - k by omega]
  have h1 := signed_mul (sg x) m (e - k) k
  have h2 := signed_mul (sg y) n (f - k) k
  rw [show e - k + k = e by omega] at h1
  rw [show f - k + k = f by omega] at h2
  have e1 : SVs (sg x) (m * 2 ^ e) = Ieee.signed (sg x) m (e - k) * ((2 ^ k : Nat) : Int) := h1.symm
  have e2 : SVs (sg y) (n * 2 ^ f) = Ieee.signed (sg y) n (f - k) * ((2 ^ k : Nat) : Int) := h2.symm
  rw [e1, e2, compare_scale]

theorem cut_zero (neg : Bool) (n drop : Nat) : Ieee.Toward.zero.cut neg n drop = n / 2 ^ drop := by
  unfold Ieee.Toward.cut
  simp only [Nat.shiftLeft_eq, Nat.one_mul, Bool.toNat_false, Nat.add_zero]
  rcases Nat.lt_or_ge drop (n.log2 + 2) with h | h
  · rw [Nat.min_eq_left (Nat.le_of_lt h)]
  · rw [Nat.min_eq_right h]
    have hn : n < 2 ^ (n.log2 + 1) := Nat.lt_log2_self
    have p : (2 : Nat) ^ (n.log2 + 1) ≤ 2 ^ drop := Nat.pow_le_pow_right (by decide) (by omega)
    have q : (2 : Nat) ^ (n.log2 + 1) ≤ 2 ^ (n.log2 + 2) := Nat.pow_le_pow_right (by decide) (by omega)
    rw [Nat.div_eq_of_lt (by omega), Nat.div_eq_of_lt (by omega)]
/-- One, in least units. -/
def ONE : Nat := 2 ^ E0
theorem ONE_split {e : Nat} (h : e ≤ E0) : ONE = 2 ^ (E0 - e) * 2 ^ e := by rw [← Nat.pow_add, Nat.sub_add_cancel h]; rfl
theorem ONE_pos : 0 < ONE := two_pow_pos _
theorem ONE_up {e : Nat} (h : E0 ≤ e) : 2 ^ e = 2 ^ (e - E0) * ONE := by rw [ONE, ← Nat.pow_add, Nat.sub_add_cancel h]
theorem toInt_is {x : Nat} (hx : Fin x) : (Ieee.double.read x).toInt .zero = some (SVs (sg x) (U (rg x) / ONE)) := by
  obtain ⟨m, e, r1, u1⟩ := read_fin hx
  rw [r1, u1]
  unfold Ieee.Datum.toInt Ieee.Datum.integral
  dsimp only
  rw [cut_zero, Nat.shiftLeft_eq]
  have key : m * 2 ^ (-1074 + (e : Int)).toNat / 2 ^ (-(-1074 + (e : Int))).toNat = m * 2 ^ e / ONE := by
    have hE := E0_eq
    rcases Nat.lt_or_ge e E0 with h | h
    · rw [show (-1074 + (e : Int)).toNat = 0 by omega, show (-(-1074 + (e : Int))).toNat = E0 - e by omega, Nat.pow_zero, Nat.mul_one]
      rw [ONE_split (Nat.le_of_lt h), Nat.mul_div_mul_right _ _ (two_pow_pos e)]
    · rw [show (-1074 + (e : Int)).toNat = e - E0 by omega, show (-(-1074 + (e : Int))).toNat = 0 by omega, Nat.pow_zero, Nat.div_one]
      rw [ONE_up h, ← Nat.mul_assoc, Nat.mul_div_cancel _ ONE_pos]
  rw [key]
  unfold Ieee.signed SVs
  rw [Nat.shiftLeft_eq, Nat.pow_zero, Nat.mul_one]
theorem ofInt_is (n : Int) : Ieee.double.write (.number (decide (n < 0)) n.natAbs 0) = wd (decide (n < 0)) (min (rn (n.natAbs * ONE) 0) 9218868437227405312) := by
  show Ieee.double.nearest _ _ _ = _
  rw [nearest_is, show ((0 : Int) + 1074).toNat = E0 from rfl, show (-1074 - (0 : Int)).toNat = 0 by omega]
  rfl
end Go.Proofs.Ytiidmnmedkekjaa

namespace Go.Proofs.Ytiidmnmedkekjaa

theorem ONE_is : ONE = 2 ^ E0 := rfl
/-- A binade's first number. -/
theorem U_two {e j : Nat} (h : e + j = E0) : U ((e + 1) * 4503599627370496) * 2 ^ j = 4503599627370496 * ONE := by
  have h1 : U ((e + 1) * 4503599627370496 + 0) = (4503599627370496 + 0) * 2 ^ e := U_high (by decide)
  rw [Nat.add_zero, Nat.add_zero] at h1
  rw [h1, Nat.mul_assoc, ← Nat.pow_add, h, ONE_is]
theorem U_up {e j : Nat} (h : e = j + E0) : U ((e + 1) * 4503599627370496) = 4503599627370496 * 2 ^ j * ONE := by
  have h1 : U ((e + 1) * 4503599627370496 + 0) = (4503599627370496 + 0) * 2 ^ e := U_high (by decide)
  rw [Nat.add_zero, Nat.add_zero] at h1
  rw [h1, h, Nat.pow_add, Nat.mul_assoc, ONE_is]
theorem U_half2 : 2 * U 4602678819172646912 = ONE := by
  have h := U_two (e := 1021) (j := 53) rfl
  rw [show (1021 + 1) * 4503599627370496 = 4602678819172646912 by decide, show (2 : Nat) ^ 53 = 9007199254740992 by decide] at h
  generalize U 4602678819172646912 = u at h ⊢
  generalize ONE = o at h ⊢
  omega
theorem U_one : U 4607182418800017408 = ONE := by
  have h := U_two (e := 1022) (j := 52) rfl
  rw [show (1022 + 1) * 4503599627370496 = 4607182418800017408 by decide, show (2 : Nat) ^ 52 = 4503599627370496 by decide] at h
  generalize U 4607182418800017408 = u at h ⊢
  generalize ONE = o at h ⊢
  omega
theorem U_p53 : U 4845873199050653696 = 9007199254740992 * ONE := by
  have h := U_up (e := 1075) (j := 1) rfl
  rw [show (1075 + 1) * 4503599627370496 = 4845873199050653696 by decide] at h
  rw [h]
theorem U_p62 : U 4886405595696988160 = 4611686018427387904 * ONE := by
  have h := U_up (e := 1084) (j := 10) rfl
  rw [show (1084 + 1) * 4503599627370496 = 4886405595696988160 by decide] at h
  rw [h]
theorem log2_lt_of {n k : Nat} (h : n < 2 ^ k) (hk : 0 < k) : n.log2 < k := by
  rcases Nat.eq_zero_or_pos n with rfl | p
  · rw [show (0 : Nat).log2 = 0 by rfl]; exact hk
  · exact (Nat.log2_lt (by omega)).2 h
/-- A number with at most 53 binary digits is a rung's. -/
theorem rn_exact {k e : Nat} (hk : k ≤ 9007199254740992) : U (rn (k * 2 ^ e) 0) = k * 2 ^ e := by
  obtain ⟨k', e', h', he⟩ : ∃ k' e' : Nat, k' < 9007199254740992 ∧ k' * 2 ^ e' = k * 2 ^ e := by
    rcases Nat.lt_or_ge k 9007199254740992 with h | h
    · exact ⟨k, e, h, rfl⟩
    · obtain rfl : k = 9007199254740992 := by omega
      exact ⟨4503599627370496, e + 1, by decide, by rw [two_pow_succ, ← Nat.mul_assoc]⟩
  rw [← he]
  clear he hk
  have hlt : k' * 2 ^ e' < 2 ^ (53 + e') := by
    rw [Nat.pow_add 2 53 e']
    exact Nat.mul_lt_mul_of_pos_right h' (two_pow_pos e')
  have hl := log2_lt_of hlt (by omega)
  rw [U_rn, Nat.zero_add]
  generalize hs : (k' * 2 ^ e').log2 - (0 + 52) = s
  have hs' : s ≤ e' := by omega
  have e1 : k' * 2 ^ e' = k' * 2 ^ (e' - s) * 2 ^ s := by rw [Nat.mul_assoc, ← Nat.pow_add, Nat.sub_add_cancel hs']
  have e2 : rne (k' * 2 ^ e') (2 ^ s) = k' * 2 ^ (e' - s) := by rw [e1]; exact rne_mul _ (two_pow_pos s)
  rw [e2, e1]
theorem rn_int {k : Nat} (hk : k ≤ 9007199254740992) : U (rn (k * ONE) 0) = k * ONE := by rw [ONE_is]; exact rn_exact hk
/-- A rung's number has at most 53 digits. -/
theorem U_digits (r : Nat) : ∃ k e : Nat, k < 9007199254740992 ∧ U r = k * 2 ^ e ∧ (e = 0 ∨ 4503599627370496 ≤ k) := by
  rcases rung_cases r with h | ⟨e, q, hq, rfl⟩
  · exact ⟨r, 0, by omega, by rw [U_low h]; simp, .inl rfl⟩
  · exact ⟨4503599627370496 + q, e, by omega, U_high hq, .inr (by omega)⟩

def fi (n : Int) : Nat := wd (decide (n < 0)) (min (rn (n.natAbs * ONE) 0) 9218868437227405312)
theorem rn_upto {n r : Nat} (h : n ≤ U r) : rn n 0 ≤ r := rn_le (by rw [Nat.pow_zero, Nat.mul_one]; exact h)
theorem rn_from {n r : Nat} (h : U r ≤ n) : r ≤ rn n 0 := rn_ge (by rw [Nat.pow_zero, Nat.mul_one]; exact h)
theorem rn_of_U (r : Nat) : rn (U r) 0 = r := by have := rn_U r 0; rwa [Nat.pow_zero, Nat.mul_one] at this
theorem SV_wd {s : Bool} {r : Nat} (h : r < 9223372036854775808) : SV (wd s r) = SVs s (U r) := by rw [SV_is, sg_wd s h, rg_wd s h]
theorem Fin_wd {s : Bool} {r : Nat} (h : r < 9218868437227405312) : Fin (wd s r) := by unfold Fin; rw [rg_wd s (by omega)]; exact h
theorem SVs_sign (n : Int) (m : Nat) : SVs (decide (n < 0)) (n.natAbs * m) = n * (m : Int) := by
  unfold SVs
  rcases Int.lt_or_le n 0 with h | h
  · rw [decide_eq_true h, if_pos rfl, Int.natCast_mul, ← Int.neg_mul, Int.ofNat_natAbs_of_nonpos (Int.le_of_lt h), Int.neg_neg]
  · rw [decide_eq_false (by omega), if_neg (by decide), Int.natCast_mul, Int.natAbs_of_nonneg h]
/-- Where the number of an integer is a rung's, its word has it. -/
theorem fi_at {n : Int} {r : Nat} (hr : r < 9218868437227405312) (h : n.natAbs * ONE = U r) : fi n = wd (decide (n < 0)) r ∧ SV (fi n) = n * (ONE : Int) ∧ Fin (fi n) := by
  have e : fi n = wd (decide (n < 0)) r := by unfold fi; rw [h, rn_of_U, Nat.min_eq_left (Nat.le_of_lt hr)]
  refine ⟨e, ?_, by rw [e]; exact Fin_wd hr⟩
  rw [e, SV_wd (by omega), ← h, SVs_sign]
theorem fi_small {n : Int} (h : n.natAbs ≤ 9007199254740992) : SV (fi n) = n * (ONE : Int) ∧ Fin (fi n) := by
  have e := rn_int h
  have hb : rn (n.natAbs * ONE) 0 ≤ 4845873199050653696 := rn_upto (by rw [U_p53]; exact Nat.mul_le_mul_right _ h)
  exact (fi_at (r := rn (n.natAbs * ONE) 0) (by omega) e.symm).2

def fl (x : Nat) : Int := SV x / (ONE : Int)
def fr (x : Nat) : Nat := (SV x % (ONE : Int)).toNat
theorem ONE_int : (0 : Int) < (ONE : Int) := Int.natCast_pos.2 ONE_pos
theorem fr_lt (x : Nat) : fr x < ONE := by
  have h := Int.emod_lt_of_pos (SV x) ONE_int
  have h2 := Int.emod_nonneg (SV x) (Int.ne_of_gt ONE_int)
  unfold fr; omega
theorem SV_fl (x : Nat) : SV x = fl x * (ONE : Int) + (fr x : Int) := by
  have h := Int.mul_ediv_add_emod (SV x) (ONE : Int)
  have h2 := Int.emod_nonneg (SV x) (Int.ne_of_gt ONE_int)
  unfold fl fr
  rw [Int.toNat_of_nonneg h2, Int.mul_comm]; exact h.symm
/-- The floor, from what it is. -/
theorem fl_of {x : Nat} {n : Int} {t : Nat} (h : SV x = n * (ONE : Int) + (t : Int)) (ht : t < ONE) : fl x = n ∧ fr x = t := by
  have e1 : SV x / (ONE : Int) = n := by
    rw [h, Int.add_comm, Int.add_mul_ediv_right _ _ (Int.ne_of_gt ONE_int), Int.ediv_eq_zero_of_lt (by omega) (by omega)]; omega
  refine ⟨e1, ?_⟩
  have := SV_fl x
  rw [show fl x = n from e1, h] at this
  omega
/-- What int(x) gives. -/
def tr (x : Nat) : Int := SVs (sg x) (U (rg x) / ONE)
theorem tr_fl (x : Nat) : (SV x < tr x * (ONE : Int) ∧ fl x = tr x - 1) ∨ (¬ SV x < tr x * (ONE : Int) ∧ fl x = tr x) := by
  have hm := Nat.div_add_mod (U (rg x)) ONE
  have hl := Nat.mod_lt (U (rg x)) ONE_pos
  generalize hq : U (rg x) / ONE = q at *
  generalize hr : U (rg x) % ONE = r at *
  have hx : SV x = SVs (sg x) (U (rg x)) := SV_is x
  have ht : tr x = SVs (sg x) q := by unfold tr; rw [hq]
  rw [← hm] at hx
  unfold SVs at hx ht
  have hc : ((ONE * q + r : Nat) : Int) = (q : Int) * (ONE : Int) + (r : Int) := by rw [Int.natCast_add, Int.natCast_mul, Int.mul_comm]
  rw [hc] at hx
  cases hs : sg x
  · rw [hs, if_neg (by decide)] at hx ht
    right
    rw [ht]
    exact ⟨by rw [hx]; omega, (fl_of hx hl).1⟩
  · rw [hs, if_pos rfl] at hx ht
    rcases Nat.eq_zero_or_pos r with h0 | hp
    · right
      rw [ht]
      have e : SV x = -(q : Int) * (ONE : Int) + ((0 : Nat) : Int) := by rw [hx, h0, Int.neg_mul]; omega
      exact ⟨by rw [e]; omega, (fl_of e ONE_pos).1⟩
    · left
      rw [ht]
      have e : SV x = (-(q : Int) - 1) * (ONE : Int) + ((ONE - r : Nat) : Int) := by
        rw [hx, Int.sub_mul, Int.neg_mul, Int.one_mul, Int.ofNat_sub (Nat.le_of_lt hl)]; omega
      exact ⟨by rw [hx, Int.neg_mul]; omega, (fl_of e (by omega)).1⟩
theorem natAbs_SV (x : Nat) : (SV x).natAbs = U (rg x) := by rw [SV_is]; unfold SVs; split <;> omega
/-- A word from 2^53 on is an integer's. -/
theorem fr_big {x : Nat} (h : 9007199254740992 * ONE ≤ U (rg x)) : fr x = 0 ∧ fl x * (ONE : Int) = SV x := by
  obtain ⟨k, e, hk, hu, _⟩ := U_digits (rg x)
  have he : E0 ≤ e := by
    rcases Nat.lt_or_ge e E0 with l | l
    · exfalso
      have h1 : (2 : Nat) ^ e ≤ ONE := Nat.pow_le_pow_right (by decide) (Nat.le_of_lt l)
      have h2 : k * 2 ^ e < 9007199254740992 * 2 ^ e := Nat.mul_lt_mul_of_pos_right hk (two_pow_pos e)
      have h3 : 9007199254740992 * 2 ^ e ≤ 9007199254740992 * ONE := Nat.mul_le_mul_left _ h1
      omega
    · exact l
  rw [ONE_up he, ← Nat.mul_assoc] at hu
  generalize k * 2 ^ (e - E0) = j at hu
  have hx : SV x = SVs (sg x) (j * ONE) := by rw [SV_is, hu]
  obtain ⟨n, hn⟩ : ∃ n : Int, SV x = n * (ONE : Int) + ((0 : Nat) : Int) := by
    unfold SVs at hx
    rw [Int.natCast_mul] at hx
    cases hs : sg x
    · rw [hs, if_neg (by decide)] at hx; exact ⟨j, by rw [hx]; omega⟩
    · rw [hs, if_pos rfl] at hx; exact ⟨-j, by rw [hx, Int.neg_mul]; omega⟩
  obtain ⟨a, b⟩ := fl_of hn ONE_pos
  exact ⟨b, by rw [a, hn]; omega⟩
theorem fl_bd {x : Nat} (h : U (rg x) < 9007199254740992 * ONE) : -9007199254740992 ≤ fl x ∧ fl x < 9007199254740992 ∧ -9007199254740992 < tr x ∧ tr x < 9007199254740992 := by
  have ha := natAbs_SV x
  have hs := SV_fl x
  have hf := fr_lt x
  have hp := ONE_int
  have hq : U (rg x) / ONE < 9007199254740992 := (Nat.div_lt_iff_lt_mul ONE_pos).2 h
  have h1 : SV x < 9007199254740992 * (ONE : Int) := by omega
  have h2 : -9007199254740992 * (ONE : Int) < SV x := by omega
  refine ⟨?_, ?_, ?_, ?_⟩
  · rcases Int.lt_or_le (fl x) (-9007199254740992) with l | l
    · have : (fl x + 1) * (ONE : Int) ≤ -9007199254740992 * (ONE : Int) := Int.mul_le_mul_of_nonneg_right (by omega) (Int.le_of_lt hp)
      rw [Int.add_mul, Int.one_mul] at this; omega
    · exact l
  · rcases Int.lt_or_le (fl x) 9007199254740992 with l | l
    · exact l
    · have : 9007199254740992 * (ONE : Int) ≤ fl x * (ONE : Int) := Int.mul_le_mul_of_nonneg_right l (Int.le_of_lt hp)
      omega
  · unfold tr SVs; generalize U (rg x) / ONE = t at hq; split <;> omega
  · unfold tr SVs; generalize U (rg x) / ONE = t at hq; split <;> omega

def RD (x : Nat) : Int := if 2 * fr x < ONE then fl x else if ONE < 2 * fr x then fl x + 1 else if fl x % 2 = 0 then fl x else fl x + 1
/-- The fraction is a rung's number, but for negative numbers above -1/2. -/
theorem fr_exact {x : Nat} (h : sg x = false ∨ ONE ≤ 2 * U (rg x)) : U (rn (fr x) 0) = fr x := by
  obtain ⟨k, e, hk, hu, _⟩ := U_digits (rg x)
  rcases Nat.lt_or_ge e E0 with l | l
  · obtain ⟨d, hd⟩ : ∃ d, E0 - e = d := ⟨_, rfl⟩
    have ho : ONE = 2 ^ d * 2 ^ e := by rw [← hd]; exact ONE_split (Nat.le_of_lt l)
    have hp := two_pow_pos e
    have hfr : ∃ t, fr x = t * 2 ^ e ∧ t < 2 ^ d ∧ (sg x = false → t ≤ k) := by
      have hx : SV x = SVs (sg x) k * ((2 ^ e : Nat) : Int) := by rw [SV_is, hu]; unfold SVs; cases sg x <;> simp [Int.neg_mul]
      have hdp := two_pow_pos d
      have m1 := Int.emod_nonneg (SVs (sg x) k) (b := ((2 ^ d : Nat) : Int)) (by omega)
      have m2 := Int.emod_lt_of_pos (SVs (sg x) k) (b := ((2 ^ d : Nat) : Int)) (by omega)
      have m3 := Int.mul_ediv_add_emod (SVs (sg x) k) ((2 ^ d : Nat) : Int)
      refine ⟨(SVs (sg x) k % ((2 ^ d : Nat) : Int)).toNat, ?_, by omega, fun hs => ?_⟩
      · refine (fl_of (n := SVs (sg x) k / ((2 ^ d : Nat) : Int)) ?_ ?_).2
        · rw [hx, ho, Int.natCast_mul, Int.natCast_mul, Int.toNat_of_nonneg m1, ← Int.mul_assoc, ← Int.add_mul, Int.mul_comm (SVs (sg x) k / ((2 ^ d : Nat) : Int)), m3]
        · rw [ho]; exact Nat.mul_lt_mul_of_pos_right (by omega) hp
      · have e1 : SVs (sg x) k = (k : Int) := by rw [hs]; rfl
        rw [e1]
        have : (k : Int) % ((2 ^ d : Nat) : Int) = ((k % 2 ^ d : Nat) : Int) := (Int.natCast_emod k (2 ^ d)).symm
        rw [this]
        have := Nat.mod_le k (2 ^ d)
        omega
    obtain ⟨t, ht, htd, htk⟩ := hfr
    rw [ht]
    refine rn_exact ?_
    rcases h with h | h
    · have := htk h; omega
    · have h1 : ONE ≤ 2 * (k * 2 ^ e) := by rw [← hu]; exact h
      have h2 : 2 ^ d ≤ 2 * k := by
        rw [ho, ← Nat.mul_assoc] at h1
        exact Nat.le_of_mul_le_mul_right h1 hp
      have hd54 : d < 54 ∨ 54 ≤ d := by omega
      rcases hd54 with g | g
      · have : (2 : Nat) ^ d ≤ 2 ^ 53 := Nat.pow_le_pow_right (by decide) (by omega)
        have e53 : (2 : Nat) ^ 53 = 9007199254740992 := rfl
        omega
      · have : (2 : Nat) ^ 54 ≤ 2 ^ d := Nat.pow_le_pow_right (by decide) g
        have e54 : (2 : Nat) ^ 54 = 18014398509481984 := rfl
        omega
  · have hu' : U (rg x) = k * 2 ^ (e - E0) * ONE := by rw [hu, ONE_up l, ← Nat.mul_assoc]
    generalize k * 2 ^ (e - E0) = j at hu'
    have hz : fr x = 0 := by
      have hx : SV x = SVs (sg x) (j * ONE) := by rw [SV_is, hu']
      unfold SVs at hx
      rw [Int.natCast_mul] at hx
      cases hs : sg x
      · rw [hs, if_neg (by decide)] at hx
        exact (fl_of (n := j) (t := 0) (by rw [hx]; omega) ONE_pos).2
      · rw [hs, if_pos rfl] at hx
        exact (fl_of (n := -j) (t := 0) (by rw [hx, Int.neg_mul]; omega) ONE_pos).2
    rw [hz, rn_zero]; rfl
end Go.Proofs.Ytiidmnmedkekjaa

namespace Go.Proofs.Ytiidmnmedkekjaa
open Go.RowKit

section
variable {x y : Nat} (hx : Fin x) (hy : Fin y)
include hx hy
theorem ord_lt (h : SV x < SV y) : FloatKind.f64.format.order x y = some .lt := by
  have e : FloatKind.f64.format.order x y = some (compare (SV x) (SV y)) := order_is hx hy
  rw [e, Int.compare_eq_lt.2 h]
theorem ord_eq (h : SV x = SV y) : FloatKind.f64.format.order x y = some .eq := by
  have e : FloatKind.f64.format.order x y = some (compare (SV x) (SV y)) := order_is hx hy
  rw [e, Int.compare_eq_eq.2 h]
theorem ord_gt (h : SV y < SV x) : FloatKind.f64.format.order x y = some .gt := by
  have e : FloatKind.f64.format.order x y = some (compare (SV x) (SV y)) := order_is hx hy
  rw [e, Int.compare_eq_gt.2 h]
end
theorem run_fsub {P : Program} (t : Nat) {x y r : Nat} (h : Ieee.double.sub x y = some r) (w : World) : (binOp .sub t (.float .f64 x) (.float .f64 y)).run P w = .ok (.float .f64 r) w := run_float_arith w .sub t .f64 x y r h
theorem run_fadd {P : Program} (t : Nat) {x y r : Nat} (h : Ieee.double.add x y = some r) (w : World) : (binOp .add t (.float .f64 x) (.float .f64 y)).run P w = .ok (.float .f64 r) w := run_float_arith w .add t .f64 x y r h
theorem run_fmul {P : Program} (t : Nat) {x y r : Nat} (h : Ieee.double.mul x y = some r) (w : World) : (binOp .mul t (.float .f64 x) (.float .f64 y)).run P w = .ok (.float .f64 r) w := run_float_arith w .mul t .f64 x y r h
theorem run_fdiv {P : Program} (t : Nat) {x y r : Nat} (h : Ieee.double.div x y = some r) (w : World) : (binOp .quo t (.float .f64 x) (.float .f64 y)).run P w = .ok (.float .f64 r) w := run_float_arith w .quo t .f64 x y r h
theorem fi_of (n : Int) : floatOfInt .f64 n = fi n := ofInt_is n
theorem toI_of {x : Nat} (hx : Fin x) (h1 : -9223372036854775808 ≤ tr x) (h2 : tr x ≤ 9223372036854775807) : floatToIntVal .f64 x .i64 = some (tr x) := by
  have e : (FloatKind.f64.decode x).toInt .zero = some (tr x) := toInt_is hx
  unfold floatToIntVal
  rw [e]
  dsimp only
  rw [if_pos ⟨h1, h2⟩]

abbrev wS : Nat := 4629005339494030828
abbrev wE : Nat := 4694518943220530644
theorem fin_S : Fin wS := by unfold Fin; decide
theorem fin_E : Fin wE := by unfold Fin; decide
def finB (x : Nat) : Bool := decide (rg x < 9218868437227405312)
theorem finB_iff {x : Nat} : finB x = true ↔ Fin x := by unfold finB Fin; exact decide_eq_true_iff
/-- The rounded difference, and the quotient. -/
def dW (x : Nat) : Nat := (Ieee.double.sub x wE).getD 0
def qW (x : Nat) : Nat := (Ieee.double.div (dW x) wS).getD 0
theorem sub_E {x : Nat} (hx : Fin x) : Ieee.double.sub x wE = some (dW x) := by unfold dW; rw [sub_is hx fin_E]; rfl
theorem read_S : Ieee.double.read wS = .number false 8312121811901932 (-48) := by decide
theorem div_S {d : Nat} (h : ∃ m e, Ieee.double.read d = .number (sg d) m e) : ∃ q, Ieee.double.div d wS = some q := by
  obtain ⟨m, e, h⟩ := h
  unfold Ieee.Format.div
  rw [h, read_S]
  unfold Ieee.Datum.quotient
  dsimp only
  rw [if_neg (by decide)]
  exact ⟨_, rfl⟩
theorem rn_max : rn (U 9218868437227405311 + U wE) 0 = 9218868437227405311 := by decide +kernel
theorem dW_fin {x : Nat} (hx : Fin x) : Fin (dW x) := by
  unfold dW
  rw [sub_is hx fin_E, Option.getD_some]
  refine Fin_wd ?_
  have h1 := natAbs_SV x
  have h2 := natAbs_SV wE
  have h3 : U (rg x) ≤ U 9218868437227405311 := U_le (by unfold Fin at hx; omega)
  have h4 : (SV x - SV wE).natAbs ≤ U 9218868437227405311 + U wE := by
    rw [show rg wE = wE by decide] at h2
    omega
  have h5 := rn_mono 0 h4
  rw [rn_max] at h5
  omega
theorem div_q {x : Nat} (hx : Fin x) : Ieee.double.div (dW x) wS = some (qW x) := by
  obtain ⟨m, e, h, _⟩ := read_fin (dW_fin hx)
  obtain ⟨q, hq⟩ := div_S ⟨m, _, h⟩
  unfold qW; rw [hq]; rfl

def big (x : Nat) : Bool := decide (9007199254740992 * ONE ≤ U (rg x))
def FLw (x : Nat) : Nat := if big x = true then x else fi (fl x)
theorem big_no {x : Nat} (h : big x = false) : U (rg x) < 9007199254740992 * ONE := by
  unfold big at h
  have := of_decide_eq_false h
  omega
theorem FLw_SV {x : Nat} (hx : Fin x) : SV (FLw x) = fl x * (ONE : Int) ∧ Fin (FLw x) := by
  unfold FLw
  cases h : big x
  · rw [if_neg (by decide)]
    have hb := fl_bd (big_no h)
    exact fi_small (by omega)
  · rw [if_pos rfl]
    exact ⟨(fr_big (of_decide_eq_true h)).2.symm, hx⟩
theorem SV_p53 : SV 4845873199050653696 = 9007199254740992 * (ONE : Int) := by
  have : SV (wd false 4845873199050653696) = SVs false (U 4845873199050653696) := SV_wd (by decide)
  rw [U_p53] at this
  rw [show wd false 4845873199050653696 = 4845873199050653696 from rfl] at this
  rw [this]; unfold SVs; rw [if_neg (by decide), Int.natCast_mul]; rfl
theorem SV_m53 : SV 14069245235905429504 = -(9007199254740992 * (ONE : Int)) := by
  have : SV (wd true 4845873199050653696) = SVs true (U 4845873199050653696) := SV_wd (by decide)
  rw [U_p53] at this
  rw [show wd true 4845873199050653696 = 14069245235905429504 by decide] at this
  rw [this]; unfold SVs; rw [if_pos rfl, Int.natCast_mul]; rfl
theorem fin_p53 : Fin 4845873199050653696 := by unfold Fin; decide
theorem fin_m53 : Fin 14069245235905429504 := by unfold Fin; decide
theorem fin_half : Fin 4602678819172646912 := by unfold Fin; decide
theorem SV_one : SV 4607182418800017408 = (ONE : Int) := by
  have : SV (wd false 4607182418800017408) = SVs false (U 4607182418800017408) := SV_wd (by decide)
  rw [show wd false 4607182418800017408 = 4607182418800017408 from rfl] at this
  rw [this, U_one]; rfl
theorem fin_one : Fin 4607182418800017408 := by unfold Fin; decide
theorem SV_zero : SV 0 = 0 := by decide
theorem fin_zero : Fin 0 := by unfold Fin; decide
theorem SV_p62 : SV 4886405595696988160 = 4611686018427387904 * (ONE : Int) := by
  have : SV (wd false 4886405595696988160) = SVs false (U 4886405595696988160) := SV_wd (by decide)
  rw [U_p62] at this
  rw [show wd false 4886405595696988160 = 4886405595696988160 from rfl] at this
  rw [this]; unfold SVs; rw [if_neg (by decide), Int.natCast_mul]; rfl
theorem SV_m62 : SV 14109777632551763968 = -(4611686018427387904 * (ONE : Int)) := by
  have : SV (wd true 4886405595696988160) = SVs true (U 4886405595696988160) := SV_wd (by decide)
  rw [U_p62] at this
  rw [show wd true 4886405595696988160 = 14109777632551763968 by decide] at this
  rw [this]; unfold SVs; rw [if_pos rfl, Int.natCast_mul]; rfl
theorem fin_p62 : Fin 4886405595696988160 := by unfold Fin; decide
theorem fin_m62 : Fin 14109777632551763968 := by unfold Fin; decide

def ph (q : Nat) : Nat := if rn (fr q) 0 = 0 ∨ rn (fr q) 0 = 4607182418800017408 then 0 else rn (fr q) 0
theorem rn_fr (q : Nat) : rn (fr q) 0 ≤ 4607182418800017408 := rn_upto (by rw [U_one]; exact Nat.le_of_lt (fr_lt q))
/-- The rounded difference of a quotient and its floor. -/
def fW (q : Nat) : Nat := wd (sumS (fr q : Int) (sg q) (!sg (FLw q))) (rn (fr q) 0)
theorem sub_fl {q : Nat} (hq : Fin q) : Ieee.double.sub q (FLw q) = some (fW q) ∧ Fin (fW q) ∧ SV (fW q) = (U (rn (fr q) 0) : Int) := by
  obtain ⟨h1, h2⟩ := FLw_SV hq
  have h3 := SV_fl q
  have h4 := rn_fr q
  have e : SV q - SV (FLw q) = (fr q : Int) := by rw [h1]; omega
  refine ⟨?_, ?_, ?_⟩
  · rw [sub_is hq h2, e, Int.natAbs_natCast, Nat.min_eq_left (by omega)]; rfl
  · exact Fin_wd (by omega)
  · unfold fW
    rw [SV_wd (by omega)]
    rcases Nat.eq_zero_or_pos (fr q) with z | p
    · rw [z, rn_zero]; unfold SVs; split <;> rfl
    · have : sumS (fr q : Int) (sg q) (!sg (FLw q)) = false := by
        unfold sumS; rw [if_neg (by omega)]; exact decide_eq_false (by omega)
      rw [this]; rfl
/-- What Phase gives is nought or lies strictly between nought and one. -/
theorem ph_cases (q : Nat) : (ph q = 0 ∧ (rn (fr q) 0 = 0 ∨ rn (fr q) 0 = 4607182418800017408)) ∨ (ph q = rn (fr q) 0 ∧ 0 < rn (fr q) 0 ∧ rn (fr q) 0 < 4607182418800017408) := by
  unfold ph
  have := rn_fr q
  by_cases h : rn (fr q) 0 = 0 ∨ rn (fr q) 0 = 4607182418800017408
  · rw [if_pos h]; exact .inl ⟨rfl, h⟩
  · rw [if_neg h]; exact .inr ⟨rfl, by omega, by omega⟩
theorem fW_pos {q : Nat} (h : 0 < rn (fr q) 0) : fW q = rn (fr q) 0 := by
  have p : 0 < fr q := by
    rcases Nat.eq_zero_or_pos (fr q) with z | p
    · rw [z, rn_zero] at h; omega
    · exact p
  have : sumS (fr q : Int) (sg q) (!sg (FLw q)) = false := by
    unfold sumS; rw [if_neg (by omega)]; exact decide_eq_false (by omega)
  unfold fW; rw [this]; rfl
theorem ph_lt (q : Nat) : ph q < 4607182418800017408 := by rcases ph_cases q with ⟨e, _⟩ | ⟨e, _, h⟩ <;> omega
theorem rg_small {w : Nat} (h : w < 9223372036854775808) : rg w = w := Nat.mod_eq_of_lt h
theorem sg_small {w : Nat} (h : w < 9223372036854775808) : sg w = false := by unfold sg; rw [Nat.div_eq_of_lt h]; rfl
theorem SV_small {w : Nat} (h : w < 9223372036854775808) : SV w = (U w : Int) := by rw [SV_is, rg_small h, sg_small h]; rfl
/-- Age: the phase times the synodic month. -/
def ag (q : Nat) : Nat := rn (U (ph q) * U wS) E0
theorem rn_S : rn (U 4607182418800017407 * U wS) E0 = 4629005339494030827 := by decide +kernel
theorem ag_lt (q : Nat) : ag q < wS := by
  have h1 : U (ph q) ≤ U 4607182418800017407 := U_le (by have := ph_lt q; omega)
  have h2 := rn_mono E0 (Nat.mul_le_mul_right (U wS) h1)
  rw [rn_S] at h2
  show ag q < 4629005339494030828
  unfold ag; omega
theorem ag_zero {q : Nat} (h : ph q = 0) : ag q = 0 := by unfold ag; rw [h, U_zero, Nat.zero_mul, rn_zero]
theorem ag_pos {q : Nat} (h : 0 < ph q) : 0 < ag q := by
  have h1 : ONE ≤ U wS := by rw [← U_one]; exact U_le (by decide)
  have h2 : U (ph q) * 2 ^ E0 ≤ U (ph q) * U wS := Nat.mul_le_mul_left _ (by rw [← ONE_is]; exact h1)
  have h3 := rn_ge h2
  unfold ag; omega
theorem mul_ph (q : Nat) : Ieee.double.mul (ph q) wS = some (ag q) := by
  have h1 := ph_lt q
  have h2 := ag_lt q
  have hf : Fin (ph q) := by unfold Fin; rw [rg_small (by omega)]; omega
  have h2' : ag q < 4629005339494030828 := h2
  rw [mul_is hf fin_S, rg_small (w := ph q) (by omega), show rg wS = wS by decide, sg_small (w := ph q) (by omega), show sg wS = false by decide]
  show some (wd (false ^^ false) (min (ag q) 9218868437227405312)) = _
  rw [Nat.min_eq_left (by omega)]; rfl

theorem tr_fi {n : Int} (h : n.natAbs ≤ 9007199254740992) : tr (fi n) = n := by
  have e := rn_int h
  have hb : rn (n.natAbs * ONE) 0 ≤ 4845873199050653696 := rn_upto (by rw [U_p53]; exact Nat.mul_le_mul_right _ h)
  have hw : fi n = wd (decide (n < 0)) (rn (n.natAbs * ONE) 0) := by unfold fi; rw [Nat.min_eq_left (by omega)]
  unfold tr
  rw [hw, sg_wd _ (by omega), rg_wd _ (by omega), e, Nat.mul_div_cancel _ ONE_pos]
  unfold SVs
  rcases Int.lt_or_le n 0 with g | g
  · rw [decide_eq_true g, if_pos rfl]; omega
  · rw [decide_eq_false (by omega), if_neg (by decide)]; omega
theorem tr_big {x : Nat} (h : big x = true) : tr x = fl x := by
  have hb := fr_big (of_decide_eq_true h)
  rcases tr_fl x with ⟨a, e⟩ | ⟨_, e⟩
  · exfalso
    rw [← hb.2, e, Int.sub_mul, Int.one_mul] at a
    have hs := SV_fl x
    have : tr x * (ONE : Int) = SV x ∨ ¬ tr x * (ONE : Int) = SV x := Classical.em _
    have hm : ∃ j : Nat, U (rg x) = j * ONE := by
      have h2 := hb.2
      have h3 := natAbs_SV x
      refine ⟨(fl x).natAbs, ?_⟩
      rw [← h3, ← h2, Int.natAbs_mul, Int.natAbs_natCast]
    obtain ⟨j, hj⟩ := hm
    have ht : tr x * (ONE : Int) = SV x := by
      unfold tr
      rw [SV_is, hj, Nat.mul_div_cancel _ ONE_pos]
      unfold SVs; split
      · rw [Int.natCast_mul, Int.neg_mul]
      · rw [Int.natCast_mul]
    have h1 := hb.2
    rw [e, Int.sub_mul, Int.one_mul] at h1
    have := ONE_int
    omega
  · exact e.symm
theorem tr_FLw (x : Nat) : tr (FLw x) = fl x := by
  unfold FLw
  cases h : big x
  · rw [if_neg (by decide)]
    have hb := fl_bd (big_no h)
    exact tr_fi (by omega)
  · rw [if_pos rfl]; exact tr_big h
/-- How the rounded fraction stands to one half. -/
theorem RD_cases (x : Nat) : (4602678819172646912 < rn (fr x) 0 ∧ RD x = fl x + 1) ∨ (rn (fr x) 0 = 4602678819172646912 ∧ ¬ fl x % 2 = 0 ∧ RD x = fl x + 1) ∨ (rn (fr x) 0 = 4602678819172646912 ∧ fl x % 2 = 0 ∧ RD x = fl x) ∨ (rn (fr x) 0 < 4602678819172646912 ∧ RD x = fl x) := by
  have hh := U_half2
  have hf := fr_lt x
  by_cases hx : sg x = false ∨ ONE ≤ 2 * U (rg x)
  · have he := fr_exact hx
    unfold RD
    rcases Nat.lt_trichotomy (2 * fr x) ONE with l | l | l
    · rw [if_pos l]
      right; right; right
      refine ⟨U_lt_iff.1 ?_, rfl⟩
      rw [he]
      generalize U 4602678819172646912 = u at hh ⊢
      omega
    · rw [if_neg (by omega), if_neg (by omega)]
      have e : rn (fr x) 0 = 4602678819172646912 := U_inj (by
        rw [he]
        generalize U 4602678819172646912 = u at hh ⊢
        omega)
      by_cases h2 : fl x % 2 = 0
      · rw [if_pos h2]; exact .inr (.inr (.inl ⟨e, h2, rfl⟩))
      · rw [if_neg h2]; exact .inr (.inl ⟨e, h2, rfl⟩)
    · rw [if_neg (by omega), if_pos l]
      left
      refine ⟨U_lt_iff.1 ?_, rfl⟩
      rw [he]
      generalize U 4602678819172646912 = u at hh ⊢
      omega
  · have h1 : sg x = true := by
      cases h : sg x
      · exact absurd (.inl h) hx
      · rfl
    have h2 : 2 * U (rg x) < ONE := by
      rcases Nat.lt_or_ge (2 * U (rg x)) ONE with l | l
      · exact l
      · exact absurd (.inr l) hx
    have hS : SV x = -(U (rg x) : Int) := by rw [SV_is, h1]; rfl
    rcases Nat.eq_zero_or_pos (U (rg x)) with z | p
    · obtain ⟨a, b⟩ := fl_of (x := x) (n := 0) (t := 0) (by rw [hS, z]; omega) ONE_pos
      unfold RD
      rw [a, b, rn_zero, if_pos (by have := ONE_pos; omega)]
      right; right; right
      exact ⟨by decide, rfl⟩
    · obtain ⟨a, b⟩ := fl_of (x := x) (n := -1) (t := ONE - U (rg x)) (by rw [hS]; omega) (by omega)
      have hr : 4602678819172646912 ≤ rn (fr x) 0 := rn_from (by
        rw [b]
        generalize U 4602678819172646912 = u at hh ⊢
        omega)
      have e : RD x = fl x + 1 := by unfold RD; rw [if_neg (by omega), if_pos (by omega)]
      rcases Nat.lt_or_ge 4602678819172646912 (rn (fr x) 0) with l | l
      · exact .inl ⟨l, e⟩
      · exact .inr (.inl ⟨by omega, by rw [a]; decide, e⟩)

theorem fi_fin {n : Int} (h : n.natAbs ≤ 9223372036854775808) : Fin (fi n) ∧ U (rg (fi n)) ≤ 9223372036854775808 * ONE := by
  have hp : U 4890909195324358656 = 9223372036854775808 * ONE := by
    have h := U_up (e := 1085) (j := 11) rfl
    rw [show (1085 + 1) * 4503599627370496 = 4890909195324358656 by decide] at h
    rw [h]
  have hb : rn (n.natAbs * ONE) 0 ≤ 4890909195324358656 := rn_upto (by rw [hp]; exact Nat.mul_le_mul_right _ h)
  unfold fi
  rw [Nat.min_eq_left (by omega)]
  exact ⟨Fin_wd (by omega), by rw [rg_wd _ (by omega), ← hp]; exact U_le hb⟩
/-- The product of an integer and the synodic month; the day of a mean new moon. -/
def pW (k : Int) : Nat := wd (sg (fi k) ^^ false) (min (rn (U (rg (fi k)) * U wS) E0) 9218868437227405312)
def nmW (k : Int) : Nat := (Ieee.double.add wE (pW k)).getD 0
theorem mul_k {k : Int} (h : k.natAbs ≤ 9223372036854775808) : Ieee.double.mul (fi k) wS = some (pW k) := by
  rw [mul_is (fi_fin h).1 fin_S, show rg wS = wS by decide, show sg wS = false by decide]; rfl
theorem pW_fin {k : Int} (h : k.natAbs ≤ 9223372036854775808) : Fin (pW k) := by
  have h1 := (fi_fin h).2
  have h2 : U wS ≤ 64 * ONE := by
    have h := U_up (e := 1028 + 52) (j := 6) rfl
    have e := U_two (e := 1028) (j := 46) rfl
    rw [show (1028 + 1) * 4503599627370496 = 4634204016564240384 by decide, show (2 : Nat) ^ 46 = 70368744177664 by decide] at e
    have l : U wS ≤ U 4634204016564240384 := U_le (by decide)
    generalize U wS = s at l ⊢
    generalize U 4634204016564240384 = u at l e
    omega
  have h3 : U (rg (fi k)) * U wS ≤ 9223372036854775808 * ONE * (64 * ONE) := Nat.mul_le_mul h1 h2
  have hp : U 4917930793088581632 = 590295810358705651712 * ONE := by
    have h := U_up (e := 1091) (j := 17) rfl
    rw [show (1091 + 1) * 4503599627370496 = 4917930793088581632 by decide] at h
    rw [h]
  have h4 : rn (U (rg (fi k)) * U wS) E0 ≤ 4917930793088581632 := rn_le (by
    rw [hp, ← ONE_is]
    refine Nat.le_trans h3 (Nat.le_of_eq ?_)
    rw [← Nat.mul_assoc, Nat.mul_right_comm 9223372036854775808 ONE 64])
  unfold pW
  exact Fin_wd (by omega)
theorem add_k {k : Int} (h : k.natAbs ≤ 9223372036854775808) : Ieee.double.add wE (pW k) = some (nmW k) := by
  unfold nmW; rw [add_is fin_E (pW_fin h)]; rfl
end Go.Proofs.Ytiidmnmedkekjaa

namespace Go.Proofs.Ytiidmnmedkekjaa
open Go.RowKit

theorem f64bits (x : Nat) (w : World) : (callFunc 15 #[.float .f64 x]).run Try.prog w = .ok (.value (.int .u64 (x : Int))) w := by
  rw [run_callFunc_extern (e := Extern.MathFloatBits.float64bits) Try.func15 (by kernel_rfl) (by kernel_rfl) (by kernel_rfl) (by kernel_rfl)]; rfl
theorem f64from (x : Nat) (w : World) : (callFunc 10 #[.int .u64 (x : Int)]).run Try.prog w = .ok (.value (.float .f64 x)) w := by
  rw [run_callFunc_extern (e := Extern.MathFloatBits.float64frombits) Try.func10 (by kernel_rfl) (by kernel_rfl) (by kernel_rfl) (by kernel_rfl)]; rfl
section
variable (x : Nat) (w : World)
theorem r15parts (hx : x < 18446744073709551616) : Calls Try.prog 45 #[.float .f64 x] w fun e w' => e = .returned (.tuple #[.bool (sg x), .int .u64 ((x / 4503599627370496 % 2048 : Nat) : Int), .int .u64 ((x % 4503599627370496 : Nat) : Int)]) ∧ w = w' := by
  have hB := f64bits x
  have h0 : (0 : Int) ≤ (x : Int) := by omega
  have h1 : (x : Int) < 18446744073709551616 := by omega
  have e1 : ((x : Int) / 9223372036854775808 == 1) = sg x := by
    unfold sg
    rw [Bool.eq_iff_iff, beq_iff_eq, beq_iff_eq]; omega
  have e2 : (x : Int) / 4503599627370496 % 2048 = ((x / 4503599627370496 % 2048 : Nat) : Int) := by omega
  have e3 : (x : Int) % 4503599627370496 = ((x % 4503599627370496 : Nat) : Int) := by omega
  have E1 := Lib.hid e1
  have E2 := Lib.hid e2
  have E3 := Lib.hid e3
  clear e1 e2 e3
  go_enter Try.func45, Try.ntmps45
  go_wp2
  refine bodyPost_ret (v := .tuple #[.bool ((x : Int) / 9223372036854775808 == 1), .int .u64 ((x : Int) / 4503599627370496 % 2048), .int .u64 ((x : Int) % 4503599627370496)]) (by simp [results, Try.results45, go_sem]) rfl ⟨by rw [E1.out, E2.out, E3.out], rfl⟩
theorem fin_parts {x : Nat} : (x / 4503599627370496 % 2048 < 2047) ↔ Fin x := by unfold Fin rg; omega
theorem r15fin_any (hx : x < 18446744073709551616) : Calls Try.prog 39 #[.float .f64 x] w fun e w' => e = .returned (.bool (finB x)) ∧ w = w' := by
  have H := fun w => r15parts x w hx
  have e : finB x = decide (((x / 4503599627370496 % 2048 : Nat) : Int) < 2047) := by
    rw [Bool.eq_iff_iff, finB_iff, decide_eq_true_iff, ← fin_parts]; omega
  rw [e]
  clear e
  generalize ((x / 4503599627370496 % 2048 : Nat) : Int) = p at *
  generalize ((x % 4503599627370496 : Nat) : Int) = q at *
  go_enter Try.func39, Try.ntmps39
  go_wp2_with fail
  refine (H _).mono ?_
  rintro e w' ⟨rfl, rfl⟩
  go_wp2_with fail
  go_ret
  exact ⟨rfl, rfl⟩
theorem r15syn : Calls Try.prog 29 #[] w fun e w' => e = .returned (.float .f64 wS) ∧ w = w' := by
  go_enter Try.func29, Try.ntmps29
  go_wp2
  go_ret
  exact ⟨rfl, rfl⟩
theorem r15epo : Calls Try.prog 30 #[] w fun e w' => e = .returned (.float .f64 wE) ∧ w = w' := by
  go_enter Try.func30, Try.ntmps30
  go_wp2
  go_ret
  exact ⟨rfl, rfl⟩
abbrev fbv (x : Nat) (b : Bool) : Value := .tuple #[.float .f64 x, .bool b]
abbrev ibv (n : Int) (b : Bool) : Value := .tuple #[.int .i64 n, .bool b]
theorem r15reg_no (hx : finB x = false) (hw : x < 18446744073709551616) : Calls Try.prog 26 #[.float .f64 x] w fun e w' => e = .returned (fbv 0 false) ∧ w = w' := by
  have H := fun w => r15fin_any x w hw
  rw [hx] at H
  clear hx hw
  go_enter Try.func26, Try.ntmps26
  go_wp2_with fail
  refine (H _).mono ?_
  rintro e w' ⟨rfl, rfl⟩
  go_wp2_with fail
  go_ret2
  exact ⟨rfl, rfl⟩
theorem some_lt {x y r : Nat} (h : Ieee.double.div x y = some r) : r < 18446744073709551616 := Ieee.Format.div_lt _ h
theorem r15reg_ok (hx : finB x = true) (hw : x < 18446744073709551616) : Calls Try.prog 26 #[.float .f64 x] w fun e w' => e = .returned (fbv (qW x) (finB (qW x))) ∧ w = w' := by
  have H := fun w => r15fin_any x w hw
  have hf := finB_iff.1 hx
  have hS := fun w => run_fsub (P := Try.prog) 24 (sub_E hf) w
  have hD := fun w => run_fdiv (P := Try.prog) 24 (div_q hf) w
  have HQ := fun w => r15fin_any (qW x) w (some_lt (div_q hf))
  rw [hx] at H
  clear hx hw hf
  generalize dW x = d at *
  generalize qW x = q at *
  generalize finB q = b at *
  go_enter Try.func26, Try.ntmps26
  go_wp2_with fail
  refine (H _).mono ?_
  rintro e w' ⟨rfl, rfl⟩
  go_wp2_with fail
  refine (r15epo _).mono ?_
  rintro e w' ⟨rfl, rfl⟩
  go_wp2_with fail
  refine (r15syn _).mono ?_
  rintro e w' ⟨rfl, rfl⟩
  go_wp2_with fail
  refine (HQ _).mono ?_
  rintro e w' ⟨rfl, rfl⟩
  go_wp2_with fail
  go_ret2
  exact ⟨rfl, rfl⟩
/-- Is x regular? -/
def regB (x : Nat) : Bool := finB x && finB (qW x)
theorem r15floor_hi (h : FloatKind.f64.format.order x 4845873199050653696 = some .gt ∨ FloatKind.f64.format.order x 4845873199050653696 = some .eq) : Calls Try.prog 37 #[.float .f64 x] w fun e w' => e = .returned (.float .f64 x) ∧ w = w' := by
  rcases h with h | h
  all_goals
    go_enter Try.func37, Try.ntmps37
    go_wp2
    go_ret
    exact ⟨rfl, rfl⟩
theorem r15floor_lo (h1 : FloatKind.f64.format.order x 4845873199050653696 = some .lt) (h : FloatKind.f64.format.order x 14069245235905429504 = some .lt ∨ FloatKind.f64.format.order x 14069245235905429504 = some .eq) : Calls Try.prog 37 #[.float .f64 x] w fun e w' => e = .returned (.float .f64 x) ∧ w = w' := by
  rcases h with h | h
  all_goals
    go_enter Try.func37, Try.ntmps37
    go_wp2
    go_ret
    exact ⟨rfl, rfl⟩
theorem r15floor_in (n : Int) (k v : Nat) (o : Ordering) (n1 : -9007199254740992 ≤ n) (n2 : n ≤ 9007199254740992) (h1 : FloatKind.f64.format.order x 4845873199050653696 = some .lt) (h2 : FloatKind.f64.format.order x 14069245235905429504 = some .gt)
    (hC : floatToIntVal .f64 x .i64 = some n) (hk : floatOfInt .f64 n = k) (ho : FloatKind.f64.format.order k x = some o) (hv : (o = .gt ∧ floatOfInt .f64 (n - 1) = v) ∨ (o ≠ .gt ∧ k = v)) :
    Calls Try.prog 37 #[.float .f64 x] w fun e w' => e = .returned (.float .f64 v) ∧ w = w' := by
  have hc := fun w => run_convert_float_int (P := Try.prog) w 24 3 .f64 .i64 x n (by kernel_rfl) Try.underlying3 hC
  have hq := fun w => run_convert_int_float (P := Try.prog) w 3 24 .i64 .f64 n (by kernel_rfl) Try.underlying24
  have hq1 := fun w => run_convert_int_float (P := Try.prog) w 3 24 .i64 .f64 (n - 1) (by kernel_rfl) Try.underlying24
  rw [hk] at hq
  clear hC
  rcases hv with ⟨rfl, hv⟩ | ⟨ho1, rfl⟩
  · rw [hv] at hq1
    go_enter Try.func37, Try.ntmps37
    go_wp2
    go_ret
    exact ⟨rfl, rfl⟩
  · clear hq1
    cases o
    · go_enter Try.func37, Try.ntmps37
      go_wp2
      go_ret
      exact ⟨rfl, rfl⟩
    · go_enter Try.func37, Try.ntmps37
      go_wp2
      go_ret
      exact ⟨rfl, rfl⟩
    · exact absurd rfl ho1
end
theorem r15floor_any (x : Nat) (hx : Fin x) (w : World) : Calls Try.prog 37 #[.float .f64 x] w fun e w' => e = .returned (.float .f64 (FLw x)) ∧ w = w' := by
  have ha := natAbs_SV x
  cases hb : big x
  · have hu := big_no hb
    have bd := fl_bd hu
    have h1 := ord_lt hx fin_p53 (by rw [SV_p53]; omega)
    have h2 := ord_gt hx fin_m53 (by rw [SV_m53]; omega)
    have e : FLw x = fi (fl x) := by unfold FLw; rw [hb, if_neg (by decide)]
    rw [e]
    have hk := fi_small (n := tr x) (by omega)
    have ht := toI_of hx (by omega) (by omega)
    rcases tr_fl x with ⟨g, q⟩ | ⟨g, q⟩
    · refine r15floor_in x w (tr x) (fi (tr x)) _ .gt (by omega) (by omega) h1 h2 ht (fi_of _) (ord_gt hk.2 hx (by rw [hk.1]; exact g)) (.inl ⟨rfl, by rw [fi_of, q]⟩)
    · rcases Int.lt_or_le (tr x * (ONE : Int)) (SV x) with l | l
      · refine r15floor_in x w (tr x) (fi (tr x)) _ .lt (by omega) (by omega) h1 h2 ht (fi_of _) (ord_lt hk.2 hx (by rw [hk.1]; exact l)) (.inr ⟨by decide, by rw [q]⟩)
      · refine r15floor_in x w (tr x) (fi (tr x)) _ .eq (by omega) (by omega) h1 h2 ht (fi_of _) (ord_eq hk.2 hx (by rw [hk.1]; omega)) (.inr ⟨by decide, by rw [q]⟩)
  · have hu := of_decide_eq_true hb
    have e : FLw x = x := by unfold FLw; rw [hb, if_pos rfl]
    rw [e]
    have hS : SV x = SVs (sg x) (U (rg x)) := SV_is x
    unfold SVs at hS
    cases hs : sg x
    · rw [hs, if_neg (by decide)] at hS
      rcases Nat.lt_or_ge (9007199254740992 * ONE) (U (rg x)) with l | l
      · exact r15floor_hi x w (.inl (ord_gt hx fin_p53 (by rw [SV_p53]; omega)))
      · exact r15floor_hi x w (.inr (ord_eq hx fin_p53 (by rw [SV_p53]; omega)))
    · rw [hs, if_pos rfl] at hS
      have hp := ONE_int
      have h1 := ord_lt hx fin_p53 (by rw [SV_p53]; omega)
      rcases Nat.lt_or_ge (9007199254740992 * ONE) (U (rg x)) with l | l
      · exact r15floor_lo x w h1 (.inl (ord_lt hx fin_m53 (by rw [SV_m53]; omega)))
      · exact r15floor_lo x w h1 (.inr (ord_eq hx fin_m53 (by rw [SV_m53]; omega)))
section
variable (x : Nat) (w : World)
theorem r15ph_no (q : Nat) (HR : ∀ w, Calls Try.prog 26 #[.float .f64 x] w fun e w' => e = .returned (fbv q false) ∧ w = w') : Calls Try.prog 17 #[.float .f64 x] w fun e w' => e = .returned (.int .u64 9221120237041090561) ∧ w = w' := by
  go_enter Try.func17, Try.ntmps17
  go_wp2_with fail
  refine (HR _).mono ?_
  rintro e w' ⟨rfl, rfl⟩
  go_wp2_with fail
  go_ret
  exact ⟨rfl, rfl⟩
theorem r15ph_0 (q f g : Nat) (HR : ∀ w, Calls Try.prog 26 #[.float .f64 x] w fun e w' => e = .returned (fbv q true) ∧ w = w') (HF : ∀ w, Calls Try.prog 37 #[.float .f64 q] w fun e w' => e = .returned (.float .f64 f) ∧ w = w')
    (hS : ∀ w, (binOp .sub 24 (.float .f64 q) (.float .f64 f)).run Try.prog w = .ok (.float .f64 g) w) (ho : FloatKind.f64.format.order g 4607182418800017408 = some .eq ∨ (FloatKind.f64.format.order g 4607182418800017408 = some .lt ∧ FloatKind.f64.format.order g 0 = some .eq)) :
    Calls Try.prog 17 #[.float .f64 x] w fun e w' => e = .returned (.int .u64 0) ∧ w = w' := by
  rcases ho with ho | ⟨ho, ho2⟩
  all_goals
    go_enter Try.func17, Try.ntmps17
    go_wp2_with fail
    refine (HR _).mono ?_
    rintro e w' ⟨rfl, rfl⟩
    go_wp2_with fail
    refine (HF _).mono ?_
    rintro e w' ⟨rfl, rfl⟩
    go_wp2_with fail
    go_ret
    exact ⟨rfl, rfl⟩
theorem r15ph_1 (q f g : Nat) (HR : ∀ w, Calls Try.prog 26 #[.float .f64 x] w fun e w' => e = .returned (fbv q true) ∧ w = w') (HF : ∀ w, Calls Try.prog 37 #[.float .f64 q] w fun e w' => e = .returned (.float .f64 f) ∧ w = w')
    (hS : ∀ w, (binOp .sub 24 (.float .f64 q) (.float .f64 f)).run Try.prog w = .ok (.float .f64 g) w) (ho : FloatKind.f64.format.order g 4607182418800017408 = some .lt) (ho2 : FloatKind.f64.format.order g 0 = some .gt) :
    Calls Try.prog 17 #[.float .f64 x] w fun e w' => e = .returned (.int .u64 (g : Int)) ∧ w = w' := by
  have hB := f64bits g
  go_enter Try.func17, Try.ntmps17
  go_wp2_with fail
  refine (HR _).mono ?_
  rintro e w' ⟨rfl, rfl⟩
  go_wp2_with fail
  refine (HF _).mono ?_
  rintro e w' ⟨rfl, rfl⟩
  go_wp2_with fail
  go_ret
  exact ⟨rfl, rfl⟩
end
/-- Regular, whatever the value. -/
theorem r15reg_any (x : Nat) (w : World) (hw : x < 18446744073709551616) : Calls Try.prog 26 #[.float .f64 x] w fun e w' => e = .returned (fbv (if finB x = true then qW x else 0) (regB x)) ∧ w = w' := by
  unfold regB
  cases h : finB x
  · rw [if_neg (by decide), Bool.false_and]; exact r15reg_no x w h hw
  · rw [if_pos rfl, Bool.true_and]; exact r15reg_ok x w h hw
theorem regB_iff {x : Nat} : regB x = true ↔ Fin x ∧ Fin (qW x) := by unfold regB; rw [Bool.and_eq_true, finB_iff, finB_iff]
theorem r15reg_yes (x : Nat) (w : World) (hw : x < 18446744073709551616) (h : regB x = true) : Calls Try.prog 26 #[.float .f64 x] w fun e w' => e = .returned (fbv (qW x) true) ∧ w = w' := by
  have := r15reg_any x w hw
  rwa [h, if_pos (finB_iff.2 (regB_iff.1 h).1)] at this
/-- The bits of the phase and of the age. -/
def phR (x : Nat) : Nat := if regB x = true then ph (qW x) else 9221120237041090561
def agR (x : Nat) : Nat := if regB x = true then ag (qW x) else 9221120237041090561
theorem r15phase_any (x : Nat) (w : World) (hw : x < 18446744073709551616) : Calls Try.prog 17 #[.float .f64 x] w fun e w' => e = .returned (.int .u64 (phR x : Int)) ∧ w = w' := by
  unfold phR
  cases h : regB x
  · rw [if_neg (by decide)]
    have HR := fun w => r15reg_any x w hw
    rw [h] at HR
    exact r15ph_no x w _ HR
  · rw [if_pos rfl]
    have HR := fun w => r15reg_yes x w hw h
    have hq := (regB_iff.1 h).2
    obtain ⟨s1, s2, s3⟩ := sub_fl hq
    have HF := fun w => r15floor_any (qW x) hq w
    have hS := fun w => run_fsub (P := Try.prog) 24 s1 w
    rcases ph_cases (qW x) with ⟨e, z | o⟩ | ⟨e, p1, p2⟩
    · rw [e]
      have hp := ONE_int
      refine r15ph_0 x w _ _ _ HR HF hS (.inr ⟨ord_lt s2 fin_one (by rw [s3, SV_one, z, U_zero]; exact hp), ord_eq s2 fin_zero (by rw [s3, SV_zero, z, U_zero]; rfl)⟩)
    · rw [e]
      refine r15ph_0 x w _ _ _ HR HF hS (.inl (ord_eq s2 fin_one (by rw [s3, SV_one, o, U_one])))
    · rw [e, ← fW_pos p1]
      refine r15ph_1 x w _ _ _ HR HF hS (ord_lt s2 fin_one ?_) (ord_gt s2 fin_zero ?_)
      · rw [s3, SV_one, ← U_one]; exact Int.ofNat_lt.2 (U_lt p2)
      · rw [s3, SV_zero, ← Int.natCast_zero, ← U_zero]; exact Int.ofNat_lt.2 (U_lt p1)
section
variable (x : Nat) (w : World)
theorem r15ag_no (q : Nat) (HR : ∀ w, Calls Try.prog 26 #[.float .f64 x] w fun e w' => e = .returned (fbv q false) ∧ w = w') : Calls Try.prog 19 #[.float .f64 x] w fun e w' => e = .returned (.int .u64 9221120237041090561) ∧ w = w' := by
  go_enter Try.func19, Try.ntmps19
  go_wp2_with fail
  refine (HR _).mono ?_
  rintro e w' ⟨rfl, rfl⟩
  go_wp2_with fail
  go_ret
  exact ⟨rfl, rfl⟩
theorem r15ag_ok (q p g : Nat) (HR : ∀ w, Calls Try.prog 26 #[.float .f64 x] w fun e w' => e = .returned (fbv q true) ∧ w = w') (HP : ∀ w, Calls Try.prog 17 #[.float .f64 x] w fun e w' => e = .returned (.int .u64 (p : Int)) ∧ w = w')
    (hM : ∀ w, (binOp .mul 24 (.float .f64 p) (.float .f64 wS)).run Try.prog w = .ok (.float .f64 g) w) : Calls Try.prog 19 #[.float .f64 x] w fun e w' => e = .returned (.int .u64 (g : Int)) ∧ w = w' := by
  have hB := f64bits g
  have hF := f64from p
  go_enter Try.func19, Try.ntmps19
  go_wp2_with fail
  refine (HR _).mono ?_
  rintro e w' ⟨rfl, rfl⟩
  go_wp2_with fail
  refine (HP _).mono ?_
  rintro e w' ⟨rfl, rfl⟩
  go_wp2_with fail
  refine (r15syn _).mono ?_
  rintro e w' ⟨rfl, rfl⟩
  go_wp2_with fail
  go_ret
  exact ⟨rfl, rfl⟩
theorem r15age_any (hw : x < 18446744073709551616) : Calls Try.prog 19 #[.float .f64 x] w fun e w' => e = .returned (.int .u64 (agR x : Int)) ∧ w = w' := by
  unfold agR
  cases h : regB x
  · rw [if_neg (by decide)]
    have HR := fun w => r15reg_any x w hw
    rw [h] at HR
    exact r15ag_no x w _ HR
  · rw [if_pos rfl]
    have HP := fun w => r15phase_any x w hw
    rw [show phR x = ph (qW x) by unfold phR; rw [h, if_pos rfl]] at HP
    exact r15ag_ok x w _ _ _ (fun w => r15reg_yes x w hw h) HP (fun w => run_fmul (P := Try.prog) 24 (mul_ph (qW x)) w)
/-- What Lunation answers. -/
def luB (x : Nat) : Bool := regB x && !big (qW x)
def luN (x : Nat) : Int := if luB x = true then fl (qW x) else 0
theorem r15lu_no (q : Nat) (b : Bool) (hb : b = false ∨ (b = true ∧ (FloatKind.f64.format.order q 4845873199050653696 = some .gt ∨ FloatKind.f64.format.order q 4845873199050653696 = some .eq)) ∨ (b = true ∧ FloatKind.f64.format.order q 4845873199050653696 = some .lt ∧ (FloatKind.f64.format.order q 14069245235905429504 = some .lt ∨ FloatKind.f64.format.order q 14069245235905429504 = some .eq)))
    (HR : ∀ w, Calls Try.prog 26 #[.float .f64 x] w fun e w' => e = .returned (fbv q b) ∧ w = w') : Calls Try.prog 12 #[.float .f64 x] w fun e w' => e = .returned (ibv 0 false) ∧ w = w' := by
  rcases hb with rfl | ⟨rfl, h | h⟩ | ⟨rfl, h, h' | h'⟩
  all_goals
    go_enter Try.func12, Try.ntmps12
    go_wp2_with fail
    refine (HR _).mono ?_
    rintro e w' ⟨rfl, rfl⟩
    go_wp2_with fail
    go_ret2
    exact ⟨rfl, rfl⟩
theorem r15lu_ok (q f : Nat) (n : Int) (h1 : FloatKind.f64.format.order q 4845873199050653696 = some .lt) (h2 : FloatKind.f64.format.order q 14069245235905429504 = some .gt) (hC : floatToIntVal .f64 f .i64 = some n)
    (HR : ∀ w, Calls Try.prog 26 #[.float .f64 x] w fun e w' => e = .returned (fbv q true) ∧ w = w') (HF : ∀ w, Calls Try.prog 37 #[.float .f64 q] w fun e w' => e = .returned (.float .f64 f) ∧ w = w') :
    Calls Try.prog 12 #[.float .f64 x] w fun e w' => e = .returned (ibv n true) ∧ w = w' := by
  have hc := fun w => run_convert_float_int (P := Try.prog) w 24 3 .f64 .i64 f n (by kernel_rfl) Try.underlying3 hC
  clear hC
  go_enter Try.func12, Try.ntmps12
  go_wp2_with fail
  refine (HR _).mono ?_
  rintro e w' ⟨rfl, rfl⟩
  go_wp2_with fail
  refine (HF _).mono ?_
  rintro e w' ⟨rfl, rfl⟩
  go_wp2_with fail
  go_ret2
  exact ⟨rfl, rfl⟩
end
/-- How a word from 2^53 on stands to both bounds. -/
theorem big_ord {x : Nat} (hx : Fin x) (hb : big x = true) : (FloatKind.f64.format.order x 4845873199050653696 = some .gt ∨ FloatKind.f64.format.order x 4845873199050653696 = some .eq) ∨ (FloatKind.f64.format.order x 4845873199050653696 = some .lt ∧ (FloatKind.f64.format.order x 14069245235905429504 = some .lt ∨ FloatKind.f64.format.order x 14069245235905429504 = some .eq)) := by
  have hu := of_decide_eq_true hb
  have hS : SV x = SVs (sg x) (U (rg x)) := SV_is x
  unfold SVs at hS
  cases hs : sg x
  · rw [hs, if_neg (by decide)] at hS
    rcases Nat.lt_or_ge (9007199254740992 * ONE) (U (rg x)) with l | l
    · exact .inl (.inl (ord_gt hx fin_p53 (by rw [SV_p53]; omega)))
    · exact .inl (.inr (ord_eq hx fin_p53 (by rw [SV_p53]; omega)))
  · rw [hs, if_pos rfl] at hS
    have hp := ONE_int
    have h1 := ord_lt hx fin_p53 (by rw [SV_p53]; omega)
    rcases Nat.lt_or_ge (9007199254740992 * ONE) (U (rg x)) with l | l
    · exact .inr ⟨h1, .inl (ord_lt hx fin_m53 (by rw [SV_m53]; omega))⟩
    · exact .inr ⟨h1, .inr (ord_eq hx fin_m53 (by rw [SV_m53]; omega))⟩
theorem r15lun_any (x : Nat) (w : World) (hw : x < 18446744073709551616) : Calls Try.prog 12 #[.float .f64 x] w fun e w' => e = .returned (ibv (luN x) (luB x)) ∧ w = w' := by
  unfold luN luB
  cases h : regB x
  · have HR := fun w => r15reg_any x w hw
    rw [h] at HR
    exact r15lu_no x w _ _ (.inl rfl) HR
  · have HR := fun w => r15reg_yes x w hw h
    have hq := (regB_iff.1 h).2
    cases hb : big (qW x)
    · have ha := natAbs_SV (qW x)
      have hu := big_no hb
      have bd := fl_bd hu
      have h2 := FLw_SV hq
      have ht := toI_of h2.2 (by rw [tr_FLw]; omega) (by rw [tr_FLw]; omega)
      rw [tr_FLw] at ht
      exact r15lu_ok x w _ _ _ (ord_lt hq fin_p53 (by rw [SV_p53]; omega)) (ord_gt hq fin_m53 (by rw [SV_m53]; omega)) ht HR (fun w => r15floor_any _ hq w)
    · refine r15lu_no x w _ true ?_ HR
      rcases big_ord hq hb with g | g
      · exact .inr (.inl ⟨rfl, g⟩)
      · exact .inr (.inr ⟨rfl, g⟩)
theorem r15nm_any (k : Int) (w : World) (h : k.natAbs ≤ 9223372036854775808) : Calls Try.prog 21 #[.int .i64 k] w fun e w' => e = .returned (.int .u64 (nmW k : Int)) ∧ w = w' := by
  have hq := fun w => run_convert_int_float (P := Try.prog) w 3 24 .i64 .f64 k (by kernel_rfl) Try.underlying24
  rw [fi_of] at hq
  have hM := fun w => run_fmul (P := Try.prog) 24 (mul_k h) w
  have hA := fun w => run_fadd (P := Try.prog) 24 (add_k h) w
  have hB := f64bits (nmW k)
  clear h
  generalize nmW k = r at *
  generalize pW k = p at *
  generalize fi k = f at *
  go_enter Try.func21, Try.ntmps21
  go_wp2_with fail
  refine (r15syn _).mono ?_
  rintro e w' ⟨rfl, rfl⟩
  go_wp2_with fail
  refine (r15epo _).mono ?_
  rintro e w' ⟨rfl, rfl⟩
  go_wp2_with fail
  go_ret
  exact ⟨rfl, rfl⟩
end Go.Proofs.Ytiidmnmedkekjaa

namespace Go.Proofs.Ytiidmnmedkekjaa
open Go.RowKit

def rdB (x : Nat) : Bool := finB x && decide (U (rg x) < 4611686018427387904 * ONE)
def rdN (x : Nat) : Int := if rdB x = true then RD x else 0
theorem rdB_iff {x : Nat} : rdB x = true ↔ Fin x ∧ U (rg x) < 4611686018427387904 * ONE := by unfold rdB; rw [Bool.and_eq_true, finB_iff, decide_eq_true_iff]
theorem fl_bd62 {x : Nat} (h : U (rg x) < 4611686018427387904 * ONE) : -4611686018427387904 ≤ fl x ∧ fl x < 4611686018427387904 := by
  have ha := natAbs_SV x
  have hs := SV_fl x
  have hf := fr_lt x
  have hp := ONE_int
  have h1 : SV x < 4611686018427387904 * (ONE : Int) := by omega
  have h2 : -4611686018427387904 * (ONE : Int) < SV x := by omega
  refine ⟨?_, ?_⟩
  · rcases Int.lt_or_le (fl x) (-4611686018427387904) with l | l
    · have : (fl x + 1) * (ONE : Int) ≤ -4611686018427387904 * (ONE : Int) := Int.mul_le_mul_of_nonneg_right (by omega) (Int.le_of_lt hp)
      rw [Int.add_mul, Int.one_mul] at this; omega
    · exact l
  · rcases Int.lt_or_le (fl x) 4611686018427387904 with l | l
    · exact l
    · have : 4611686018427387904 * (ONE : Int) ≤ fl x * (ONE : Int) := Int.mul_le_mul_of_nonneg_right l (Int.le_of_lt hp)
      omega
theorem RD_bd {x : Nat} (h : U (rg x) < 4611686018427387904 * ONE) : -4611686018427387904 ≤ RD x ∧ RD x ≤ 4611686018427387904 := by
  have := fl_bd62 h
  rcases RD_cases x with ⟨_, e⟩ | ⟨_, _, e⟩ | ⟨_, _, e⟩ | ⟨_, e⟩ <;> omega
theorem big62_ord {x : Nat} (hx : Fin x) (hu : ¬ U (rg x) < 4611686018427387904 * ONE) : (FloatKind.f64.format.order x 4886405595696988160 = some .gt ∨ FloatKind.f64.format.order x 4886405595696988160 = some .eq) ∨ (FloatKind.f64.format.order x 4886405595696988160 = some .lt ∧ (FloatKind.f64.format.order x 14109777632551763968 = some .lt ∨ FloatKind.f64.format.order x 14109777632551763968 = some .eq)) := by
  have hS : SV x = SVs (sg x) (U (rg x)) := SV_is x
  unfold SVs at hS
  cases hs : sg x
  · rw [hs, if_neg (by decide)] at hS
    rcases Nat.lt_or_ge (4611686018427387904 * ONE) (U (rg x)) with l | l
    · exact .inl (.inl (ord_gt hx fin_p62 (by rw [SV_p62]; omega)))
    · exact .inl (.inr (ord_eq hx fin_p62 (by rw [SV_p62]; omega)))
  · rw [hs, if_pos rfl] at hS
    have hp := ONE_int
    have h1 := ord_lt hx fin_p62 (by rw [SV_p62]; omega)
    rcases Nat.lt_or_ge (4611686018427387904 * ONE) (U (rg x)) with l | l
    · exact .inr ⟨h1, .inl (ord_lt hx fin_m62 (by rw [SV_m62]; omega))⟩
    · exact .inr ⟨h1, .inr (ord_eq hx fin_m62 (by rw [SV_m62]; omega))⟩
section
variable (x : Nat) (w : World)
theorem r15rd_no (b : Bool) (hb : b = false ∨ (b = true ∧ (FloatKind.f64.format.order x 4886405595696988160 = some .gt ∨ FloatKind.f64.format.order x 4886405595696988160 = some .eq)) ∨ (b = true ∧ FloatKind.f64.format.order x 4886405595696988160 = some .lt ∧ (FloatKind.f64.format.order x 14109777632551763968 = some .lt ∨ FloatKind.f64.format.order x 14109777632551763968 = some .eq)))
    (HR : ∀ w, Calls Try.prog 39 #[.float .f64 x] w fun e w' => e = .returned (.bool b) ∧ w = w') : Calls Try.prog 14 #[.float .f64 x] w fun e w' => e = .returned (ibv 0 false) ∧ w = w' := by
  rcases hb with rfl | ⟨rfl, h | h⟩ | ⟨rfl, h, h' | h'⟩
  all_goals
    go_enter Try.func14, Try.ntmps14
    go_wp2_with fail
    refine (HR _).mono ?_
    rintro e w' ⟨rfl, rfl⟩
    go_wp2_with fail
    go_ret2
    exact ⟨rfl, rfl⟩
theorem r15rd_ok (f g : Nat) (n k : Int) (n1 : -4611686018427387904 ≤ n) (n2 : n < 4611686018427387904) (h1 : FloatKind.f64.format.order x 4886405595696988160 = some .lt) (h2 : FloatKind.f64.format.order x 14109777632551763968 = some .gt) (hC : floatToIntVal .f64 f .i64 = some n)
    (HR : ∀ w, Calls Try.prog 39 #[.float .f64 x] w fun e w' => e = .returned (.bool true) ∧ w = w') (HF : ∀ w, Calls Try.prog 37 #[.float .f64 x] w fun e w' => e = .returned (.float .f64 f) ∧ w = w')
    (hS : ∀ w, (binOp .sub 24 (.float .f64 x) (.float .f64 f)).run Try.prog w = .ok (.float .f64 g) w)
    (hk : (FloatKind.f64.format.order g 4602678819172646912 = some .gt ∧ k = n + 1) ∨ (FloatKind.f64.format.order g 4602678819172646912 = some .eq ∧ (n.tmod 2 != 0) = true ∧ k = n + 1) ∨ (FloatKind.f64.format.order g 4602678819172646912 = some .eq ∧ (n.tmod 2 != 0) = false ∧ k = n) ∨ (FloatKind.f64.format.order g 4602678819172646912 = some .lt ∧ k = n)) :
    Calls Try.prog 14 #[.float .f64 x] w fun e w' => e = .returned (ibv k true) ∧ w = w' := by
  have hc := fun w => run_convert_float_int (P := Try.prog) w 24 3 .f64 .i64 f n (by kernel_rfl) Try.underlying3 hC
  clear hC
  rcases hk with ⟨ho, rfl⟩ | ⟨ho, hm, rfl⟩ | ⟨ho, hm, rfl⟩ | ⟨ho, rfl⟩
  all_goals
    go_enter Try.func14, Try.ntmps14
    go_wp2_with fail
    refine (HR _).mono ?_
    rintro e w' ⟨rfl, rfl⟩
    go_wp2_with fail
    refine (HF _).mono ?_
    rintro e w' ⟨rfl, rfl⟩
    go_wp2_with fail
    go_ret2
    exact ⟨rfl, rfl⟩
end
theorem odd_tmod {n : Int} : (n.tmod 2 != 0) = !decide (n % 2 = 0) := by
  rw [bne, Bool.not_inj_iff, Bool.eq_iff_iff, beq_iff_eq, decide_eq_true_iff]
  exact ⟨fun h => Int.emod_eq_zero_of_dvd (Int.dvd_of_tmod_eq_zero h), fun h => Int.tmod_eq_zero_of_dvd (Int.dvd_of_emod_eq_zero h)⟩
/-- How the rounded fraction stands to one half. -/
theorem half_ord {x : Nat} (hx : Fin x) : (FloatKind.f64.format.order (fW x) 4602678819172646912 = some .gt ∧ RD x = fl x + 1) ∨ (FloatKind.f64.format.order (fW x) 4602678819172646912 = some .eq ∧ ((fl x).tmod 2 != 0) = true ∧ RD x = fl x + 1) ∨ (FloatKind.f64.format.order (fW x) 4602678819172646912 = some .eq ∧ ((fl x).tmod 2 != 0) = false ∧ RD x = fl x) ∨ (FloatKind.f64.format.order (fW x) 4602678819172646912 = some .lt ∧ RD x = fl x) := by
  obtain ⟨_, s2, s3⟩ := sub_fl hx
  have hv : SV 4602678819172646912 = (U 4602678819172646912 : Int) := SV_small (by decide)
  rcases RD_cases x with ⟨a, e⟩ | ⟨a, b, e⟩ | ⟨a, b, e⟩ | ⟨a, e⟩
  · exact .inl ⟨ord_gt s2 fin_half (by rw [s3, hv]; exact Int.ofNat_lt.2 (U_lt a)), e⟩
  · exact .inr (.inl ⟨ord_eq s2 fin_half (by rw [s3, hv, a]), by rw [odd_tmod, decide_eq_false b]; rfl, e⟩)
  · exact .inr (.inr (.inl ⟨ord_eq s2 fin_half (by rw [s3, hv, a]), by rw [odd_tmod, decide_eq_true b]; rfl, e⟩))
  · exact .inr (.inr (.inr ⟨ord_lt s2 fin_half (by rw [s3, hv]; exact Int.ofNat_lt.2 (U_lt a)), e⟩))
theorem r15round_any (x : Nat) (w : World) (hw : x < 18446744073709551616) : Calls Try.prog 14 #[.float .f64 x] w fun e w' => e = .returned (ibv (rdN x) (rdB x)) ∧ w = w' := by
  have HR := fun w => r15fin_any x w hw
  unfold rdN
  cases h : rdB x
  · rw [if_neg (by decide)]
    cases hf : finB x
    · rw [hf] at HR
      exact r15rd_no x w _ (.inl rfl) HR
    · rw [hf] at HR
      have hx := finB_iff.1 hf
      have hu : ¬ U (rg x) < 4611686018427387904 * ONE := fun l => by rw [rdB_iff.2 ⟨hx, l⟩] at h; cases h
      refine r15rd_no x w true ?_ HR
      rcases big62_ord hx hu with g | g
      · exact .inr (.inl ⟨rfl, g⟩)
      · exact .inr (.inr ⟨rfl, g⟩)
  · rw [if_pos rfl]
    obtain ⟨hx, hu⟩ := rdB_iff.1 h
    rw [finB_iff.2 hx] at HR
    have ha := natAbs_SV x
    have bd := fl_bd62 hu
    have h2 := FLw_SV hx
    have ht := toI_of h2.2 (by rw [tr_FLw]; omega) (by rw [tr_FLw]; omega)
    rw [tr_FLw] at ht
    exact r15rd_ok x w _ _ _ _ bd.1 bd.2 (ord_lt hx fin_p62 (by rw [SV_p62]; omega)) (ord_gt hx fin_m62 (by rw [SV_m62]; omega)) ht HR (fun w => r15floor_any _ hx w) (fun w => run_fsub (P := Try.prog) 24 (sub_fl hx).1 w) (half_ord hx)

def bfB (x y : Nat) : Bool := if sg x != sg y then sg x else if sg x = true then decide (y < x) else decide (x < y)
theorem r15bf_any (x y : Nat) (w : World) (hx : x < 18446744073709551616) (hy : y < 18446744073709551616) : Calls Try.prog 23 #[.float .f64 x, .float .f64 y] w fun e w' => e = .returned (.bool (bfB x y)) ∧ w = w' := by
  have H1 := fun w => r15parts x w hx
  have H2 := fun w => r15parts y w hy
  have hB := f64bits x
  have hB2 := f64bits y
  unfold bfB
  have e1 : decide (y < x) = decide ((y : Int) < (x : Int)) := decide_eq_decide.2 (by omega)
  have e2 : decide (x < y) = decide ((x : Int) < (y : Int)) := decide_eq_decide.2 (by omega)
  rw [e1, e2]
  clear e1 e2
  generalize ((x / 4503599627370496 % 2048 : Nat) : Int) = p1 at *
  generalize ((x % 4503599627370496 : Nat) : Int) = q1 at *
  generalize ((y / 4503599627370496 % 2048 : Nat) : Int) = p2 at *
  generalize ((y % 4503599627370496 : Nat) : Int) = q2 at *
  generalize sg x = s at *
  generalize sg y = t at *
  cases s <;> cases t
  all_goals
    go_enter Try.func23, Try.ntmps23
    go_wp2_with fail
    refine (H1 _).mono ?_
    rintro e w' ⟨rfl, rfl⟩
    go_wp2_with fail
    refine (H2 _).mono ?_
    rintro e w' ⟨rfl, rfl⟩
    go_wp2_with fail
    go_ret
    exact ⟨rfl, rfl⟩
def clN (x : Nat) : Int := if x / 4503599627370496 % 2048 = 2047 then (if x % 4503599627370496 = 0 then 1 else 0) else if x / 4503599627370496 % 2048 = 0 then (if x % 4503599627370496 = 0 then 2 else 3) else 4
theorem r15cl_0 (x : Nat) (p q : Int) (k : Int) (w : World) (b : Bool) (HP : ∀ w, Calls Try.prog 45 #[.float .f64 x] w fun e w' => e = .returned (.tuple #[.bool b, .int .u64 p, .int .u64 q]) ∧ w = w')
    (hk : ((p == 2047) = true ∧ (q != 0) = true ∧ k = 0) ∨ ((p == 2047) = true ∧ (q != 0) = false ∧ k = 1) ∨ ((p == 2047) = false ∧ (p == 0) = true ∧ (q == 0) = true ∧ k = 2) ∨ ((p == 2047) = false ∧ (p == 0) = true ∧ (q == 0) = false ∧ k = 3) ∨ ((p == 2047) = false ∧ (p == 0) = false ∧ k = 4)) :
    Calls Try.prog 25 #[.float .f64 x] w fun e w' => e = .returned (.int .i64 k) ∧ w = w' := by
  rcases hk with ⟨h1, h2, rfl⟩ | ⟨h1, h2, rfl⟩ | ⟨h1, h2, h3, rfl⟩ | ⟨h1, h2, h3, rfl⟩ | ⟨h1, h2, rfl⟩
  all_goals
    go_enter Try.func25, Try.ntmps25
    go_wp2_with fail
    refine (HP _).mono ?_
    rintro e w' ⟨rfl, rfl⟩
    go_wp2_with fail
    go_ret
    exact ⟨rfl, rfl⟩
theorem r15class_any (x : Nat) (w : World) (hx : x < 18446744073709551616) : Calls Try.prog 25 #[.float .f64 x] w fun e w' => e = .returned (.int .i64 (clN x)) ∧ w = w' := by
  refine r15cl_0 x _ _ _ w _ (fun w => r15parts x w hx) ?_
  unfold clN
  generalize x / 4503599627370496 % 2048 = p
  generalize x % 4503599627370496 = q
  by_cases h1 : p = 2047
  · rw [if_pos h1]
    by_cases h2 : q = 0
    · rw [if_pos h2]; right; left; exact ⟨by rw [beq_iff_eq]; omega, by rw [bne_eq_false_iff_eq]; omega, rfl⟩
    · rw [if_neg h2]; left; exact ⟨by rw [beq_iff_eq]; omega, by rw [bne_iff_ne]; omega, rfl⟩
  · rw [if_neg h1]
    by_cases h3 : p = 0
    · rw [if_pos h3]
      by_cases h2 : q = 0
      · rw [if_pos h2]; right; right; left; exact ⟨by rw [beq_eq_false_iff_ne]; omega, by rw [beq_iff_eq]; omega, by rw [beq_iff_eq]; omega, rfl⟩
      · rw [if_neg h2]; right; right; right; left; exact ⟨by rw [beq_eq_false_iff_ne]; omega, by rw [beq_iff_eq]; omega, by rw [beq_eq_false_iff_ne]; omega, rfl⟩
    · rw [if_neg h3]; right; right; right; right; exact ⟨by rw [beq_eq_false_iff_ne]; omega, by rw [beq_eq_false_iff_ne]; omega, rfl⟩
end Go.Proofs.Ytiidmnmedkekjaa

namespace Go.Proofs.Ytiidmnmedkekjaa
open Go.RowKit

theorem sg_iff {x : Nat} (hx : x < 18446744073709551616) : (sg x = true ↔ 9223372036854775808 ≤ x) ∧ (sg x = true → x = 9223372036854775808 + rg x) ∧ (sg x = false → x = rg x) := by
  have e : (sg x = true) ↔ x / 9223372036854775808 % 2 = 1 := by unfold sg; rw [beq_iff_eq]
  refine ⟨by rw [e]; omega, fun h => ?_, fun h => ?_⟩
  · have := e.1 h; unfold rg; omega
  · have : ¬ x / 9223372036854775808 % 2 = 1 := fun g => by rw [e.2 g] at h; cases h
    unfold rg; omega
def ky (x : Nat) : Int := if x < 9223372036854775808 then (x : Int) else 9223372036854775807 - (x : Int)
theorem ky_sg {x : Nat} (hx : x < 18446744073709551616) : (sg x = false ∧ ky x = (rg x : Int)) ∨ (sg x = true ∧ ky x = -1 - (rg x : Int)) := by
  obtain ⟨a, b, c⟩ := sg_iff hx
  cases h : sg x
  · left
    have := c h
    have : ¬ 9223372036854775808 ≤ x := fun g => by rw [a.2 g] at h; cases h
    refine ⟨rfl, ?_⟩
    unfold ky; rw [if_pos (by omega)]; omega
  · right
    have := b h
    have := a.1 h
    refine ⟨rfl, ?_⟩
    unfold ky; rw [if_neg (by omega)]; omega
theorem ky_inj {x y : Nat} (hx : x < 18446744073709551616) (hy : y < 18446744073709551616) (h : ky x = ky y) : x = y := by
  unfold ky at h
  split at h <;> split at h <;> omega
theorem bfB_ky {x y : Nat} (hx : x < 18446744073709551616) (hy : y < 18446744073709551616) : bfB x y = decide (ky x < ky y) := by
  obtain ⟨_, b1, c1⟩ := sg_iff hx
  obtain ⟨_, b2, c2⟩ := sg_iff hy
  unfold bfB
  rcases ky_sg hx with ⟨s1, k1⟩ | ⟨s1, k1⟩ <;> rcases ky_sg hy with ⟨s2, k2⟩ | ⟨s2, k2⟩ <;> rw [s1, s2, k1, k2]
  · have := c1 s1
    have := c2 s2
    rw [if_neg (by decide), if_neg (by decide)]; exact decide_eq_decide.2 (by omega)
  · rw [if_pos (by decide)]; exact (decide_eq_false (by omega)).symm
  · rw [if_pos (by decide)]; exact (decide_eq_true (by omega)).symm
  · have := b1 s1
    have := b2 s2
    rw [if_neg (by decide), if_pos rfl]; exact decide_eq_decide.2 (by omega)
theorem lt_ky {x y : Nat} (hx : x < 18446744073709551616) (hy : y < 18446744073709551616) (h : FloatKind.f64.format.order x y = some .lt) : ky x < ky y := by
  have h' : (Ieee.double.read x).order (Ieee.double.read y) = some .lt := h
  rcases Nat.lt_trichotomy (rg x) 9218868437227405312 with a | a | a
  · rcases Nat.lt_trichotomy (rg y) 9218868437227405312 with b | b | b
    · have e : FloatKind.f64.format.order x y = some (compare (SV x) (SV y)) := order_is a b
      rw [e] at h
      have hlt := Int.compare_eq_lt.1 (Option.some.inj h)
      rw [SV_is, SV_is] at hlt
      unfold SVs at hlt
      rcases ky_sg hx with ⟨s1, k1⟩ | ⟨s1, k1⟩ <;> rcases ky_sg hy with ⟨s2, k2⟩ | ⟨s2, k2⟩ <;> rw [k1, k2] <;> rw [s1, s2] at hlt
      · rw [if_neg (by decide), if_neg (by decide)] at hlt
        have := U_lt_iff.1 (Int.ofNat_lt.1 hlt); omega
      · rw [if_neg (by decide), if_pos rfl] at hlt; omega
      · omega
      · rw [if_pos rfl, if_pos rfl] at hlt
        have := U_lt_iff.1 (Int.ofNat_lt.1 (show (U (rg y) : Int) < (U (rg x) : Int) by omega)); omega
    · obtain ⟨m, e, r, _⟩ := read_fin a
      rw [r, read_inf b] at h'
      unfold Ieee.Datum.order at h'
      dsimp only at h'
      rcases ky_sg hx with ⟨s1, k1⟩ | ⟨s1, k1⟩ <;> rcases ky_sg hy with ⟨s2, k2⟩ | ⟨s2, k2⟩ <;> rw [k1, k2] <;> rw [s2] at h'
      · omega
      · rw [if_pos rfl] at h'; cases h'
      · omega
      · rw [if_pos rfl] at h'; cases h'
    · rw [read_nan b] at h'
      obtain ⟨m, e, r, _⟩ := read_fin a
      rw [r] at h'; cases h'
  · rcases Nat.lt_trichotomy (rg y) 9218868437227405312 with b | b | b
    · obtain ⟨m, e, r, _⟩ := read_fin b
      rw [r, read_inf a] at h'
      unfold Ieee.Datum.order at h'
      dsimp only at h'
      rcases ky_sg hx with ⟨s1, k1⟩ | ⟨s1, k1⟩ <;> rcases ky_sg hy with ⟨s2, k2⟩ | ⟨s2, k2⟩ <;> rw [k1, k2] <;> rw [s1] at h'
      · rw [if_neg (by decide)] at h'; cases h'
      · rw [if_neg (by decide)] at h'; cases h'
      · omega
      · omega
    · rw [read_inf a, read_inf b] at h'
      unfold Ieee.Datum.order at h'
      dsimp only at h'
      rcases ky_sg hx with ⟨s1, k1⟩ | ⟨s1, k1⟩ <;> rcases ky_sg hy with ⟨s2, k2⟩ | ⟨s2, k2⟩ <;> rw [k1, k2] <;> rw [s1, s2] at h'
      · exact absurd h' (by decide)
      · exact absurd h' (by decide)
      · omega
      · exact absurd h' (by decide)
    · rw [read_inf a, read_nan b] at h'; cases h'
  · rw [read_nan a] at h'; cases h'

theorem RD_diff (x : Nat) : 2 * (RD x * (ONE : Int) - SV x).natAbs ≤ ONE ∧ (2 * (RD x * (ONE : Int) - SV x).natAbs = ONE → RD x % 2 = 0) := by
  have hs := SV_fl x
  have hf := fr_lt x
  have hp := ONE_pos
  unfold RD
  rcases Nat.lt_trichotomy (2 * fr x) ONE with l | l | l
  · rw [if_pos l]; constructor <;> omega
  · rw [if_neg (by omega), if_neg (by omega)]
    by_cases h2 : fl x % 2 = 0
    · rw [if_pos h2]; constructor <;> omega
    · rw [if_neg h2, Int.add_mul, Int.one_mul]; constructor <;> omega
  · rw [if_neg (by omega), if_pos l, Int.add_mul, Int.one_mul]; constructor <;> omega
theorem RD_zero {x : Nat} (h : 2 * U (rg x) < ONE) : RD x = 0 := by
  have hS : SV x = SVs (sg x) (U (rg x)) := SV_is x
  unfold SVs at hS
  cases hs : sg x
  · rw [hs, if_neg (by decide)] at hS
    obtain ⟨a, b⟩ := fl_of (x := x) (n := 0) (t := U (rg x)) (by rw [hS]; omega) (by omega)
    unfold RD; rw [a, b, if_pos h]
  · rw [hs, if_pos rfl] at hS
    rcases Nat.eq_zero_or_pos (U (rg x)) with z | p
    · obtain ⟨a, b⟩ := fl_of (x := x) (n := 0) (t := 0) (by rw [hS, z]; omega) ONE_pos
      unfold RD; rw [a, b, if_pos (by have := ONE_pos; omega)]
    · obtain ⟨a, b⟩ := fl_of (x := x) (n := -1) (t := ONE - U (rg x)) (by rw [hS]; omega) (by omega)
      unfold RD; rw [a, b, if_neg (by omega), if_pos (by omega)]; rfl
/-- The difference is a rung's number. -/
theorem diff_exact {x : Nat} {n : Int} (h : ONE ≤ 2 * U (rg x)) (hd : 2 * (n * (ONE : Int) - SV x).natAbs ≤ ONE) : U (rn (n * (ONE : Int) - SV x).natAbs 0) = (n * (ONE : Int) - SV x).natAbs := by
  obtain ⟨k, e, hk, hu, _⟩ := U_digits (rg x)
  have hS : SV x = SVs (sg x) k * ((2 ^ e : Nat) : Int) := by rw [SV_is, hu]; unfold SVs; cases sg x <;> simp [Int.neg_mul]
  have hp := two_pow_pos e
  rcases Nat.lt_or_ge e E0 with l | l
  · obtain ⟨d, hd'⟩ : ∃ d, E0 - e = d := ⟨_, rfl⟩
    have ho : ONE = 2 ^ d * 2 ^ e := by rw [← hd']; exact ONE_split (Nat.le_of_lt l)
    have hD : n * (ONE : Int) - SV x = (n * ((2 ^ d : Nat) : Int) - SVs (sg x) k) * ((2 ^ e : Nat) : Int) := by
      rw [hS, ho, Int.natCast_mul, ← Int.mul_assoc, Int.sub_mul]
    rw [hD, Int.natAbs_mul, Int.natAbs_natCast] at hd ⊢
    generalize (n * ((2 ^ d : Nat) : Int) - SVs (sg x) k).natAbs = j at *
    refine rn_exact ?_
    rw [ho, ← Nat.mul_assoc] at hd
    have h1 : 2 * j ≤ 2 ^ d := Nat.le_of_mul_le_mul_right hd hp
    rw [hu, ho, ← Nat.mul_assoc] at h
    have h2 : 2 ^ d ≤ 2 * k := Nat.le_of_mul_le_mul_right h hp
    omega
  · have hO : ((2 ^ e : Nat) : Int) = ((2 ^ (e - E0) : Nat) : Int) * (ONE : Int) := by rw [ONE_up l, Int.natCast_mul]
    have hD : n * (ONE : Int) - SV x = (n - SVs (sg x) k * ((2 ^ (e - E0) : Nat) : Int)) * (ONE : Int) := by
      rw [hS, hO, ← Int.mul_assoc, ← Int.sub_mul]
    rw [hD, Int.natAbs_mul, Int.natAbs_natCast] at hd ⊢
    generalize (n - SVs (sg x) k * ((2 ^ (e - E0) : Nat) : Int)).natAbs = j at *
    have : j = 0 := by
      rcases Nat.eq_zero_or_pos j with z | p
      · exact z
      · have : 1 * ONE ≤ j * ONE := Nat.mul_le_mul_right _ p
        have := ONE_pos
        omega
    subst this
    rw [Nat.zero_mul, rn_zero]; rfl
/-- The word of the nearest integer. -/
theorem fi_RD {x : Nat} (hx : Fin x) : SV (fi (RD x)) = RD x * (ONE : Int) ∧ Fin (fi (RD x)) := by
  cases h : big x
  · have hb := fl_bd (big_no h)
    have : (RD x).natAbs ≤ 9007199254740992 := by rcases RD_cases x with ⟨_, e⟩ | ⟨_, _, e⟩ | ⟨_, _, e⟩ | ⟨_, e⟩ <;> omega
    exact fi_small this
  · have hb := fr_big (of_decide_eq_true h)
    have e : RD x = fl x := by unfold RD; rw [hb.1, if_pos (by have := ONE_pos; omega)]
    rw [e]
    have hU : (fl x).natAbs * ONE = U (rg x) := by
      have h3 := natAbs_SV x
      rw [← h3, ← hb.2, Int.natAbs_mul, Int.natAbs_natCast]
    exact (fi_at (n := fl x) hx hU).2
/-- The rounded difference of the nearest integer and the number. -/
def rW (x : Nat) : Nat := (Ieee.double.sub (fi (RD x)) x).getD 0
theorem SV_mhalf : SV 13826050856027422720 = -(U 4602678819172646912 : Int) := by
  have : SV (wd true 4602678819172646912) = SVs true (U 4602678819172646912) := SV_wd (by decide)
  rw [show wd true 4602678819172646912 = 13826050856027422720 by decide] at this
  rw [this]; rfl
theorem SV_phalf : SV 4602678819172646912 = (U 4602678819172646912 : Int) := SV_small (by decide)
theorem fin_mhalf : Fin 13826050856027422720 := by unfold Fin; decide
theorem sub_RD {x : Nat} (hx : Fin x) : Ieee.double.sub (fi (RD x)) x = some (rW x) ∧ ((FloatKind.f64.format.order (rW x) 4602678819172646912 = some .lt ∧ FloatKind.f64.format.order (rW x) 13826050856027422720 = some .gt) ∨
    (FloatKind.f64.format.order (rW x) 4602678819172646912 = some .eq ∧ FloatKind.f64.format.order (rW x) 13826050856027422720 = some .gt ∧ RD x % 2 = 0) ∨
    (FloatKind.f64.format.order (rW x) 4602678819172646912 = some .lt ∧ FloatKind.f64.format.order (rW x) 13826050856027422720 = some .eq ∧ RD x % 2 = 0)) := by
  obtain ⟨f1, f2⟩ := fi_RD hx
  obtain ⟨d1, d2⟩ := RD_diff x
  have hh := U_half2
  have hs := sub_is f2 hx
  rw [f1] at hs
  have hle : rn (RD x * (ONE : Int) - SV x).natAbs 0 ≤ 4602678819172646912 := rn_upto (by
    clear f1 f2 d2 hs
    revert hh d1
    generalize (RD x * (ONE : Int) - SV x).natAbs = D
    generalize U 4602678819172646912 = u
    generalize ONE = o
    intro d1 hh
    omega)
  rw [Nat.min_eq_left (by omega)] at hs
  have e : rW x = wd (sumS (RD x * (ONE : Int) - SV x) (sg (fi (RD x))) (!sg x)) (rn (RD x * (ONE : Int) - SV x).natAbs 0) := by unfold rW; rw [hs, Option.getD_some]
  refine ⟨by rw [hs, e], ?_⟩
  rw [e]
  generalize sumS (RD x * (ONE : Int) - SV x) (sg (fi (RD x))) (!sg x) = s
  have hfin : Fin (wd s (rn (RD x * (ONE : Int) - SV x).natAbs 0)) := Fin_wd (by omega)
  have hv : SV (wd s (rn (RD x * (ONE : Int) - SV x).natAbs 0)) = SVs s (U (rn (RD x * (ONE : Int) - SV x).natAbs 0)) := SV_wd (by omega)
  have hup : 0 < U 4602678819172646912 := by
    have := ONE_pos
    generalize U 4602678819172646912 = u at hh ⊢
    omega
  rcases Nat.lt_or_ge (rn (RD x * (ONE : Int) - SV x).natAbs 0) 4602678819172646912 with l | l
  · left
    have hl := U_lt l
    refine ⟨ord_lt hfin fin_half ?_, ord_gt hfin fin_mhalf ?_⟩
    · rw [hv, SV_phalf]; unfold SVs; split <;> omega
    · rw [hv, SV_mhalf]; unfold SVs; split <;> omega
  · have er : rn (RD x * (ONE : Int) - SV x).natAbs 0 = 4602678819172646912 := by omega
    have hev : RD x % 2 = 0 := by
      rcases Nat.lt_or_ge (2 * U (rg x)) ONE with m | m
      · rw [RD_zero m]; rfl
      · have := diff_exact m d1
        rw [er] at this
        refine d2 ?_
        generalize U 4602678819172646912 = u at hh this
        omega
    rw [er] at hv hfin ⊢
    right
    cases s
    · left
      refine ⟨ord_eq hfin fin_half (by rw [hv, SV_phalf]; rfl), ord_gt hfin fin_mhalf ?_, hev⟩
      rw [hv, SV_mhalf]; unfold SVs; rw [if_neg (by decide)]; omega
    · right
      refine ⟨ord_lt hfin fin_half ?_, ord_eq hfin fin_mhalf (by rw [hv, SV_mhalf]; rfl), hev⟩
      rw [hv, SV_phalf]; unfold SVs; rw [if_pos rfl]; omega
theorem RD_mono {x y : Nat} (h : SV x ≤ SV y) : RD x ≤ RD y := by
  have h1 := SV_fl x
  have h2 := SV_fl y
  have f1 := fr_lt x
  have f2 := fr_lt y
  have hp := ONE_int
  have hfl : fl x ≤ fl y := Int.ediv_le_ediv hp h
  rcases Int.lt_or_le (fl x) (fl y) with l | l
  · unfold RD
    split <;> split <;> (try split) <;> (try split) <;> (try split) <;> (try split) <;> omega
  · have e : fl x = fl y := Int.le_antisymm hfl l
    rw [e] at h1
    have : fr x ≤ fr y := by omega
    unfold RD
    rw [e]
    split <;> split <;> (try split) <;> (try split) <;> (try split) <;> (try split) <;> omega
def ng (x : Nat) : Nat := if x < 9223372036854775808 then x + 9223372036854775808 else x - 9223372036854775808
theorem ng_is {x : Nat} (hx : x < 18446744073709551616) : ng x < 18446744073709551616 ∧ rg (ng x) = rg x ∧ sg (ng x) = !sg x ∧ ng x / 4503599627370496 % 2048 = x / 4503599627370496 % 2048 ∧ ng x % 4503599627370496 = x % 4503599627370496 := by
  have hlt : ng x < 18446744073709551616 := by unfold ng; split <;> omega
  refine ⟨hlt, by unfold ng rg; split <;> omega, ?_, by unfold ng; split <;> omega, by unfold ng; split <;> omega⟩
  have a := (sg_iff hx).1
  have b := (sg_iff hlt).1
  cases h : sg x
  · have : ¬ 9223372036854775808 ≤ x := fun g => by rw [a.2 g] at h; cases h
    exact b.2 (by unfold ng; rw [if_pos (by omega)]; omega)
  · have := a.1 h
    cases h2 : sg (ng x)
    · rfl
    · have := b.1 h2; unfold ng at this; rw [if_neg (by omega)] at this; omega
theorem SV_ng {x : Nat} (hx : x < 18446744073709551616) : SV (ng x) = -SV x := by
  obtain ⟨_, h2, h3, _⟩ := ng_is hx
  rw [SV_is, SV_is, h2, h3, ← SVs_not]
theorem clN_ng {x : Nat} (hx : x < 18446744073709551616) : clN (ng x) = clN x := by
  obtain ⟨_, _, _, h4, h5⟩ := ng_is hx
  unfold clN; rw [h4, h5]
theorem rdB_ng {x : Nat} (hx : x < 18446744073709551616) : rdB (ng x) = rdB x := by
  obtain ⟨_, h2, _⟩ := ng_is hx
  unfold rdB finB; rw [h2]
theorem RD_ng {x : Nat} (hx : x < 18446744073709551616) : RD (ng x) = -RD x := by
  have hs := SV_ng hx
  have h1 := SV_fl x
  have hf := fr_lt x
  rcases Nat.eq_zero_or_pos (fr x) with z | p
  · obtain ⟨a, b⟩ := fl_of (x := ng x) (n := -fl x) (t := 0) (by rw [hs, h1, z, Int.neg_mul]; omega) ONE_pos
    unfold RD
    rw [a, b, z, if_pos (by omega), if_pos (by omega)]
  · obtain ⟨a, b⟩ := fl_of (x := ng x) (n := -fl x - 1) (t := ONE - fr x) (by rw [hs, h1, Int.sub_mul, Int.neg_mul, Int.one_mul]; omega) (by omega)
    unfold RD
    rw [a, b]
    split <;> split <;> (try split) <;> (try split) <;> (try split) <;> (try split) <;> omega
theorem rdN_ng {x : Nat} (hx : x < 18446744073709551616) : rdN (ng x) = -rdN x := by
  unfold rdN; rw [rdB_ng hx]
  split
  · exact RD_ng hx
  · rfl
theorem bf_ng {x : Nat} (hx : x < 18446744073709551616) : bfB x (ng x) = sg x ∧ bfB (ng x) x = !sg x := by
  obtain ⟨_, _, h3, _⟩ := ng_is hx
  unfold bfB
  rw [h3]
  cases sg x <;> exact ⟨rfl, rfl⟩
end Go.Proofs.Ytiidmnmedkekjaa

namespace Go.Proofs.Ytiidmnmedkekjaa
open Go.RowKit

structure MP : Prop where
  ph : ∀ x : Nat, x < 18446744073709551616 → ∀ w, Calls Try.prog 16 #[.float .f64 x] w fun e w' => e = .returned (.float .f64 (phR x)) ∧ Below w.heap.size w w'
  ag : ∀ x : Nat, x < 18446744073709551616 → ∀ w, Calls Try.prog 18 #[.float .f64 x] w fun e w' => e = .returned (.float .f64 (agR x)) ∧ Below w.heap.size w w'
  lu : ∀ x : Nat, x < 18446744073709551616 → ∀ w, Calls Try.prog 11 #[.float .f64 x] w fun e w' => e = .returned (ibv (luN x) (luB x)) ∧ Below w.heap.size w w'
  rd : ∀ x : Nat, x < 18446744073709551616 → ∀ w, Calls Try.prog 13 #[.float .f64 x] w fun e w' => e = .returned (ibv (rdN x) (rdB x)) ∧ Below w.heap.size w w'
  cl : ∀ x : Nat, x < 18446744073709551616 → ∀ w, Calls Try.prog 24 #[.float .f64 x] w fun e w' => e = .returned (.int .i64 (clN x)) ∧ Below w.heap.size w w'
  bf : ∀ x y : Nat, x < 18446744073709551616 → y < 18446744073709551616 → ∀ w, Calls Try.prog 22 #[.float .f64 x, .float .f64 y] w fun e w' => e = .returned (.bool (bfB x y)) ∧ Below w.heap.size w w'
  nm : ∀ k : Int, k.natAbs ≤ 9223372036854775808 → ∀ w, Calls Try.prog 20 #[.int .i64 k] w fun e w' => e = .returned (.float .f64 (nmW k)) ∧ Below w.heap.size w w'

theorem isnan_N (w : World) : Calls Try.prog 27 #[.float .f64 9221120237041090561] w fun e w' => e = .returned (.bool true) ∧ w = w' := by
  have ho : FloatKind.f64.format.order 9221120237041090561 9221120237041090561 = none := by decide
  go_enter Try.func27, Try.ntmps27
  go_wp2
  go_ret
  exact ⟨rfl, rfl⟩
theorem signbit_no (x : Nat) (hx : x < 9223372036854775808) (w : World) : Calls Try.prog 28 #[.float .f64 x] w fun e w' => e = .returned (.bool false) ∧ w = w' := by
  have hB := f64bits x
  have h0 : (0 : Int) ≤ (x : Int) := by omega
  have h1 : (x : Int) < 9223372036854775808 := by omega
  go_enter Try.func28, Try.ntmps28
  go_wp2
  go_ret
  exact ⟨rfl, rfl⟩
theorem inf_pos (w : World) : Calls Try.prog 31 #[.int .i64 1] w fun e w' => e = .returned (.float .f64 9218868437227405312) ∧ w = w' := by
  have hF : ∀ w, (callFunc 10 #[.int .u64 9218868437227405312]).run Try.prog w = .ok (.value (.float .f64 9218868437227405312)) w := f64from 9218868437227405312
  go_enter Try.func31, Try.ntmps31
  go_wp2
  go_ret
  exact ⟨rfl, rfl⟩
theorem inf_neg (w : World) : Calls Try.prog 31 #[.int .i64 (-1)] w fun e w' => e = .returned (.float .f64 18442240474082181120) ∧ w = w' := by
  have hF : ∀ w, (callFunc 10 #[.int .u64 18442240474082181120]).run Try.prog w = .ok (.value (.float .f64 18442240474082181120)) w := f64from 18442240474082181120
  go_enter Try.func31, Try.ntmps31
  go_wp2
  go_ret
  exact ⟨rfl, rfl⟩
theorem nan_is (w : World) : Calls Try.prog 33 #[] w fun e w' => e = .returned (.float .f64 9221120237041090561) ∧ w = w' := by
  have hF : ∀ w, (callFunc 10 #[.int .u64 9221120237041090561]).run Try.prog w = .ok (.value (.float .f64 9221120237041090561)) w := f64from 9221120237041090561
  go_enter Try.func33, Try.ntmps33
  go_wp2
  go_ret
  exact ⟨rfl, rfl⟩
theorem copysign_is (w : World) : Calls Try.prog 32 #[.float .f64 0, .float .f64 13830554455654793216] w fun e w' => e = .returned (.float .f64 9223372036854775808) ∧ w = w' := by
  have hB : ∀ w, (callFunc 15 #[.float .f64 0]).run Try.prog w = .ok (.value (.int .u64 0)) w := f64bits 0
  have hB2 : ∀ w, (callFunc 15 #[.float .f64 13830554455654793216]).run Try.prog w = .ok (.value (.int .u64 13830554455654793216)) w := f64bits 13830554455654793216
  have hF : ∀ w, (callFunc 10 #[.int .u64 9223372036854775808]).run Try.prog w = .ok (.value (.float .f64 9223372036854775808)) w := f64from 9223372036854775808
  have h1 : bits .andNot .u64 0 9223372036854775808 = 0 := by decide
  have h2 : bits .and .u64 13830554455654793216 9223372036854775808 = 9223372036854775808 := by decide
  have h3 : bits .or .u64 0 9223372036854775808 = 9223372036854775808 := by decide
  go_enter Try.func32, Try.ntmps32
  go_wp2
  go_ret
  exact ⟨rfl, rfl⟩
theorem aw15_1 : luN wE = 0 ∧ luB wE = true ∧ phR wE = 0 := by decide +kernel
theorem aw15_2 : rdN 4612811918334230528 = 2 ∧ rdB 4612811918334230528 = true ∧ rdN 4615063718147915776 = 4 ∧ rdB 4615063718147915776 = true := by decide +kernel
theorem aw15_3 : rdB 9218868437227405312 = false ∧ phR 18442240474082181120 = 9221120237041090561 ∧ clN 9221120237041090561 = 0 ∧ clN 4607182418800017408 = 4 ∧ bfB 9223372036854775808 0 = true ∧ bfB 0 9223372036854775808 = false := by decide +kernel
set_option maxRecDepth 100000 in
set_option maxHeartbeats 1000000 in
theorem c15awake_any (M : MP) (W : World) : Calls Try.prog 9 #[] W fun e w' => e = .returned (.bool true) ∧ Below W.heap.size W w' := by
  have H1 : ∀ w, Calls Try.prog 11 #[.float .f64 wE] w fun e w' => e = .returned (ibv 0 true) ∧ Below w.heap.size w w' := fun w => by have := M.lu wE (by decide) w; rwa [aw15_1.1, aw15_1.2.1] at this
  have H2 : ∀ w, Calls Try.prog 13 #[.float .f64 4612811918334230528] w fun e w' => e = .returned (ibv 2 true) ∧ Below w.heap.size w w' := fun w => by have := M.rd 4612811918334230528 (by decide) w; rwa [aw15_2.1, aw15_2.2.1] at this
  have H3 : ∀ w, Calls Try.prog 13 #[.float .f64 4615063718147915776] w fun e w' => e = .returned (ibv 4 true) ∧ Below w.heap.size w w' := fun w => by have := M.rd 4615063718147915776 (by decide) w; rwa [aw15_2.2.2.1, aw15_2.2.2.2] at this
  have H4 : ∀ w, Calls Try.prog 13 #[.float .f64 9218868437227405312] w fun e w' => e = .returned (ibv (rdN 9218868437227405312) false) ∧ Below w.heap.size w w' := fun w => by have := M.rd 9218868437227405312 (by decide) w; rwa [aw15_3.1] at this
  have H5 : ∀ w, Calls Try.prog 16 #[.float .f64 wE] w fun e w' => e = .returned (.float .f64 0) ∧ Below w.heap.size w w' := fun w => by have := M.ph wE (by decide) w; rwa [aw15_1.2.2] at this
  have H6 : ∀ w, Calls Try.prog 16 #[.float .f64 18442240474082181120] w fun e w' => e = .returned (.float .f64 9221120237041090561) ∧ Below w.heap.size w w' := fun w => by have := M.ph 18442240474082181120 (by decide) w; rwa [aw15_3.2.1] at this
  have H7 : ∀ w, Calls Try.prog 22 #[.float .f64 9223372036854775808, .float .f64 0] w fun e w' => e = .returned (.bool true) ∧ Below w.heap.size w w' := fun w => by have := M.bf 9223372036854775808 0 (by decide) (by decide) w; rwa [aw15_3.2.2.2.2.1] at this
  have H8 : ∀ w, Calls Try.prog 22 #[.float .f64 0, .float .f64 9223372036854775808] w fun e w' => e = .returned (.bool false) ∧ Below w.heap.size w w' := fun w => by have := M.bf 0 9223372036854775808 (by decide) (by decide) w; rwa [aw15_3.2.2.2.2.2] at this
  have H9 : ∀ w, Calls Try.prog 24 #[.float .f64 9221120237041090561] w fun e w' => e = .returned (.int .i64 0) ∧ Below w.heap.size w w' := fun w => by have := M.cl 9221120237041090561 (by decide) w; rwa [aw15_3.2.2.1] at this
  have H10 : ∀ w, Calls Try.prog 24 #[.float .f64 4607182418800017408] w fun e w' => e = .returned (.int .i64 4) ∧ Below w.heap.size w w' := fun w => by have := M.cl 4607182418800017408 (by decide) w; rwa [aw15_3.2.2.2.1] at this
  have hB : ∀ w, (callFunc 15 #[.float .f64 0]).run Try.prog w = .ok (.value (.int .u64 0)) w := f64bits 0
  generalize rdN 9218868437227405312 = k9 at *
  clear M
  have S0 := Lib.hid (Below.refl W.heap.size W)
  go_enter Try.func9, Try.ntmps9
  go_wp2_with fail
  refine (r15epo _).mono ?_
  rintro e wq ⟨rfl, rfl⟩
  go_wp2_with fail
  refine (H1 _).mono ?_
  rintro e w1 ⟨rfl, hb1⟩
  have S1 := Lib.hid (below_on S0.out hb1)
  clear hb1
  go_wp2_with fail
  refine (H2 _).mono ?_
  rintro e w2 ⟨rfl, hb2⟩
  have S2 := Lib.hid (below_on S1.out hb2)
  clear hb2
  go_wp2_with fail
  refine (H3 _).mono ?_
  rintro e w3 ⟨rfl, hb3⟩
  have S3 := Lib.hid (below_on S2.out hb3)
  clear hb3
  go_wp2_with fail
  refine (inf_pos _).mono ?_
  rintro e wq ⟨rfl, rfl⟩
  go_wp2_with fail
  refine (H4 _).mono ?_
  rintro e w4 ⟨rfl, hb4⟩
  have S4 := Lib.hid (below_on S3.out hb4)
  clear hb4
  go_wp2_with fail
  refine (r15epo _).mono ?_
  rintro e wq ⟨rfl, rfl⟩
  go_wp2_with fail
  refine (H5 _).mono ?_
  rintro e w5 ⟨rfl, hb5⟩
  have S5 := Lib.hid (below_on S4.out hb5)
  clear hb5
  go_wp2_with fail
  refine (inf_neg _).mono ?_
  rintro e wq ⟨rfl, rfl⟩
  go_wp2_with fail
  refine (H6 _).mono ?_
  rintro e w6 ⟨rfl, hb6⟩
  have S6 := Lib.hid (below_on S5.out hb6)
  clear hb6
  go_wp2_with fail
  refine (isnan_N _).mono ?_
  rintro e wq ⟨rfl, rfl⟩
  go_wp2_with fail
  refine (copysign_is _).mono ?_
  rintro e wq ⟨rfl, rfl⟩
  go_wp2_with fail
  refine (H7 _).mono ?_
  rintro e w7 ⟨rfl, hb7⟩
  have S7 := Lib.hid (below_on S6.out hb7)
  clear hb7
  go_wp2_with fail
  refine (copysign_is _).mono ?_
  rintro e wq ⟨rfl, rfl⟩
  go_wp2_with fail
  refine (H8 _).mono ?_
  rintro e w8 ⟨rfl, hb8⟩
  have S8 := Lib.hid (below_on S7.out hb8)
  clear hb8
  go_wp2_with fail
  refine (nan_is _).mono ?_
  rintro e wq ⟨rfl, rfl⟩
  go_wp2_with fail
  refine (H9 _).mono ?_
  rintro e w9 ⟨rfl, hb9⟩
  have S9 := Lib.hid (below_on S8.out hb9)
  clear hb9
  go_wp2_with fail
  refine (H10 _).mono ?_
  rintro e w10 ⟨rfl, hb10⟩
  have S10 := Lib.hid (below_on S9.out hb10)
  clear hb10
  go_wp2_with fail
  go_ret
  exact ⟨rfl, S10.out⟩
end Go.Proofs.Ytiidmnmedkekjaa

namespace Go.Proofs.Ytiidmnmedkekjaa
open Go.RowKit

set_option maxRecDepth 100000 in
set_option maxHeartbeats 1000000 in
theorem l15mat0 (x y p a r : Nat) (k n m s : Int) (b d t : Bool)
    (HA : ∀ w, Calls Try.prog 9 #[] w fun e w' => e = .returned (.bool true) ∧ Below w.heap.size w w')
    (H1 : ∀ w, Calls Try.prog 11 #[.float .f64 x] w fun e w' => e = .returned (ibv n b) ∧ Below w.heap.size w w')
    (R1 : ∀ w, Calls Try.prog 12 #[.float .f64 x] w fun e w' => e = .returned (ibv n b) ∧ w = w')
    (H2 : ∀ w, Calls Try.prog 13 #[.float .f64 x] w fun e w' => e = .returned (ibv m d) ∧ Below w.heap.size w w')
    (R2 : ∀ w, Calls Try.prog 14 #[.float .f64 x] w fun e w' => e = .returned (ibv m d) ∧ w = w')
    (H3 : ∀ w, Calls Try.prog 16 #[.float .f64 x] w fun e w' => e = .returned (.float .f64 p) ∧ Below w.heap.size w w')
    (R3 : ∀ w, Calls Try.prog 17 #[.float .f64 x] w fun e w' => e = .returned (.int .u64 (p : Int)) ∧ w = w')
    (H4 : ∀ w, Calls Try.prog 18 #[.float .f64 x] w fun e w' => e = .returned (.float .f64 a) ∧ Below w.heap.size w w')
    (R4 : ∀ w, Calls Try.prog 19 #[.float .f64 x] w fun e w' => e = .returned (.int .u64 (a : Int)) ∧ w = w')
    (H5 : ∀ w, Calls Try.prog 20 #[.int .i64 k] w fun e w' => e = .returned (.float .f64 r) ∧ Below w.heap.size w w')
    (R5 : ∀ w, Calls Try.prog 21 #[.int .i64 k] w fun e w' => e = .returned (.int .u64 (r : Int)) ∧ w = w')
    (H6 : ∀ w, Calls Try.prog 22 #[.float .f64 x, .float .f64 y] w fun e w' => e = .returned (.bool t) ∧ Below w.heap.size w w')
    (R6 : ∀ w, Calls Try.prog 23 #[.float .f64 x, .float .f64 y] w fun e w' => e = .returned (.bool t) ∧ w = w')
    (H7 : ∀ w, Calls Try.prog 24 #[.float .f64 x] w fun e w' => e = .returned (.int .i64 s) ∧ Below w.heap.size w w')
    (R7 : ∀ w, Calls Try.prog 25 #[.float .f64 x] w fun e w' => e = .returned (.int .i64 s) ∧ w = w')
    (W : World) :
    Calls Try.prog 3 #[.int .u64 (x : Int), .int .u64 (y : Int), .int .i64 k] W fun e w' => e = .returned (.bool true) ∧ Below W.heap.size W w' := by
  have hF1 := f64from x
  have hF2 := f64from y
  have hB1 := f64bits p
  have hB2 := f64bits a
  have hB3 := f64bits r
  have S0 := Lib.hid (Below.refl W.heap.size W)
  go_enter Try.func3, Try.ntmps3
  go_wp2_with fail
  refine (HA _).mono ?_
  rintro e w1 ⟨rfl, hb1⟩
  have S1 := Lib.hid (below_on S0.out hb1)
  clear hb1
  go_wp2_with fail
  refine (H1 _).mono ?_
  rintro e w2 ⟨rfl, hb2⟩
  have S2 := Lib.hid (below_on S1.out hb2)
  clear hb2
  go_wp2_with fail
  refine (R1 _).mono ?_
  rintro e wq ⟨rfl, rfl⟩
  go_wp2_with fail
  refine (H2 _).mono ?_
  rintro e w3 ⟨rfl, hb3⟩
  have S3 := Lib.hid (below_on S2.out hb3)
  clear hb3
  go_wp2_with fail
  refine (R2 _).mono ?_
  rintro e wq ⟨rfl, rfl⟩
  go_wp2_with fail
  refine (H3 _).mono ?_
  rintro e w4 ⟨rfl, hb4⟩
  have S4 := Lib.hid (below_on S3.out hb4)
  clear hb4
  go_wp2_with fail
  refine (R3 _).mono ?_
  rintro e wq ⟨rfl, rfl⟩
  go_wp2_with fail
  refine (H4 _).mono ?_
  rintro e w5 ⟨rfl, hb5⟩
  have S5 := Lib.hid (below_on S4.out hb5)
  clear hb5
  go_wp2_with fail
  refine (R4 _).mono ?_
  rintro e wq ⟨rfl, rfl⟩
  go_wp2_with fail
  refine (H5 _).mono ?_
  rintro e w6 ⟨rfl, hb6⟩
  have S6 := Lib.hid (below_on S5.out hb6)
  clear hb6
  go_wp2_with fail
  refine (R5 _).mono ?_
  rintro e wq ⟨rfl, rfl⟩
  go_wp2_with fail
  refine (H6 _).mono ?_
  rintro e w7 ⟨rfl, hb7⟩
  have S7 := Lib.hid (below_on S6.out hb7)
  clear hb7
  go_wp2_with fail
  refine (R6 _).mono ?_
  rintro e wq ⟨rfl, rfl⟩
  go_wp2_with fail
  refine (H7 _).mono ?_
  rintro e w8 ⟨rfl, hb8⟩
  have S8 := Lib.hid (below_on S7.out hb8)
  clear hb8
  go_wp2_with fail
  refine (R7 _).mono ?_
  rintro e wq ⟨rfl, rfl⟩
  go_wp2_with fail
  go_ret
  exact ⟨rfl, S8.out⟩
theorem l15matches (M : MP) (x y : Nat) (k : Int) (hx : x < 18446744073709551616) (hy : y < 18446744073709551616) (hk : k.natAbs ≤ 9223372036854775808) (W : World) :
    Calls Try.prog 3 #[.int .u64 (x : Int), .int .u64 (y : Int), .int .i64 k] W fun e w' => e = .returned (.bool true) ∧ Below W.heap.size W w' :=
  l15mat0 x y _ _ _ k _ _ _ _ _ _ (c15awake_any M) (M.lu x hx) (fun w => r15lun_any x w hx) (M.rd x hx) (fun w => r15round_any x w hx) (M.ph x hx) (fun w => r15phase_any x w hx) (M.ag x hx) (fun w => r15age_any x w hx) (M.nm k hk) (fun w => r15nm_any k w hk) (M.bf x y hx hy) (fun w => r15bf_any x y w hx hy) (M.cl x hx) (fun w => r15class_any x w hx) W
set_option maxRecDepth 100000 in
set_option maxHeartbeats 1000000 in
theorem l15ph_no (x q : Nat)
    (HA : ∀ w, Calls Try.prog 9 #[] w fun e w' => e = .returned (.bool true) ∧ Below w.heap.size w w')
    (H1 : ∀ w, Calls Try.prog 16 #[.float .f64 x] w fun e w' => e = .returned (.float .f64 9221120237041090561) ∧ Below w.heap.size w w')
    (H2 : ∀ w, Calls Try.prog 18 #[.float .f64 x] w fun e w' => e = .returned (.float .f64 9221120237041090561) ∧ Below w.heap.size w w')
    (R1 : ∀ w, Calls Try.prog 26 #[.float .f64 x] w fun e w' => e = .returned (fbv q false) ∧ w = w')
    (W : World) :
    Calls Try.prog 4 #[.int .u64 (x : Int)] W fun e w' => e = .returned (.bool true) ∧ Below W.heap.size W w' := by
  have hF1 := f64from x
  have S0 := Lib.hid (Below.refl W.heap.size W)
  go_enter Try.func4, Try.ntmps4
  go_wp2_with fail
  refine (HA _).mono ?_
  rintro e w1 ⟨rfl, hb1⟩
  have S1 := Lib.hid (below_on S0.out hb1)
  clear hb1
  go_wp2_with fail
  refine (H1 _).mono ?_
  rintro e w2 ⟨rfl, hb2⟩
  have S2 := Lib.hid (below_on S1.out hb2)
  clear hb2
  go_wp2_with fail
  refine (H2 _).mono ?_
  rintro e w3 ⟨rfl, hb3⟩
  have S3 := Lib.hid (below_on S2.out hb3)
  clear hb3
  go_wp2_with fail
  refine (R1 _).mono ?_
  rintro e wq ⟨rfl, rfl⟩
  go_wp2_with fail
  refine (isnan_N _).mono ?_
  rintro e wq ⟨rfl, rfl⟩
  go_wp2_with fail
  refine (isnan_N _).mono ?_
  rintro e wq ⟨rfl, rfl⟩
  go_wp2_with fail
  go_ret
  exact ⟨rfl, S3.out⟩
set_option maxRecDepth 100000 in
set_option maxHeartbeats 1000000 in
theorem l15ph_0 (x q : Nat)
    (HA : ∀ w, Calls Try.prog 9 #[] w fun e w' => e = .returned (.bool true) ∧ Below w.heap.size w w')
    (H1 : ∀ w, Calls Try.prog 16 #[.float .f64 x] w fun e w' => e = .returned (.float .f64 0) ∧ Below w.heap.size w w')
    (H2 : ∀ w, Calls Try.prog 18 #[.float .f64 x] w fun e w' => e = .returned (.float .f64 0) ∧ Below w.heap.size w w')
    (R1 : ∀ w, Calls Try.prog 26 #[.float .f64 x] w fun e w' => e = .returned (fbv q true) ∧ w = w')
    (o1 : FloatKind.f64.format.order 0 0 = some .eq) (o2 : FloatKind.f64.format.order 0 4607182418800017408 = some .lt) (o3 : FloatKind.f64.format.order 0 wS = some .lt)
    (W : World) :
    Calls Try.prog 4 #[.int .u64 (x : Int)] W fun e w' => e = .returned (.bool true) ∧ Below W.heap.size W w' := by
  have hF1 := f64from x
  have HS := fun w => signbit_no 0 (by omega) w
  have S0 := Lib.hid (Below.refl W.heap.size W)
  go_enter Try.func4, Try.ntmps4
  go_wp2_with fail
  refine (HA _).mono ?_
  rintro e w1 ⟨rfl, hb1⟩
  have S1 := Lib.hid (below_on S0.out hb1)
  clear hb1
  go_wp2_with fail
  refine (H1 _).mono ?_
  rintro e w2 ⟨rfl, hb2⟩
  have S2 := Lib.hid (below_on S1.out hb2)
  clear hb2
  go_wp2_with fail
  refine (H2 _).mono ?_
  rintro e w3 ⟨rfl, hb3⟩
  have S3 := Lib.hid (below_on S2.out hb3)
  clear hb3
  go_wp2_with fail
  refine (R1 _).mono ?_
  rintro e wq ⟨rfl, rfl⟩
  go_wp2_with fail
  refine (HS _).mono ?_
  rintro e wq ⟨rfl, rfl⟩
  go_wp2_with fail
  refine (r15syn _).mono ?_
  rintro e wq ⟨rfl, rfl⟩
  go_wp2_with fail
  go_ret
  exact ⟨rfl, S3.out⟩
set_option maxRecDepth 100000 in
set_option maxHeartbeats 1000000 in
theorem l15ph_1 (x q p a : Nat)
    (HA : ∀ w, Calls Try.prog 9 #[] w fun e w' => e = .returned (.bool true) ∧ Below w.heap.size w w')
    (H1 : ∀ w, Calls Try.prog 16 #[.float .f64 x] w fun e w' => e = .returned (.float .f64 p) ∧ Below w.heap.size w w')
    (H2 : ∀ w, Calls Try.prog 18 #[.float .f64 x] w fun e w' => e = .returned (.float .f64 a) ∧ Below w.heap.size w w')
    (R1 : ∀ w, Calls Try.prog 26 #[.float .f64 x] w fun e w' => e = .returned (fbv q true) ∧ w = w')
    (hp : p < 9223372036854775808) (o1 : FloatKind.f64.format.order p 0 = some .gt) (o2 : FloatKind.f64.format.order p 4607182418800017408 = some .lt) (o3 : FloatKind.f64.format.order a wS = some .lt) (o4 : FloatKind.f64.format.order a 0 = some .gt)
    (W : World) :
    Calls Try.prog 4 #[.int .u64 (x : Int)] W fun e w' => e = .returned (.bool true) ∧ Below W.heap.size W w' := by
  have hF1 := f64from x
  have HS := fun w => signbit_no p (by omega) w
  have S0 := Lib.hid (Below.refl W.heap.size W)
  go_enter Try.func4, Try.ntmps4
  go_wp2_with fail
  refine (HA _).mono ?_
  rintro e w1 ⟨rfl, hb1⟩
  have S1 := Lib.hid (below_on S0.out hb1)
  clear hb1
  go_wp2_with fail
  refine (H1 _).mono ?_
  rintro e w2 ⟨rfl, hb2⟩
  have S2 := Lib.hid (below_on S1.out hb2)
  clear hb2
  go_wp2_with fail
  refine (H2 _).mono ?_
  rintro e w3 ⟨rfl, hb3⟩
  have S3 := Lib.hid (below_on S2.out hb3)
  clear hb3
  go_wp2_with fail
  refine (R1 _).mono ?_
  rintro e wq ⟨rfl, rfl⟩
  go_wp2_with fail
  refine (HS _).mono ?_
  rintro e wq ⟨rfl, rfl⟩
  go_wp2_with fail
  refine (r15syn _).mono ?_
  rintro e wq ⟨rfl, rfl⟩
  go_wp2_with fail
  go_ret
  exact ⟨rfl, S3.out⟩
theorem l15phase (M : MP) (x : Nat) (hx : x < 18446744073709551616) (W : World) :
    Calls Try.prog 4 #[.int .u64 (x : Int)] W fun e w' => e = .returned (.bool true) ∧ Below W.heap.size W w' := by
  have H1 := M.ph x hx
  have H2 := M.ag x hx
  cases h : regB x
  · rw [show phR x = 9221120237041090561 by unfold phR; rw [h, if_neg (by decide)]] at H1
    rw [show agR x = 9221120237041090561 by unfold agR; rw [h, if_neg (by decide)]] at H2
    have HR := fun w => r15reg_any x w hx
    rw [h] at HR
    exact l15ph_no x _ (c15awake_any M) H1 H2 HR W
  · have HR := fun w => r15reg_yes x w hx h
    rw [show phR x = ph (qW x) by unfold phR; rw [h, if_pos rfl]] at H1
    rw [show agR x = ag (qW x) by unfold agR; rw [h, if_pos rfl]] at H2
    have p1 := ph_lt (qW x)
    have a1 : ag (qW x) < 4629005339494030828 := ag_lt (qW x)
    have so (w : Nat) (hw : w < 4611686018427387904 * 2) (hw2 : w < 9218868437227405312) : SV w = (U w : Int) ∧ Fin w := ⟨SV_small (by omega), by unfold Fin; rw [rg_small (by omega)]; exact hw2⟩
    rcases Nat.eq_zero_or_pos (ph (qW x)) with z | p
    · rw [z] at H1
      rw [ag_zero z] at H2
      exact l15ph_0 x _ (c15awake_any M) H1 H2 HR (ord_eq fin_zero fin_zero rfl) (ord_lt fin_zero fin_one (by rw [SV_zero, SV_one]; exact ONE_int)) (ord_lt fin_zero fin_S (by rw [SV_zero, SV_small (w := wS) (by decide)]; exact Int.natCast_pos.2 (by rw [← U_zero]; exact U_lt (by decide)))) W
    · have a := ag_pos p
      obtain ⟨s1, f1⟩ := so (ph (qW x)) (by omega) (by omega)
      obtain ⟨s2, f2⟩ := so (ag (qW x)) (by omega) (by omega)
      refine l15ph_1 x _ _ _ (c15awake_any M) H1 H2 HR (by omega) (ord_gt f1 fin_zero ?_) (ord_lt f1 fin_one ?_) (ord_lt f2 fin_S ?_) (ord_gt f2 fin_zero ?_) W
      · rw [s1, SV_zero]; exact Int.natCast_pos.2 (by rw [← U_zero]; exact U_lt p)
      · rw [s1, SV_one, ← U_one]; exact Int.ofNat_lt.2 (U_lt p1)
      · rw [s2, SV_small (w := wS) (by decide)]; exact Int.ofNat_lt.2 (U_lt a1)
      · rw [s2, SV_zero]; exact Int.natCast_pos.2 (by rw [← U_zero]; exact U_lt a)
set_option maxRecDepth 100000 in
set_option maxHeartbeats 1000000 in
theorem l15or_lt (x y z : Nat)
    (HA : ∀ w, Calls Try.prog 9 #[] w fun e w' => e = .returned (.bool true) ∧ Below w.heap.size w w')
    (H1 : ∀ w, Calls Try.prog 22 #[.float .f64 x, .float .f64 y] w fun e w' => e = .returned (.bool true) ∧ Below w.heap.size w w')
    (H2 : ∀ w, Calls Try.prog 22 #[.float .f64 y, .float .f64 x] w fun e w' => e = .returned (.bool false) ∧ Below w.heap.size w w')
    (h1 : ((x : Int) == (y : Int)) = false)
    (H3 : ∀ w, Calls Try.prog 22 #[.float .f64 y, .float .f64 z] w fun e w' => e = .returned (.bool true) ∧ Below w.heap.size w w')
    (H4 : ∀ w, Calls Try.prog 22 #[.float .f64 x, .float .f64 z] w fun e w' => e = .returned (.bool true) ∧ Below w.heap.size w w')
    (W : World) :
    Calls Try.prog 5 #[.int .u64 (x : Int), .int .u64 (y : Int), .int .u64 (z : Int)] W fun e w' => e = .returned (.bool true) ∧ Below W.heap.size W w' := by
  cases ho : (FloatKind.f64.format.order x y == some .lt)
  all_goals
    have hF1 := f64from x
    have hF2 := f64from y
    have hF3 := f64from z
    have S0 := Lib.hid (Below.refl W.heap.size W)
    go_enter Try.func5, Try.ntmps5
    go_wp2_with fail
    refine (HA _).mono ?_
    rintro e w1 ⟨rfl, hb1⟩
    have S1 := Lib.hid (below_on S0.out hb1)
    clear hb1
    go_wp2_with fail
    refine (H1 _).mono ?_
    rintro e w2 ⟨rfl, hb2⟩
    have S2 := Lib.hid (below_on S1.out hb2)
    clear hb2
    go_wp2_with fail
    refine (H2 _).mono ?_
    rintro e w3 ⟨rfl, hb3⟩
    have S3 := Lib.hid (below_on S2.out hb3)
    clear hb3
    go_wp2_with fail
    refine (H3 _).mono ?_
    rintro e w4 ⟨rfl, hb4⟩
    have S4 := Lib.hid (below_on S3.out hb4)
    clear hb4
    go_wp2_with fail
    refine (H4 _).mono ?_
    rintro e w5 ⟨rfl, hb5⟩
    have S5 := Lib.hid (below_on S4.out hb5)
    clear hb5
    go_wp2_with fail
    go_ret
    exact ⟨rfl, S5.out⟩
set_option maxRecDepth 100000 in
set_option maxHeartbeats 1000000 in
theorem l15or_lf (x y z : Nat)
    (HA : ∀ w, Calls Try.prog 9 #[] w fun e w' => e = .returned (.bool true) ∧ Below w.heap.size w w')
    (H1 : ∀ w, Calls Try.prog 22 #[.float .f64 x, .float .f64 y] w fun e w' => e = .returned (.bool true) ∧ Below w.heap.size w w')
    (H2 : ∀ w, Calls Try.prog 22 #[.float .f64 y, .float .f64 x] w fun e w' => e = .returned (.bool false) ∧ Below w.heap.size w w')
    (h1 : ((x : Int) == (y : Int)) = false)
    (H3 : ∀ w, Calls Try.prog 22 #[.float .f64 y, .float .f64 z] w fun e w' => e = .returned (.bool false) ∧ Below w.heap.size w w')
    (W : World) :
    Calls Try.prog 5 #[.int .u64 (x : Int), .int .u64 (y : Int), .int .u64 (z : Int)] W fun e w' => e = .returned (.bool true) ∧ Below W.heap.size W w' := by
  cases ho : (FloatKind.f64.format.order x y == some .lt)
  all_goals
    have hF1 := f64from x
    have hF2 := f64from y
    have hF3 := f64from z
    have S0 := Lib.hid (Below.refl W.heap.size W)
    go_enter Try.func5, Try.ntmps5
    go_wp2_with fail
    refine (HA _).mono ?_
    rintro e w1 ⟨rfl, hb1⟩
    have S1 := Lib.hid (below_on S0.out hb1)
    clear hb1
    go_wp2_with fail
    refine (H1 _).mono ?_
    rintro e w2 ⟨rfl, hb2⟩
    have S2 := Lib.hid (below_on S1.out hb2)
    clear hb2
    go_wp2_with fail
    refine (H2 _).mono ?_
    rintro e w3 ⟨rfl, hb3⟩
    have S3 := Lib.hid (below_on S2.out hb3)
    clear hb3
    go_wp2_with fail
    refine (H3 _).mono ?_
    rintro e w4 ⟨rfl, hb4⟩
    have S4 := Lib.hid (below_on S3.out hb4)
    clear hb4
    go_wp2_with fail
    go_ret
    exact ⟨rfl, S4.out⟩
set_option maxRecDepth 100000 in
set_option maxHeartbeats 1000000 in
theorem l15or_g (x y z : Nat)
    (HA : ∀ w, Calls Try.prog 9 #[] w fun e w' => e = .returned (.bool true) ∧ Below w.heap.size w w')
    (H1 : ∀ w, Calls Try.prog 22 #[.float .f64 x, .float .f64 y] w fun e w' => e = .returned (.bool false) ∧ Below w.heap.size w w')
    (H2 : ∀ w, Calls Try.prog 22 #[.float .f64 y, .float .f64 x] w fun e w' => e = .returned (.bool true) ∧ Below w.heap.size w w')
    (h1 : ((x : Int) == (y : Int)) = false) (ho : (FloatKind.f64.format.order x y == some .lt) = false)
    (W : World) :
    Calls Try.prog 5 #[.int .u64 (x : Int), .int .u64 (y : Int), .int .u64 (z : Int)] W fun e w' => e = .returned (.bool true) ∧ Below W.heap.size W w' := by
  have hF1 := f64from x
  have hF2 := f64from y
  have hF3 := f64from z
  have S0 := Lib.hid (Below.refl W.heap.size W)
  go_enter Try.func5, Try.ntmps5
  go_wp2_with fail
  refine (HA _).mono ?_
  rintro e w1 ⟨rfl, hb1⟩
  have S1 := Lib.hid (below_on S0.out hb1)
  clear hb1
  go_wp2_with fail
  refine (H1 _).mono ?_
  rintro e w2 ⟨rfl, hb2⟩
  have S2 := Lib.hid (below_on S1.out hb2)
  clear hb2
  go_wp2_with fail
  refine (H2 _).mono ?_
  rintro e w3 ⟨rfl, hb3⟩
  have S3 := Lib.hid (below_on S2.out hb3)
  clear hb3
  go_wp2_with fail
  go_ret
  exact ⟨rfl, S3.out⟩
set_option maxRecDepth 100000 in
set_option maxHeartbeats 1000000 in
theorem l15or_e (x z : Nat)
    (HA : ∀ w, Calls Try.prog 9 #[] w fun e w' => e = .returned (.bool true) ∧ Below w.heap.size w w')
    (H1 : ∀ w, Calls Try.prog 22 #[.float .f64 x, .float .f64 x] w fun e w' => e = .returned (.bool false) ∧ Below w.heap.size w w')
    (ho : (FloatKind.f64.format.order x x == some .lt) = false)
    (W : World) :
    Calls Try.prog 5 #[.int .u64 (x : Int), .int .u64 (x : Int), .int .u64 (z : Int)] W fun e w' => e = .returned (.bool true) ∧ Below W.heap.size W w' := by
  have hF1 := f64from x
  have hF3 := f64from z
  have S0 := Lib.hid (Below.refl W.heap.size W)
  go_enter Try.func5, Try.ntmps5
  go_wp2_with fail
  refine (HA _).mono ?_
  rintro e w1 ⟨rfl, hb1⟩
  have S1 := Lib.hid (below_on S0.out hb1)
  clear hb1
  go_wp2_with fail
  refine (H1 _).mono ?_
  rintro e w2 ⟨rfl, hb2⟩
  have S2 := Lib.hid (below_on S1.out hb2)
  clear hb2
  go_wp2_with fail
  refine (H1 _).mono ?_
  rintro e w3 ⟨rfl, hb3⟩
  have S3 := Lib.hid (below_on S2.out hb3)
  clear hb3
  go_wp2_with fail
  go_ret
  exact ⟨rfl, S3.out⟩
theorem l15order (M : MP) (x y z : Nat) (hx : x < 18446744073709551616) (hy : y < 18446744073709551616) (hz : z < 18446744073709551616) (W : World) :
    Calls Try.prog 5 #[.int .u64 (x : Int), .int .u64 (y : Int), .int .u64 (z : Int)] W fun e w' => e = .returned (.bool true) ∧ Below W.heap.size W w' := by
  have H1 := M.bf x y hx hy
  have H2 := M.bf y x hy hx
  have H3 := M.bf y z hy hz
  have H4 := M.bf x z hx hz
  rw [bfB_ky hx hy] at H1
  rw [bfB_ky hy hx] at H2
  rw [bfB_ky hy hz] at H3
  rw [bfB_ky hx hz] at H4
  have no : ¬ ky x < ky y → (FloatKind.f64.format.order x y == some .lt) = false := fun h => by
    rw [beq_eq_false_iff_ne]; exact fun e => h (lt_ky hx hy e)
  rcases Int.lt_trichotomy (ky x) (ky y) with l | l | l
  · rw [decide_eq_true l] at H1
    rw [decide_eq_false (by omega)] at H2
    have ne : ((x : Int) == (y : Int)) = false := by
      rw [beq_eq_false_iff_ne]; intro e
      have : x = y := by omega
      subst this; omega
    by_cases g : ky y < ky z
    · rw [decide_eq_true g] at H3
      rw [decide_eq_true (by omega)] at H4
      exact l15or_lt x y z (c15awake_any M) H1 H2 ne H3 H4 W
    · rw [decide_eq_false g] at H3
      exact l15or_lf x y z (c15awake_any M) H1 H2 ne H3 W
  · have e := ky_inj hx hy l
    subst e
    rw [decide_eq_false (by omega)] at H1
    exact l15or_e x z (c15awake_any M) H1 (no (by omega)) W
  · rw [decide_eq_false (by omega)] at H1
    rw [decide_eq_true l] at H2
    have ne : ((x : Int) == (y : Int)) = false := by
      rw [beq_eq_false_iff_ne]; intro e
      have : x = y := by omega
      subst this; omega
    exact l15or_g x y z (c15awake_any M) H1 H2 ne (no (by omega)) W
set_option maxRecDepth 100000 in
set_option maxHeartbeats 1000000 in
theorem l15rd_no (x y : Nat)
    (HA : ∀ w, Calls Try.prog 9 #[] w fun e w' => e = .returned (.bool true) ∧ Below w.heap.size w w')
    (H1 : ∀ w, Calls Try.prog 13 #[.float .f64 x] w fun e w' => e = .returned (ibv 0 false) ∧ Below w.heap.size w w')
    (W : World) :
    Calls Try.prog 6 #[.int .u64 (x : Int), .int .u64 (y : Int)] W fun e w' => e = .returned (.bool true) ∧ Below W.heap.size W w' := by
  have hF1 := f64from x
  have hF2 := f64from y
  have S0 := Lib.hid (Below.refl W.heap.size W)
  go_enter Try.func6, Try.ntmps6
  go_wp2_with fail
  refine (HA _).mono ?_
  rintro e w1 ⟨rfl, hb1⟩
  have S1 := Lib.hid (below_on S0.out hb1)
  clear hb1
  go_wp2_with fail
  refine (H1 _).mono ?_
  rintro e w2 ⟨rfl, hb2⟩
  have S2 := Lib.hid (below_on S1.out hb2)
  clear hb2
  go_wp2_with fail
  go_ret
  exact ⟨rfl, S2.out⟩
set_option maxRecDepth 100000 in
set_option maxHeartbeats 1000000 in
theorem l15rd_ok (x y f r : Nat) (n m : Int) (b : Bool)
    (HA : ∀ w, Calls Try.prog 9 #[] w fun e w' => e = .returned (.bool true) ∧ Below w.heap.size w w')
    (H1 : ∀ w, Calls Try.prog 13 #[.float .f64 x] w fun e w' => e = .returned (ibv n true) ∧ Below w.heap.size w w')
    (hS : ∀ w, (binOp .sub 24 (.float .f64 f) (.float .f64 x)).run Try.prog w = .ok (.float .f64 r) w) (hf : floatOfInt .f64 n = f)
    (ho : (FloatKind.f64.format.order r 4602678819172646912 = some .lt ∧ FloatKind.f64.format.order r 13826050856027422720 = some .gt) ∨ (FloatKind.f64.format.order r 4602678819172646912 = some .eq ∧ FloatKind.f64.format.order r 13826050856027422720 = some .gt ∧ (n.tmod 2 != 0) = false) ∨ (FloatKind.f64.format.order r 4602678819172646912 = some .lt ∧ FloatKind.f64.format.order r 13826050856027422720 = some .eq ∧ (n.tmod 2 != 0) = false))
    (H2 : ∀ w, Calls Try.prog 13 #[.float .f64 y] w fun e w' => e = .returned (ibv m b) ∧ Below w.heap.size w w')
    (hb : b = false ∨ (b = true ∧ FloatKind.f64.format.order x y = some .gt) ∨ (b = true ∧ FloatKind.f64.format.order x y = some .lt ∧ decide (n ≤ m) = true) ∨ (b = true ∧ FloatKind.f64.format.order x y = some .eq ∧ decide (n ≤ m) = true))
    (W : World) :
    Calls Try.prog 6 #[.int .u64 (x : Int), .int .u64 (y : Int)] W fun e w' => e = .returned (.bool true) ∧ Below W.heap.size W w' := by
  have hq := fun w => run_convert_int_float (P := Try.prog) w 3 24 .i64 .f64 n (by kernel_rfl) Try.underlying24
  rw [hf] at hq
  clear hf
  rcases ho with ⟨o1, o2⟩ | ⟨o1, o2, o3⟩ | ⟨o1, o2, o3⟩ <;> rcases hb with rfl | ⟨rfl, o4⟩ | ⟨rfl, o4, o5⟩ | ⟨rfl, o4, o5⟩
  all_goals
    have hF1 := f64from x
    have hF2 := f64from y
    have S0 := Lib.hid (Below.refl W.heap.size W)
    go_enter Try.func6, Try.ntmps6
    go_wp2_with fail
    refine (HA _).mono ?_
    rintro e w1 ⟨rfl, hb1⟩
    have S1 := Lib.hid (below_on S0.out hb1)
    clear hb1
    go_wp2_with fail
    refine (H1 _).mono ?_
    rintro e w2 ⟨rfl, hb2⟩
    have S2 := Lib.hid (below_on S1.out hb2)
    clear hb2
    go_wp2_with fail
    refine (H2 _).mono ?_
    rintro e w3 ⟨rfl, hb3⟩
    have S3 := Lib.hid (below_on S2.out hb3)
    clear hb3
    go_wp2_with fail
    go_ret
    exact ⟨rfl, S3.out⟩
theorem l15round (M : MP) (x y : Nat) (hx : x < 18446744073709551616) (hy : y < 18446744073709551616) (W : World) :
    Calls Try.prog 6 #[.int .u64 (x : Int), .int .u64 (y : Int)] W fun e w' => e = .returned (.bool true) ∧ Below W.heap.size W w' := by
  have H1 := M.rd x hx
  have H2 := M.rd y hy
  cases h : rdB x
  · rw [show rdN x = 0 by unfold rdN; rw [h, if_neg (by decide)], h] at H1
    exact l15rd_no x y (c15awake_any M) H1 W
  · have e1 : rdN x = RD x := by unfold rdN; rw [h, if_pos rfl]
    rw [h, e1] at H1
    have fx := (rdB_iff.1 h).1
    obtain ⟨s1, s2⟩ := sub_RD fx
    have ev : RD x % 2 = 0 → ((RD x).tmod 2 != 0) = false := fun e => by rw [odd_tmod, decide_eq_true e]; rfl
    refine l15rd_ok x y _ _ _ _ _ (c15awake_any M) H1 (fun w => run_fsub (P := Try.prog) 24 s1 w) (fi_of _) ?_ H2 ?_ W
    · rcases s2 with ⟨a, b⟩ | ⟨a, b, c⟩ | ⟨a, b, c⟩
      · exact .inl ⟨a, b⟩
      · exact .inr (.inl ⟨a, b, ev c⟩)
      · exact .inr (.inr ⟨a, b, ev c⟩)
    · cases g : rdB y
      · exact .inl rfl
      · have fy := (rdB_iff.1 g).1
        have e2 : rdN y = RD y := by unfold rdN; rw [g, if_pos rfl]
        rw [e2]
        rcases Int.lt_trichotomy (SV x) (SV y) with l | l | l
        · exact .inr (.inr (.inl ⟨rfl, ord_lt fx fy l, decide_eq_true (RD_mono (Int.le_of_lt l))⟩))
        · exact .inr (.inr (.inr ⟨rfl, ord_eq fx fy l, decide_eq_true (RD_mono (Int.le_of_eq l))⟩))
        · exact .inr (.inl ⟨rfl, ord_gt fx fy l⟩)
set_option maxRecDepth 100000 in
set_option maxHeartbeats 1000000 in
theorem l15ng0 (x y : Nat) (n c : Int) (b s : Bool)
    (HA : ∀ w, Calls Try.prog 9 #[] w fun e w' => e = .returned (.bool true) ∧ Below w.heap.size w w')
    (hx : bits .xor .u64 (x : Int) 9223372036854775808 = (y : Int)) (n1 : -4611686018427387904 ≤ n) (n2 : n ≤ 4611686018427387904)
    (H1 : ∀ w, Calls Try.prog 13 #[.float .f64 x] w fun e w' => e = .returned (ibv n b) ∧ Below w.heap.size w w')
    (H2 : ∀ w, Calls Try.prog 13 #[.float .f64 y] w fun e w' => e = .returned (ibv (-n) b) ∧ Below w.heap.size w w')
    (H3 : ∀ w, Calls Try.prog 24 #[.float .f64 x] w fun e w' => e = .returned (.int .i64 c) ∧ Below w.heap.size w w')
    (H4 : ∀ w, Calls Try.prog 24 #[.float .f64 y] w fun e w' => e = .returned (.int .i64 c) ∧ Below w.heap.size w w')
    (H5 : ∀ w, Calls Try.prog 22 #[.float .f64 x, .float .f64 y] w fun e w' => e = .returned (.bool s) ∧ Below w.heap.size w w')
    (H6 : ∀ w, Calls Try.prog 22 #[.float .f64 y, .float .f64 x] w fun e w' => e = .returned (.bool (!s)) ∧ Below w.heap.size w w')
    (hg : decide (9223372036854775808 ≤ (x : Int)) = s) (hl : decide ((x : Int) < 9223372036854775808) = !s)
    (W : World) :
    Calls Try.prog 8 #[.int .u64 (x : Int)] W fun e w' => e = .returned (.bool true) ∧ Below W.heap.size W w' := by
  cases s
  all_goals
    have hF1 := f64from x
    have hF2 := f64from y
    have S0 := Lib.hid (Below.refl W.heap.size W)
    go_enter Try.func8, Try.ntmps8
    go_wp2_with fail
    refine (HA _).mono ?_
    rintro e w1 ⟨rfl, hb1⟩
    have S1 := Lib.hid (below_on S0.out hb1)
    clear hb1
    go_wp2_with fail
    refine (H1 _).mono ?_
    rintro e w2 ⟨rfl, hb2⟩
    have S2 := Lib.hid (below_on S1.out hb2)
    clear hb2
    go_wp2_with fail
    refine (H2 _).mono ?_
    rintro e w3 ⟨rfl, hb3⟩
    have S3 := Lib.hid (below_on S2.out hb3)
    clear hb3
    go_wp2_with fail
    refine (H3 _).mono ?_
    rintro e w4 ⟨rfl, hb4⟩
    have S4 := Lib.hid (below_on S3.out hb4)
    clear hb4
    go_wp2_with fail
    refine (H4 _).mono ?_
    rintro e w5 ⟨rfl, hb5⟩
    have S5 := Lib.hid (below_on S4.out hb5)
    clear hb5
    go_wp2_with fail
    refine (H5 _).mono ?_
    rintro e w6 ⟨rfl, hb6⟩
    have S6 := Lib.hid (below_on S5.out hb6)
    clear hb6
    go_wp2_with fail
    refine (H6 _).mono ?_
    rintro e w7 ⟨rfl, hb7⟩
    have S7 := Lib.hid (below_on S6.out hb7)
    clear hb7
    go_wp2_with fail
    go_ret
    exact ⟨rfl, S7.out⟩
theorem xor_ng {x : Nat} (hx : x < 18446744073709551616) : bits .xor .u64 (x : Int) 9223372036854775808 = (ng x : Int) := by
  have e : bits .xor .u64 (x : Int) ((9223372036854775808 : Nat) : Int) = ((x ^^^ 9223372036854775808 : Nat) : Int) := u64_xor_nat x 9223372036854775808 hx (by decide)
  have e2 : x ^^^ 9223372036854775808 = ng x := by
    have h1 := Nat.xor_mod_two_pow (a := x) (b := 9223372036854775808) (n := 63)
    have h2 := Nat.xor_div_two_pow (a := x) (b := 9223372036854775808) (n := 63)
    rw [show (2 : Nat) ^ 63 = 9223372036854775808 by decide, show 9223372036854775808 % 9223372036854775808 = 0 by decide, Nat.xor_zero] at h1
    rw [show (2 : Nat) ^ 63 = 9223372036854775808 by decide, show 9223372036854775808 / 9223372036854775808 = 1 by decide] at h2
    generalize x ^^^ 9223372036854775808 = z at h1 h2
    have hq : x / 9223372036854775808 = 0 ∨ x / 9223372036854775808 = 1 := by omega
    unfold ng
    rcases hq with g | g <;> rw [g] at h2
    · rw [show 0 ^^^ 1 = 1 by decide] at h2
      rw [if_pos (by omega)]; omega
    · rw [show 1 ^^^ 1 = 0 by decide] at h2
      rw [if_neg (by omega)]; omega
  rw [e2] at e
  exact e
theorem l15neg (M : MP) (x : Nat) (hx : x < 18446744073709551616) (W : World) :
    Calls Try.prog 8 #[.int .u64 (x : Int)] W fun e w' => e = .returned (.bool true) ∧ Below W.heap.size W w' := by
  have hn := (ng_is hx).1
  have H2 := M.rd (ng x) hn
  rw [rdB_ng hx, rdN_ng hx] at H2
  have H4 := M.cl (ng x) hn
  rw [clN_ng hx] at H4
  have H5 := M.bf x (ng x) hx hn
  rw [(bf_ng hx).1] at H5
  have H6 := M.bf (ng x) x hn hx
  rw [(bf_ng hx).2] at H6
  have hb : -4611686018427387904 ≤ rdN x ∧ rdN x ≤ 4611686018427387904 := by
    unfold rdN
    cases h : rdB x
    · rw [if_neg (by decide)]; omega
    · rw [if_pos rfl]; exact RD_bd (rdB_iff.1 h).2
  have hs := (sg_iff hx).1
  have g1 : decide (9223372036854775808 ≤ (x : Int)) = sg x := by rw [Bool.eq_iff_iff, decide_eq_true_iff, hs]; omega
  have g2 : decide ((x : Int) < 9223372036854775808) = !sg x := by
    rw [← g1, ← decide_not]; exact decide_eq_decide.2 (by omega)
  exact l15ng0 x (ng x) _ _ _ _ (c15awake_any M) (xor_ng hx) hb.1 hb.2 (M.rd x hx) H2 (M.cl x hx) H4 H5 H6 g1 g2 W
end Go.Proofs.Ytiidmnmedkekjaa

namespace Go.Proofs.Ytiidmnmedkekjaa
open Go.RowKit

/-- 2^1026 least units: the unit of the synodic month. -/
def E1 : Nat := 1026
theorem E1_eq : E1 = 1026 := rfl
def uu : Nat := 2 ^ E1
theorem uu_is : uu = 2 ^ E1 := rfl
theorem uu_pos : 0 < uu := two_pow_pos _
theorem SVs_zero (s : Bool) : SVs s 0 = 0 := by cases s <;> rfl
theorem ONE_uu : ONE = 281474976710656 * uu := by
  have h : E0 = 48 + E1 := rfl
  rw [ONE_is, h, Nat.pow_add, uu_is, show (2 : Nat) ^ 48 = 281474976710656 by decide]
theorem pow_uu (j : Nat) : 2 ^ (E1 + j) = uu * 2 ^ j := Nat.pow_add 2 E1 j
/-- A binade's number, in these units. -/
theorem U_uu {e j q : Nat} (h : e = E1 + j) (hq : q < 4503599627370496) : U ((e + 1) * 4503599627370496 + q) = (4503599627370496 + q) * (uu * 2 ^ j) := by rw [U_high hq, h, pow_uu]
theorem U_uu_lo {e j q : Nat} (h : e + j = E1) (hq : q < 4503599627370496) : U ((e + 1) * 4503599627370496 + q) * 2 ^ j = (4503599627370496 + q) * uu := by
  rw [U_high hq, Nat.mul_assoc, ← Nat.pow_add, h, uu_is]
theorem U_S : U wS = 8312121811901932 * uu := by
  have h := U_uu (e := 1026) (j := 0) (q := 3808522184531436) rfl (by decide)
  rw [show (1026 + 1) * 4503599627370496 + 3808522184531436 = 4629005339494030828 by decide, Nat.pow_zero, Nat.mul_one, show 4503599627370496 + 3808522184531436 = 8312121811901932 by decide] at h
  exact h
theorem U_E : U wE = 205512085597202284544 * uu := by
  have h := U_uu (e := 1041) (j := 15) (q := 1768131500473812) rfl (by decide)
  rw [show (1041 + 1) * 4503599627370496 + 1768131500473812 = 4694518943220530644 by decide] at h
  rw [h, Nat.mul_comm uu, ← Nat.mul_assoc]
abbrev w14 : Nat := 4624070917402656768
theorem U_14 : U w14 = 3940649673949184 * uu := by
  have h := U_uu_lo (e := 1025) (j := 1) (q := 3377699720527872) rfl (by decide)
  rw [show (1025 + 1) * 4503599627370496 + 3377699720527872 = 4624070917402656768 by decide, show (2 : Nat) ^ 1 = 2 by decide] at h
  show U 4624070917402656768 = _
  generalize U 4624070917402656768 = v at h ⊢
  generalize uu = u at h ⊢
  omega
theorem fin_14 : Fin w14 := by unfold Fin; decide
/-- A number below 2^j such units is rounded by at most a half of 2^(j - 53) of them. -/
theorem rn_near {n j : Nat} (h : n < uu * 2 ^ j) (hj : 53 ≤ j) : 2 * U (rn n 0) ≤ 2 * n + uu * 2 ^ (j - 53) ∧ 2 * n ≤ 2 * U (rn n 0) + uu * 2 ^ (j - 53) := by
  have he := rn_err n 0
  rw [Nat.pow_zero, Nat.mul_one, Nat.zero_add] at he
  have hl : n.log2 < E1 + j := log2_lt_of (by rw [pow_uu]; exact h) (by omega)
  have hp : 2 ^ (n.log2 - (0 + 52)) ≤ uu * 2 ^ (j - 53) := by
    rw [← pow_uu]; exact Nat.pow_le_pow_right (by decide) (by omega)
  generalize U (rn n 0) = v at *
  omega
theorem U_big : U ((1095 + 1) * 4503599627370496) = uu * 2 ^ 121 := by
  have h := U_uu (e := 1095) (j := 69) (q := 0) rfl (by decide)
  rw [Nat.add_zero, show 4503599627370496 + 0 = 4503599627370496 by rfl] at h
  rw [h, ← Nat.mul_assoc, Nat.mul_comm _ uu, Nat.mul_assoc, ← BB_eq, ← Nat.pow_add]
theorem rn_lt_inf {n j : Nat} (h : n < uu * 2 ^ j) (hj : j ≤ 121) : rn n 0 < 9218868437227405312 := by
  have : rn n 0 ≤ (1095 + 1) * 4503599627370496 := rn_upto (by
    rw [U_big]
    exact Nat.le_of_lt (Nat.lt_of_lt_of_le h (Nat.mul_le_mul_left _ (Nat.pow_le_pow_right (by decide) hj))))
  omega
/-- The word of a rounded whole number: how far it is from it. -/
theorem near_wd (T : Int) (a b : Bool) (h : T.natAbs < uu * 2 ^ 69) : Fin (wd (sumS T a b) (min (rn T.natAbs 0) 9218868437227405312)) ∧ wd (sumS T a b) (min (rn T.natAbs 0) 9218868437227405312) < 18446744073709551616 ∧ 2 * SV (wd (sumS T a b) (min (rn T.natAbs 0) 9218868437227405312)) ≤ 2 * T + 65536 * (uu : Int) ∧ 2 * T ≤ 2 * SV (wd (sumS T a b) (min (rn T.natAbs 0) 9218868437227405312)) + 65536 * (uu : Int) := by
  have hi := rn_lt_inf h (by decide)
  obtain ⟨e1, e2⟩ := rn_near h (by decide)
  rw [show 69 - 53 = 16 by decide, show (2 : Nat) ^ 16 = 65536 by decide] at e1 e2
  rw [Nat.min_eq_left (by omega)]
  refine ⟨Fin_wd hi, by unfold wd; split <;> omega, ?_⟩
  rw [SV_wd (by omega)]
  have hz : T = 0 → U (rn T.natAbs 0) = 0 := fun z => by rw [z, Int.natAbs_zero, rn_zero]; rfl
  unfold sumS
  by_cases z : T = 0
  · have := hz z
    rw [this]
    rw [SVs_zero]
    constructor <;> omega
  · rw [if_neg z]
    generalize U (rn T.natAbs 0) = v at *
    unfold SVs
    rcases Int.lt_or_le T 0 with l | l
    · rw [decide_eq_true l, if_pos rfl]; constructor <;> omega
    · rw [decide_eq_false (by omega), if_neg (by decide)]; constructor <;> omega
theorem near_add {x y : Nat} (hx : Fin x) (hy : Fin y) (h : (SV x + SV y).natAbs < uu * 2 ^ 69) : ∃ z, Ieee.double.add x y = some z ∧ Fin z ∧ z < 18446744073709551616 ∧ 2 * SV z ≤ 2 * (SV x + SV y) + 65536 * (uu : Int) ∧ 2 * (SV x + SV y) ≤ 2 * SV z + 65536 * (uu : Int) :=
  ⟨_, add_is hx hy, near_wd _ _ _ h⟩
theorem near_sub {x y : Nat} (hx : Fin x) (hy : Fin y) (h : (SV x - SV y).natAbs < uu * 2 ^ 69) : ∃ z, Ieee.double.sub x y = some z ∧ Fin z ∧ z < 18446744073709551616 ∧ 2 * SV z ≤ 2 * (SV x - SV y) + 65536 * (uu : Int) ∧ 2 * (SV x - SV y) ≤ 2 * SV z + 65536 * (uu : Int) :=
  ⟨_, sub_is hx hy, near_wd _ _ _ h⟩
/-- The product of a small integer and the synodic month. -/
theorem near_p {k : Int} (h1 : -32768 ≤ k) (h2 : k ≤ 32767) : Fin (pW k) ∧ 2 * SV (pW k) ≤ 2 * (8312121811901932 * (k * (uu : Int))) + 65536 * (uu : Int) ∧ 2 * (8312121811901932 * (k * (uu : Int))) ≤ 2 * SV (pW k) + 65536 * (uu : Int) := by
  have hf := fi_small (n := k) (by omega)
  have hU : U (rg (fi k)) = k.natAbs * ONE := by rw [← natAbs_SV, hf.1, Int.natAbs_mul, Int.natAbs_natCast]
  have hr : rn (U (rg (fi k)) * U wS) E0 = rn (k.natAbs * U wS) 0 := by
    have := rn_scale (k.natAbs * U wS) 0 E0
    rw [← ONE_is, Nat.zero_add] at this
    rw [hU, Nat.mul_right_comm]; exact this
  have hlt : k.natAbs * U wS < uu * 2 ^ 69 := by
    rw [U_S, ← Nat.mul_assoc, Nat.mul_comm _ uu]
    refine Nat.mul_lt_mul_of_pos_left ?_ uu_pos
    have : (2 : Nat) ^ 69 = 590295810358705651712 := by decide
    omega
  have hi := rn_lt_inf hlt (by decide)
  obtain ⟨e1, e2⟩ := rn_near hlt (by decide)
  rw [show 69 - 53 = 16 by decide, show (2 : Nat) ^ 16 = 65536 by decide] at e1 e2
  have hs : sg (fi k) = decide (k < 0) := by
    have hb : rn (k.natAbs * ONE) 0 ≤ 4845873199050653696 := rn_upto (by rw [U_p53]; exact Nat.mul_le_mul_right _ (by omega))
    unfold fi; rw [Nat.min_eq_left (by omega), sg_wd _ (by omega)]
  have hp : pW k = wd (decide (k < 0)) (rn (k.natAbs * U wS) 0) := by
    unfold pW; rw [hr, hs, Bool.xor_false, Nat.min_eq_left (by omega)]
  rw [hp]
  refine ⟨Fin_wd hi, ?_⟩
  rw [SV_wd (by omega)]
  have hk : SVs (decide (k < 0)) (k.natAbs * U wS) = 8312121811901932 * (k * (uu : Int)) := by
    rw [SVs_sign, U_S, Int.natCast_mul, ← Int.mul_assoc, Int.mul_comm k, Int.mul_assoc]; rfl
  rw [← hk]
  unfold SVs
  generalize U (rn (k.natAbs * U wS) 0) = v at *
  generalize k.natAbs * U wS = n at *
  split <;> constructor <;> omega

theorem read_fin2 {w : Nat} (h : Fin w) (hb : 4503599627370496 ≤ rg w) : ∃ m e : Nat, Ieee.double.read w = .number (sg w) m (-1074 + (e : Int)) ∧ U (rg w) = m * 2 ^ e ∧ 4503599627370496 ≤ m ∧ m < 9007199254740992 := by
  unfold Fin at h
  have hs : (w / Ieee.double.signWeight % 2 == 1) = sg w := by rw [sw_is]; rfl
  have hr : w % Ieee.double.signWeight = rg w := by rw [sw_is]; rfl
  unfold Ieee.Format.read
  rw [hs, hr, bin_is, inf_is, least_is]
  dsimp only
  refine ⟨4503599627370496 + rg w % 4503599627370496, rg w / 4503599627370496 - 1, ?_, ?_, by omega, by omega⟩
  · rw [if_neg (by omega), if_pos h]
  · unfold U; rw [if_neg (by omega)]
theorem quo_near (D g : Nat) (hg : 2 * (D / 8312121811901932) + (D % 8312121811901932 != 0).toNat = g) : g * 8312121811901932 ≤ 2 * D + 8312121811901932 ∧ 2 * D ≤ g * 8312121811901932 + 8312121811901932 := by
  have hm := Nat.div_add_mod D 8312121811901932
  have hl := Nat.mod_lt D (show 0 < 8312121811901932 by decide)
  generalize D / 8312121811901932 = Q at *
  generalize D % 8312121811901932 = R at *
  rcases Nat.eq_zero_or_pos R with z | p
  · rw [z, show ((0 : Nat) != 0).toNat = 0 by decide] at hg
    omega
  · rw [show (R != 0) = true by rw [bne_iff_ne]; omega, show true.toNat = 1 by decide] at hg
    omega
/-- The quotient by the synodic month of a day that is neither near nor far. -/
theorem div_near {d : Nat} (hd : Fin d) (h1 : 1000000000000000 * uu ≤ U (rg d)) (h2 : U (rg d) < uu * 2 ^ 68) :
    ∃ q N : Nat, Ieee.double.div d wS = some q ∧ Fin q ∧ sg q = sg d ∧ q < 18446744073709551616 ∧ 2 * U (rg q) ≤ 2 * N + 2048 * uu ∧ 2 * N ≤ 2 * U (rg q) + 2048 * uu ∧
      N * 8312121811901932 ≤ U (rg d) * 281474976710656 + 8312121811901932 * (512 * uu) ∧ U (rg d) * 281474976710656 ≤ N * 8312121811901932 + 8312121811901932 * (512 * uu) := by
  have hb : 4503599627370496 ≤ rg d := by
    rcases Nat.lt_or_ge (rg d) 4503599627370496 with l | l
    · exfalso
      rw [U_low l] at h1
      have : 4503599627370496 ≤ uu := by
        have : (2 : Nat) ^ 52 ≤ 2 ^ E1 := Nat.pow_le_pow_right (by decide) (by rw [E1_eq]; decide)
        rwa [BB_eq] at this
      omega
    · exact l
  obtain ⟨m, e, hr, hu, m1, m2⟩ := read_fin2 hd hb
  have hlog : m.log2 = 52 := log2_of (by rw [BB_eq]; exact m1) (by rw [show (2 : Nat) ^ (52 + 1) = 9007199254740992 by decide]; exact m2)
  have he2 : e < E1 + 17 := by
    rcases Nat.lt_or_ge e (E1 + 17) with l | l
    · exact l
    · exfalso
      have a : 2 ^ (E1 + 17) ≤ 2 ^ e := Nat.pow_le_pow_right (by decide) l
      rw [pow_uu] at a
      have b : 4503599627370496 * (uu * 2 ^ 17) ≤ m * 2 ^ e := Nat.mul_le_mul m1 a
      rw [hu, show (2 : Nat) ^ 68 = 295147905179352825856 by decide] at h2
      rw [show (2 : Nat) ^ 17 = 131072 by decide] at b
      omega
  have he1 : 7 ≤ e := by
    rcases Nat.lt_or_ge e 7 with l | l
    · exfalso
      have a : 2 ^ e ≤ 2 ^ 7 := Nat.pow_le_pow_right (by decide) (Nat.le_of_lt l)
      have b : m * 2 ^ e ≤ 9007199254740992 * 2 ^ 7 := Nat.mul_le_mul (Nat.le_of_lt m2) a
      have c : 2 ^ 60 ≤ uu := Nat.pow_le_pow_right (by decide) (by rw [E1_eq]; decide)
      rw [hu] at h1
      rw [show (2 : Nat) ^ 7 = 128 by decide] at b
      rw [show (2 : Nat) ^ 60 = 1152921504606846976 by decide] at c
      omega
    · exact l
  obtain ⟨a, ha⟩ : ∃ a, e = a + 7 := ⟨e - 7, by omega⟩
  subst ha
  obtain ⟨g, hg⟩ : ∃ g, 2 * (m * 2 ^ 54 / 8312121811901932) + (m * 2 ^ 54 % 8312121811901932 != 0).toNat = g := ⟨_, rfl⟩
  have hdiv : Ieee.double.div d wS = some (wd (sg d) (min (rn (g * 2 ^ a) 0) 9218868437227405312)) := by
    unfold Ieee.Format.div
    rw [hr, read_S]
    unfold Ieee.Datum.quotient
    dsimp only
    rw [if_neg (by decide), hlog, show (8312121811901932 : Nat).log2 = 52 by decide]
    have hf : Ieee.double.fractionBits + 2 + 52 - 52 = 54 := by decide
    rw [hf, Nat.shiftLeft_eq, hg]
    dsimp only [Option.map_some, Ieee.Format.write]
    rw [nearest_is, Bool.xor_false]
    rw [show (-1074 + ((a + 7 : Nat) : Int) - -48 - ((54 : Nat) : Int) - 1 + 1074).toNat = a by omega, show (-1074 - (-1074 + ((a + 7 : Nat) : Int) - -48 - ((54 : Nat) : Int) - 1)).toNat = 0 by omega]
  have hgb : g * 8312121811901932 ≤ m * 2 ^ 55 + 8312121811901932 ∧ m * 2 ^ 55 ≤ g * 8312121811901932 + 8312121811901932 := by
    have e55 : m * 2 ^ 55 = 2 * (m * 2 ^ 54) := by rw [show (2 : Nat) ^ 55 = 2 * 2 ^ 54 by decide]; exact Nat.mul_left_comm m 2 (2 ^ 54)
    rw [e55]
    exact quo_near _ _ hg
  have pa := two_pow_pos a
  have hNb : g * 2 ^ a * 8312121811901932 ≤ U (rg d) * 281474976710656 + 8312121811901932 * 2 ^ a ∧ U (rg d) * 281474976710656 ≤ g * 2 ^ a * 8312121811901932 + 8312121811901932 * 2 ^ a := by
    have e1 : U (rg d) * 281474976710656 = m * 2 ^ 55 * 2 ^ a := by
      rw [hu, Nat.pow_add, show (2 : Nat) ^ 55 = 2 ^ 7 * 281474976710656 by decide]
      rw [Nat.mul_assoc, Nat.mul_assoc, Nat.mul_assoc, Nat.mul_comm (2 ^ a)]
    have e2 : g * 2 ^ a * 8312121811901932 = g * 8312121811901932 * 2 ^ a := Nat.mul_right_comm _ _ _
    rw [e1, e2, ← Nat.add_mul, ← Nat.add_mul]
    exact ⟨Nat.mul_le_mul_right _ hgb.1, Nat.mul_le_mul_right _ hgb.2⟩
  have ha9 : 2 ^ a ≤ 512 * uu := by
    have : 2 ^ a ≤ 2 ^ (E1 + 9) := Nat.pow_le_pow_right (by decide) (by omega)
    rw [pow_uu, show (2 : Nat) ^ 9 = 512 by decide, Nat.mul_comm] at this
    exact this
  have hN : g * 2 ^ a < uu * 2 ^ 64 := by
    rw [show (2 : Nat) ^ 68 = 295147905179352825856 by decide] at h2
    rw [show (2 : Nat) ^ 64 = 18446744073709551616 by decide]
    generalize g * 2 ^ a = n at *
    generalize 2 ^ a = p at *
    generalize U (rg d) = v at *
    generalize uu = u at *
    omega
  have hi := rn_lt_inf hN (by decide)
  obtain ⟨c1, c2⟩ := rn_near hN (by decide)
  rw [show 64 - 53 = 11 by decide, show (2 : Nat) ^ 11 = 2048 by decide] at c1 c2
  rw [Nat.min_eq_left (by omega)] at hdiv
  refine ⟨_, g * 2 ^ a, hdiv, Fin_wd hi, sg_wd _ (by omega), by unfold wd; split <;> omega, ?_, ?_, ?_, ?_⟩
  · rw [rg_wd _ (by omega), Nat.mul_comm 2048]; exact c1
  · rw [rg_wd _ (by omega), Nat.mul_comm 2048]; exact c2
  · exact Nat.le_trans hNb.1 (Nat.add_le_add_left (Nat.mul_le_mul_left _ ha9) _)
  · exact Nat.le_trans hNb.2 (Nat.add_le_add_left (Nat.mul_le_mul_left _ ha9) _)
end Go.Proofs.Ytiidmnmedkekjaa

namespace Go.Proofs.Ytiidmnmedkekjaa
open Go.RowKit

theorem SV_wE : SV wE = 205512085597202284544 * (uu : Int) := by
  rw [SV_small (w := wE) (by decide), U_E, Int.natCast_mul]; rfl
theorem SV_w14 : SV w14 = 3940649673949184 * (uu : Int) := by
  rw [SV_small (w := w14) (by decide), U_14, Int.natCast_mul]; rfl
theorem ONE_uuI : (ONE : Int) = 281474976710656 * (uu : Int) := by rw [ONE_uu, Int.natCast_mul]; rfl
theorem uu_posI : (0 : Int) < (uu : Int) := Int.natCast_pos.2 uu_pos
theorem pow_of (j : Nat) (c : Nat) (h : 2 ^ j = c) : uu * 2 ^ j = c * uu := by rw [h, Nat.mul_comm]
/-- The quotient of a day's distance. -/
theorem q_near {d : Nat} (hd : Fin d) (h1 : 1000000000000000 * (uu : Int) ≤ SV d ∨ SV d ≤ -(1000000000000000 * (uu : Int))) (h2 : SV d < 295147905179352825856 * (uu : Int)) (h3 : -(295147905179352825856 * (uu : Int)) < SV d) :
    ∃ q : Nat, Ieee.double.div d wS = some q ∧ Fin q ∧ q < 18446744073709551616 ∧ 8312121811901932 * SV q ≤ 281474976710656 * SV d + 8312121811901932 * (1536 * (uu : Int)) ∧ 281474976710656 * SV d ≤ 8312121811901932 * SV q + 8312121811901932 * (1536 * (uu : Int)) := by
  have ha := natAbs_SV d
  obtain ⟨q, N, e1, e2, e3, e4, c1, c2, c3, c4⟩ := div_near hd (by omega) (by rw [pow_of 68 295147905179352825856 (by decide)]; omega)
  refine ⟨q, e1, e2, e4, ?_⟩
  have hq : SV q = SVs (sg d) (U (rg q)) := by rw [SV_is, e3]
  have hd' : SV d = SVs (sg d) (U (rg d)) := SV_is d
  rw [hq, hd']
  clear hq hd' ha h1 h2 h3 e1 e2 e3 e4
  generalize U (rg q) = v at *
  generalize U (rg d) = z at *
  generalize uu = u at *
  unfold SVs
  split <;> constructor <;> omega
/-- A day that is 14 after a mean new moon, or 14 before it, and its quotient. -/
theorem day_near {x : Nat} (hx : Fin x) (t s : Int) (hs : s = 3940649673949184 ∨ s = -3940649673949184) (t1 : -32768 * (uu : Int) ≤ t) (t2 : t ≤ 32767 * (uu : Int)) (t3 : (0 ≤ t ∧ s = 3940649673949184) ∨ ((uu : Int) ≤ t ∧ s = -3940649673949184) ∨ (t ≤ -(uu : Int) ∧ s = 3940649673949184) ∨ (t ≤ 0 ∧ s = -3940649673949184))
    (h1 : 2 * SV x ≤ 2 * (205512085597202284544 * (uu : Int) + 8312121811901932 * t + s * (uu : Int)) + 196608 * (uu : Int)) (h2 : 2 * (205512085597202284544 * (uu : Int) + 8312121811901932 * t + s * (uu : Int)) ≤ 2 * SV x + 196608 * (uu : Int)) :
    regB x = true ∧ 8312121811901932 * SV (qW x) ≤ 281474976710656 * (8312121811901932 * t + s * (uu : Int) + 131072 * (uu : Int)) + 8312121811901932 * (1536 * (uu : Int)) ∧ 281474976710656 * (8312121811901932 * t + s * (uu : Int) - 131072 * (uu : Int)) ≤ 8312121811901932 * SV (qW x) + 8312121811901932 * (1536 * (uu : Int)) := by
  have hp := uu_posI
  have h69 : uu * 2 ^ 69 = 590295810358705651712 * uu := pow_of 69 _ (by decide)
  obtain ⟨z, z1, z2, z3, z4, z5⟩ := near_sub hx fin_E (by
    rw [SV_wE, h69]
    generalize SV x = v at *
    generalize uu = u at *
    rcases hs with rfl | rfl <;> omega)
  rw [SV_wE] at z4 z5
  have hd : dW x = z := by unfold dW; rw [z1, Option.getD_some]
  have k1 : 2 * SV z ≤ 2 * (8312121811901932 * t + s * (uu : Int)) + 262144 * (uu : Int) := by omega
  have k2 : 2 * (8312121811901932 * t + s * (uu : Int)) ≤ 2 * SV z + 262144 * (uu : Int) := by omega
  clear h1 h2 z4 z5
  obtain ⟨q, q1, q2, q3, q4, q5⟩ := q_near z2 (by
    generalize SV z = v at *
    generalize (uu : Int) = u at *
    rcases t3 with ⟨a, rfl⟩ | ⟨a, rfl⟩ | ⟨a, rfl⟩ | ⟨a, rfl⟩
    · left; omega
    · left; omega
    · right; omega
    · right; omega) (by
    generalize SV z = v at *
    generalize (uu : Int) = u at *
    rcases hs with rfl | rfl <;> omega) (by
    generalize SV z = v at *
    generalize (uu : Int) = u at *
    rcases hs with rfl | rfl <;> omega)
  have hq : qW x = q := by unfold qW; rw [hd, q1, Option.getD_some]
  rw [hq]
  refine ⟨regB_iff.2 ⟨hx, by rw [hq]; exact q2⟩, ?_, ?_⟩
  · generalize SV z = v at *
    generalize SV q = r at *
    generalize (uu : Int) = u at *
    omega
  · generalize SV z = v at *
    generalize SV q = r at *
    generalize (uu : Int) = u at *
    omega
/-- Not far: below 2^53 lunations. -/
theorem big_not {x : Nat} (h1 : SV x < 9007199254740992 * (ONE : Int)) (h2 : -(9007199254740992 * (ONE : Int)) < SV x) : big x = false := by
  have ha := natAbs_SV x
  cases h : big x
  · rfl
  · have := of_decide_eq_true h; omega
theorem lun_is {x : Nat} {k : Int} (hr : regB x = true) (hb : big (qW x) = false) (hk : fl (qW x) = k) : luB x = true ∧ luN x = k := by
  have e : luB x = true := by unfold luB; rw [hr, hb]; rfl
  exact ⟨e, by unfold luN; rw [e, if_pos rfl, hk]⟩
abbrev w4 : Nat := 4600877379321698714
theorem fin_4 : Fin w4 := by unfold Fin; decide
theorem U_716 : U 4601552919265804288 = 123145302310912 * uu := by
  have h := U_uu_lo (e := 1020) (j := 6) (q := 3377699720527872) rfl (by decide)
  rw [show (1020 + 1) * 4503599627370496 + 3377699720527872 = 4601552919265804288 by decide, show (2 : Nat) ^ 6 = 64 by decide] at h
  generalize U 4601552919265804288 = v at h ⊢
  generalize uu = u at h ⊢
  omega
theorem U_3164 : U 4602397344195936256 = 136339441844224 * uu := by
  have h := U_uu_lo (e := 1020) (j := 6) (q := 4222124650659840) rfl (by decide)
  rw [show (1020 + 1) * 4503599627370496 + 4222124650659840 = 4602397344195936256 by decide, show (2 : Nat) ^ 6 = 64 by decide] at h
  generalize U 4602397344195936256 = v at h ⊢
  generalize uu = u at h ⊢
  omega
theorem ph_near {q : Nat} (h1 : 123145302310912 * uu ≤ fr q) (h2 : fr q ≤ 136339441844224 * uu) : ph q = rn (fr q) 0 ∧ FloatKind.f64.format.order (ph q) w4 = some .gt ∧ FloatKind.f64.format.order (ph q) 4602678819172646912 = some .lt := by
  have a : 4601552919265804288 ≤ rn (fr q) 0 := rn_from (by rw [U_716]; exact h1)
  have b : rn (fr q) 0 ≤ 4602397344195936256 := rn_upto (by rw [U_3164]; exact h2)
  have e : ph q = rn (fr q) 0 := by unfold ph; rw [if_neg (by omega)]
  have f : Fin (rn (fr q) 0) := by unfold Fin; rw [rg_small (by omega)]; omega
  have v : SV (rn (fr q) 0) = (U (rn (fr q) 0) : Int) := SV_small (by omega)
  refine ⟨e, ?_, ?_⟩
  · rw [e]; exact ord_gt f fin_4 (by rw [v, SV_small (w := w4) (by decide)]; exact Int.ofNat_lt.2 (U_lt (show w4 < _ by show 4600877379321698714 < _; omega)))
  · rw [e]; exact ord_lt f fin_half (by rw [v, SV_small (w := 4602678819172646912) (by decide)]; exact Int.ofNat_lt.2 (U_lt (by omega)))
/-- The three days of the law. -/
theorem moons {k : Int} (h1 : -32768 ≤ k) (h2 : k ≤ 32767) : ∃ x1 x2 p : Nat, x1 < 18446744073709551616 ∧ x2 < 18446744073709551616 ∧ Ieee.double.add (nmW k) w14 = some x1 ∧ Ieee.double.sub (nmW k) w14 = some x2 ∧ luN x1 = k ∧ luB x1 = true ∧ luN x2 = k - 1 ∧ luB x2 = true ∧ phR x1 = p ∧
    FloatKind.f64.format.order p w4 = some .gt ∧ FloatKind.f64.format.order p 4602678819172646912 = some .lt := by
  have hp := uu_posI
  obtain ⟨p1, p2, p3⟩ := near_p h1 h2
  obtain ⟨t, ht⟩ : ∃ t, k * (uu : Int) = t := ⟨_, rfl⟩
  rw [ht] at p2 p3
  have t1 : -32768 * (uu : Int) ≤ t := by rw [← ht]; exact Int.mul_le_mul_of_nonneg_right h1 (Int.le_of_lt hp)
  have t2 : t ≤ 32767 * (uu : Int) := by rw [← ht]; exact Int.mul_le_mul_of_nonneg_right h2 (Int.le_of_lt hp)
  have tA : 0 ≤ k → 0 ≤ t := fun h => by rw [← ht]; exact Int.mul_nonneg h (Int.le_of_lt hp)
  have tB : k ≤ -1 → t ≤ -(uu : Int) := fun h => by
    have := Int.mul_le_mul_of_nonneg_right h (Int.le_of_lt hp); rw [ht] at this; omega
  have tC : 1 ≤ k → (uu : Int) ≤ t := fun h => by
    have := Int.mul_le_mul_of_nonneg_right h (Int.le_of_lt hp); rw [ht] at this; omega
  have tD : k ≤ 0 → t ≤ 0 := fun h => by
    have := Int.mul_le_mul_of_nonneg_right h (Int.le_of_lt hp); rw [ht] at this; omega
  have h69 : uu * 2 ^ 69 = 590295810358705651712 * uu := pow_of 69 _ (by decide)
  obtain ⟨x0, a1, a2, a3, a4, a5⟩ := near_add fin_E p1 (by
    rw [SV_wE, h69]
    generalize SV (pW k) = v at *
    generalize uu = u at *
    clear ht
    omega)
  rw [SV_wE] at a4 a5
  have hx0 : nmW k = x0 := by unfold nmW; rw [a1, Option.getD_some]
  obtain ⟨x1, b1, b2, b3, b4, b5⟩ := near_add a2 fin_14 (by
    rw [SV_w14, h69]
    generalize SV (pW k) = v at *
    generalize SV x0 = v0 at *
    generalize uu = u at *
    clear ht
    omega)
  obtain ⟨x2, c1, c2, c3, c4, c5⟩ := near_sub a2 fin_14 (by
    rw [SV_w14, h69]
    generalize SV (pW k) = v at *
    generalize SV x0 = v0 at *
    generalize uu = u at *
    clear ht
    omega)
  rw [SV_w14] at b4 b5 c4 c5
  obtain ⟨r1, r2, r3⟩ := day_near b2 t 3940649673949184 (.inl rfl) t1 t2 (by
    rcases Int.lt_or_le k 0 with l | l
    · exact .inr (.inr (.inl ⟨tB (by omega), rfl⟩))
    · exact .inl ⟨tA l, rfl⟩) (by
    generalize SV (pW k) = v at *
    generalize SV x0 = v0 at *
    generalize SV x1 = v1 at *
    generalize (uu : Int) = u at *
    clear ht
    omega) (by
    generalize SV (pW k) = v at *
    generalize SV x0 = v0 at *
    generalize SV x1 = v1 at *
    generalize (uu : Int) = u at *
    clear ht
    omega)
  obtain ⟨s1, s2, s3⟩ := day_near c2 t (-3940649673949184) (.inr rfl) t1 t2 (by
    rcases Int.lt_or_le k 1 with l | l
    · exact .inr (.inr (.inr ⟨tD (by omega), rfl⟩))
    · exact .inr (.inl ⟨tC l, rfl⟩)) (by
    generalize SV (pW k) = v at *
    generalize SV x0 = v0 at *
    generalize SV x2 = v1 at *
    generalize (uu : Int) = u at *
    clear ht
    omega) (by
    generalize SV (pW k) = v at *
    generalize SV x0 = v0 at *
    generalize SV x2 = v1 at *
    generalize (uu : Int) = u at *
    clear ht
    omega)
  clear p1 p2 p3 a1 a2 a3 a4 a5 b2 b4 b5 c2 c4 c5
  have hO := ONE_uuI
  have kO : k * (ONE : Int) = 281474976710656 * t := by rw [hO, Int.mul_left_comm, ht]
  -- the quotients
  have q1 : 281474976710656 * t + 123145302310912 * (uu : Int) ≤ SV (qW x1) := by
    generalize SV (qW x1) = v at *
    generalize (uu : Int) = u at *
    clear ht s1 s2 s3 kO
    omega
  have q2 : SV (qW x1) ≤ 281474976710656 * t + 136339441844224 * (uu : Int) := by
    generalize SV (qW x1) = v at *
    generalize (uu : Int) = u at *
    clear ht s1 s2 s3 kO
    omega
  have q3 : 281474976710656 * t - 281474976710656 * (uu : Int) < SV (qW x2) := by
    generalize SV (qW x2) = v at *
    generalize (uu : Int) = u at *
    clear ht r1 r2 r3 q1 q2 kO
    omega
  have q4 : SV (qW x2) < 281474976710656 * t := by
    generalize SV (qW x2) = v at *
    generalize (uu : Int) = u at *
    clear ht r1 r2 r3 q1 q2 kO
    omega
  clear r2 r3 s2 s3
  obtain ⟨n1, hn1⟩ : ∃ n : Nat, SV (qW x1) - 281474976710656 * t = n := ⟨(SV (qW x1) - 281474976710656 * t).toNat, by omega⟩
  obtain ⟨n2, hn2⟩ : ∃ n : Nat, SV (qW x2) - (281474976710656 * t - 281474976710656 * (uu : Int)) = n := ⟨(SV (qW x2) - (281474976710656 * t - 281474976710656 * (uu : Int))).toNat, by omega⟩
  have hON := ONE_uu
  obtain ⟨f1, g1⟩ := fl_of (x := qW x1) (n := k) (t := n1) (by rw [kO]; omega) (by omega)
  obtain ⟨f2, _⟩ := fl_of (x := qW x2) (n := k - 1) (t := n2) (by rw [Int.sub_mul, Int.one_mul, kO, hO]; omega) (by omega)
  obtain ⟨l1, l2⟩ := lun_is r1 (big_not (by rw [hO]; omega) (by rw [hO]; omega)) f1
  obtain ⟨l3, l4⟩ := lun_is s1 (big_not (by rw [hO]; omega) (by rw [hO]; omega)) f2
  obtain ⟨_, o1, o2⟩ := ph_near (q := qW x1) (by rw [g1]; omega) (by rw [g1]; omega)
  exact ⟨x1, x2, _, b3, c3, by rw [hx0]; exact b1, by rw [hx0]; exact c1, l2, l1, l4, l3, by unfold phR; rw [r1, if_pos rfl], o1, o2⟩
end Go.Proofs.Ytiidmnmedkekjaa

namespace Go.Proofs.Ytiidmnmedkekjaa
open Go.RowKit

set_option maxRecDepth 100000 in
set_option maxHeartbeats 1000000 in
theorem l15lun0 (x0 x1 x2 p : Nat) (k : Int)
    (HA : ∀ w, Calls Try.prog 9 #[] w fun e w' => e = .returned (.bool true) ∧ Below w.heap.size w w')
    (h1 : -32768 ≤ k) (h2 : k ≤ 32767) (H1 : ∀ w, Calls Try.prog 20 #[.int .i64 k] w fun e w' => e = .returned (.float .f64 x0) ∧ Below w.heap.size w w')
    (hA : ∀ w, (binOp .add 24 (.float .f64 x0) (.float .f64 w14)).run Try.prog w = .ok (.float .f64 x1) w) (hS : ∀ w, (binOp .sub 24 (.float .f64 x0) (.float .f64 w14)).run Try.prog w = .ok (.float .f64 x2) w)
    (H2 : ∀ w, Calls Try.prog 11 #[.float .f64 x1] w fun e w' => e = .returned (ibv k true) ∧ Below w.heap.size w w') (H3 : ∀ w, Calls Try.prog 16 #[.float .f64 x1] w fun e w' => e = .returned (.float .f64 p) ∧ Below w.heap.size w w') (H4 : ∀ w, Calls Try.prog 11 #[.float .f64 x2] w fun e w' => e = .returned (ibv (k - 1) true) ∧ Below w.heap.size w w')
    (o1 : FloatKind.f64.format.order p w4 = some .gt) (o2 : FloatKind.f64.format.order p 4602678819172646912 = some .lt) (W : World) :
    Calls Try.prog 7 #[.int .i16 k] W fun e w' => e = .returned (.bool true) ∧ Below W.heap.size W w' := by
  have S0 := Lib.hid (Below.refl W.heap.size W)
  go_enter Try.func7, Try.ntmps7
  go_wp2_with fail
  refine (HA _).mono ?_
  rintro e w1 ⟨rfl, hb1⟩
  have S1 := Lib.hid (below_on S0.out hb1)
  clear hb1
  go_wp2_with fail
  refine (H1 _).mono ?_
  rintro e w2 ⟨rfl, hb2⟩
  have S2 := Lib.hid (below_on S1.out hb2)
  clear hb2
  go_wp2_with fail
  refine (H2 _).mono ?_
  rintro e w3 ⟨rfl, hb3⟩
  have S3 := Lib.hid (below_on S2.out hb3)
  clear hb3
  go_wp2_with fail
  refine (H3 _).mono ?_
  rintro e w4 ⟨rfl, hb4⟩
  have S4 := Lib.hid (below_on S3.out hb4)
  clear hb4
  go_wp2_with fail
  refine (H4 _).mono ?_
  rintro e w5 ⟨rfl, hb5⟩
  have S5 := Lib.hid (below_on S4.out hb5)
  clear hb5
  go_wp2_with fail
  go_ret
  exact ⟨rfl, S5.out⟩
theorem l15lun (M : MP) (k : Int) (h1 : -32768 ≤ k) (h2 : k ≤ 32767) (W : World) :
    Calls Try.prog 7 #[.int .i16 k] W fun e w' => e = .returned (.bool true) ∧ Below W.heap.size W w' := by
  obtain ⟨x1, x2, p, a1, a2, b1, b2, c1, c2, c3, c4, c5, o1, o2⟩ := moons h1 h2
  have H2 := M.lu x1 a1
  rw [c1, c2] at H2
  have H3 := M.ph x1 a1
  rw [c5] at H3
  have H4 := M.lu x2 a2
  rw [c3, c4] at H4
  exact l15lun0 _ x1 x2 p k (c15awake_any M) h1 h2 (M.nm k (by omega)) (fun w => run_fadd (P := Try.prog) 24 b1 w) (fun w => run_fsub (P := Try.prog) 24 b2 w) H2 H3 H4 o1 o2 W
end Go.Proofs.Ytiidmnmedkekjaa

namespace Go.Proofs.Ytiidmnmedkekjaa
open Go.RowKit

theorem cut_down (neg : Bool) (n drop : Nat) : Ieee.Toward.down.cut neg n drop = n / 2 ^ drop + (neg && n % 2 ^ drop != 0).toNat := by
  unfold Ieee.Toward.cut
  simp only [Nat.shiftLeft_eq, Nat.one_mul]
  rcases Nat.lt_or_ge drop (n.log2 + 2) with h | h
  · rw [Nat.min_eq_left (Nat.le_of_lt h)]
  · rw [Nat.min_eq_right h]
    have hn : n < 2 ^ (n.log2 + 1) := Nat.lt_log2_self
    have p : (2 : Nat) ^ (n.log2 + 1) ≤ 2 ^ drop := Nat.pow_le_pow_right (by decide) (by omega)
    have q : (2 : Nat) ^ (n.log2 + 1) ≤ 2 ^ (n.log2 + 2) := Nat.pow_le_pow_right (by decide) (by omega)
    rw [Nat.div_eq_of_lt (by omega), Nat.div_eq_of_lt (by omega), Nat.mod_eq_of_lt (by omega), Nat.mod_eq_of_lt (by omega)]
/-- The whole part of a finite word's number, cut by a rule that looks at the quotient and the rest alone. -/
theorem integral_is {x : Nat} (hx : Fin x) (way : Ieee.Toward) (c : Nat → Nat → Nat) (h1 : ∀ n drop, way.cut (sg x) n drop = c n (2 ^ drop)) (h2 : ∀ n g k, 0 < k → c (n * k) (g * k) = c n g) :
    (Ieee.double.read x).integral way = .number (sg x) (c (U (rg x)) ONE) 0 := by
  obtain ⟨m, e, r1, u1⟩ := read_fin hx
  rw [r1, u1]
  unfold Ieee.Datum.integral
  dsimp only
  rw [h1, Nat.shiftLeft_eq]
  refine congrArg (fun z => Ieee.Datum.number (sg x) z 0) ?_
  have hE := E0_eq
  rcases Nat.lt_or_ge e E0 with h | h
  · rw [show (-1074 + (e : Int)).toNat = 0 by omega, show (-(-1074 + (e : Int))).toNat = E0 - e by omega, Nat.pow_zero, Nat.mul_one]
    rw [ONE_split (Nat.le_of_lt h), h2 _ _ _ (two_pow_pos e)]
  · rw [show (-1074 + (e : Int)).toNat = e - E0 by omega, show (-(-1074 + (e : Int))).toNat = 0 by omega, Nat.pow_zero]
    rw [ONE_up h, ← Nat.mul_assoc]
    have := h2 (m * 2 ^ (e - E0)) 1 ONE ONE_pos
    rw [Nat.one_mul] at this
    exact this.symm
theorem write_int (s : Bool) (n : Nat) : Ieee.double.write (.number s n 0) = wd s (min (rn (n * ONE) 0) 9218868437227405312) := by
  show Ieee.double.nearest _ _ _ = _
  rw [nearest_is, show ((0 : Int) + 1074).toNat = E0 from rfl, show (-1074 - (0 : Int)).toNat = 0 by omega]
  rfl
/-- A word of a whole number: its number, that it is finite, what int() gives. -/
theorem whole_wd {s : Bool} {n : Nat} (h : n ≤ 9007199254740992 ∨ ∃ r, r < 9218868437227405312 ∧ n * ONE = U r) : Fin (wd s (min (rn (n * ONE) 0) 9218868437227405312)) ∧ SV (wd s (min (rn (n * ONE) 0) 9218868437227405312)) = SVs s n * (ONE : Int) ∧ tr (wd s (min (rn (n * ONE) 0) 9218868437227405312)) = SVs s n ∧ wd s (min (rn (n * ONE) 0) 9218868437227405312) < 18446744073709551616 := by
  obtain ⟨r, hr, hU⟩ : ∃ r, r < 9218868437227405312 ∧ n * ONE = U r := by
    rcases h with h | h
    · have e := rn_int h
      have hb : rn (n * ONE) 0 ≤ 4845873199050653696 := rn_upto (by rw [U_p53]; exact Nat.mul_le_mul_right _ h)
      exact ⟨_, by omega, e.symm⟩
    · exact h
  rw [hU, rn_of_U, Nat.min_eq_left (Nat.le_of_lt hr)]
  refine ⟨Fin_wd hr, ?_, ?_, by unfold wd; split <;> omega⟩
  · rw [SV_wd (by omega), ← hU]
    unfold SVs; split
    · rw [Int.natCast_mul, Int.neg_mul]
    · rw [Int.natCast_mul]
  · unfold tr
    rw [sg_wd _ (by omega), rg_wd _ (by omega), ← hU, Nat.mul_div_cancel _ ONE_pos]
/-- Sign and magnitude: floor and nearest integer. -/
def dnC (x : Nat) : Nat := U (rg x) / ONE + (sg x && U (rg x) % ONE != 0).toNat
def evC (x : Nat) : Nat := rne (U (rg x)) ONE
theorem parts_fl (x : Nat) : (sg x = false ∧ fl x = ((U (rg x) / ONE : Nat) : Int) ∧ fr x = U (rg x) % ONE) ∨ (sg x = true ∧ U (rg x) % ONE = 0 ∧ fl x = -((U (rg x) / ONE : Nat) : Int) ∧ fr x = 0) ∨ (sg x = true ∧ U (rg x) % ONE ≠ 0 ∧ fl x = -((U (rg x) / ONE : Nat) : Int) - 1 ∧ fr x = ONE - U (rg x) % ONE) := by
  have hm := Nat.div_add_mod (U (rg x)) ONE
  have hl := Nat.mod_lt (U (rg x)) ONE_pos
  have hx : SV x = SVs (sg x) (U (rg x)) := SV_is x
  generalize U (rg x) / ONE = q at *
  generalize U (rg x) % ONE = r at *
  rw [← hm] at hx
  unfold SVs at hx
  have hc : ((ONE * q + r : Nat) : Int) = (q : Int) * (ONE : Int) + (r : Int) := by rw [Int.natCast_add, Int.natCast_mul, Int.mul_comm]
  rw [hc] at hx
  cases hs : sg x
  · rw [hs, if_neg (by decide)] at hx
    left
    obtain ⟨a, b⟩ := fl_of hx hl
    exact ⟨rfl, a, b⟩
  · rw [hs, if_pos rfl] at hx
    right
    rcases Nat.eq_zero_or_pos r with h0 | hp
    · left
      have e : SV x = -(q : Int) * (ONE : Int) + ((0 : Nat) : Int) := by rw [hx, h0, Int.neg_mul]; omega
      obtain ⟨a, b⟩ := fl_of e ONE_pos
      exact ⟨rfl, h0, a, b⟩
    · right
      have e : SV x = (-(q : Int) - 1) * (ONE : Int) + ((ONE - r : Nat) : Int) := by
        rw [hx, Int.sub_mul, Int.neg_mul, Int.one_mul, Int.ofNat_sub (Nat.le_of_lt hl)]; omega
      obtain ⟨a, b⟩ := fl_of e (by omega)
      exact ⟨rfl, by omega, a, b⟩
theorem dnC_fl (x : Nat) : SVs (sg x) (dnC x) = fl x := by
  unfold dnC SVs
  rcases parts_fl x with ⟨s, a, _⟩ | ⟨s, z, a, _⟩ | ⟨s, z, a, _⟩ <;> rw [s, a]
  · rw [if_neg (by decide), Bool.false_and]; simp
  · rw [if_pos rfl, z]; simp
  · rw [if_pos rfl, show (U (rg x) % ONE != 0) = true by rw [bne_iff_ne]; exact z]
    simp; omega
theorem evC_RD (x : Nat) : SVs (sg x) (evC x) = RD x := by
  have hl := Nat.mod_lt (U (rg x)) ONE_pos
  unfold evC SVs
  rcases parts_fl x with ⟨s, a, b⟩ | ⟨s, z, a, b⟩ | ⟨s, z, a, b⟩ <;> unfold RD <;> rw [s, a, b]
  · rw [if_neg (by decide)]
    generalize hq : U (rg x) / ONE = q at *
    generalize hr : U (rg x) % ONE = r at *
    rcases rne_cases (U (rg x)) ONE with ⟨c, e⟩ | ⟨c, e⟩ | ⟨c, d, e⟩ | ⟨c, d, e⟩ <;> rw [e] <;> rw [hr] at c <;> (try rw [hq] at d) <;> rw [hq]
    · rw [if_pos c]
    · rw [if_neg (by omega), if_pos c]; omega
    · rw [if_neg (by omega), if_neg (by omega), if_neg (by omega)]; omega
    · rw [if_neg (by omega), if_neg (by omega), if_pos (by omega)]
  · rw [if_pos rfl]
    generalize hq : U (rg x) / ONE = q at *
    have hp := ONE_pos
    rcases rne_cases (U (rg x)) ONE with ⟨c, e⟩ | ⟨c, e⟩ | ⟨c, d, e⟩ | ⟨c, d, e⟩ <;> rw [e] <;> rw [z] at c
    · rw [if_pos (by omega), hq]
    · omega
    · omega
    · omega
  · rw [if_pos rfl]
    generalize hq : U (rg x) / ONE = q at *
    generalize hr : U (rg x) % ONE = r at *
    rcases rne_cases (U (rg x)) ONE with ⟨c, e⟩ | ⟨c, e⟩ | ⟨c, d, e⟩ | ⟨c, d, e⟩ <;> rw [e] <;> rw [hr] at c <;> (try rw [hq] at d) <;> rw [hq]
    · rw [if_neg (by omega), if_pos (by omega)]; omega
    · rw [if_pos (by omega)]; omega
    · rw [if_neg (by omega), if_neg (by omega), if_pos (by omega)]; omega
    · rw [if_neg (by omega), if_neg (by omega), if_neg (by omega)]; omega
/-- The words of the floor and of the nearest integer, with the number's sign. -/
def dnW (x : Nat) : Nat := wd (sg x) (min (rn (dnC x * ONE) 0) 9218868437227405312)
def evW (x : Nat) : Nat := wd (sg x) (min (rn (evC x * ONE) 0) 9218868437227405312)
theorem SVs_abs (s : Bool) (n : Nat) : (SVs s n).natAbs = n := by unfold SVs; split <;> omega
theorem small_C {x : Nat} (hx : Fin x) : (dnC x ≤ 9007199254740992 ∨ ∃ r, r < 9218868437227405312 ∧ dnC x * ONE = U r) ∧ (evC x ≤ 9007199254740992 ∨ ∃ r, r < 9218868437227405312 ∧ evC x * ONE = U r) := by
  have h1 := dnC_fl x
  have h2 := evC_RD x
  have a1 := SVs_abs (sg x) (dnC x)
  have a2 := SVs_abs (sg x) (evC x)
  rw [h1] at a1
  rw [h2] at a2
  cases h : big x
  · have hb := fl_bd (big_no h)
    constructor
    · left; omega
    · left; rcases RD_cases x with ⟨_, e⟩ | ⟨_, _, e⟩ | ⟨_, _, e⟩ | ⟨_, e⟩ <;> omega
  · have hb := fr_big (of_decide_eq_true h)
    have e : RD x = fl x := by unfold RD; rw [hb.1, if_pos (by have := ONE_pos; omega)]
    have hU : (fl x).natAbs * ONE = U (rg x) := by
      have h3 := natAbs_SV x
      rw [← h3, ← hb.2, Int.natAbs_mul, Int.natAbs_natCast]
    rw [e] at a2
    exact ⟨.inr ⟨rg x, hx, by rw [← a1]; exact hU⟩, .inr ⟨rg x, hx, by rw [← a2]; exact hU⟩⟩
theorem dn_is {x : Nat} (hx : Fin x) : Ieee.double.write ((Ieee.double.read x).integral .down) = dnW x ∧ Fin (dnW x) ∧ SV (dnW x) = fl x * (ONE : Int) ∧ tr (dnW x) = fl x ∧ dnW x < 18446744073709551616 := by
  have e := integral_is hx .down (fun n g => n / g + (sg x && n % g != 0).toNat) (fun n drop => cut_down (sg x) n drop) (fun n g k hk => by
    have z : (n % g * k != 0) = (n % g != 0) := by
      rw [bne, bne, Bool.not_inj_iff, Bool.eq_iff_iff, beq_iff_eq, beq_iff_eq, Nat.mul_eq_zero]
      exact ⟨fun h => h.resolve_right (by omega), fun h => .inl h⟩
    rw [Nat.mul_div_mul_right n g hk, Nat.mul_mod_mul_right k n g, z])
  obtain ⟨a, b, c, d⟩ := whole_wd (s := sg x) (small_C hx).1
  rw [dnC_fl] at b c
  refine ⟨?_, a, b, c, d⟩
  rw [e, write_int]; rfl
theorem ev_is {x : Nat} (hx : Fin x) : Ieee.double.write ((Ieee.double.read x).integral .even) = evW x ∧ Fin (evW x) ∧ SV (evW x) = RD x * (ONE : Int) ∧ tr (evW x) = RD x ∧ evW x < 18446744073709551616 := by
  have e := integral_is hx .even rne (fun n drop => cut_even (sg x) n drop) (fun n g k hk => rne_scale n g hk)
  obtain ⟨a, b, c, d⟩ := whole_wd (s := sg x) (small_C hx).2
  rw [evC_RD] at b c
  refine ⟨?_, a, b, c, d⟩
  rw [e, write_int]; rfl
/-- The difference of a quotient and its floor, whatever the sign of a floor that is nought: a word of the same number. -/
theorem sub_dn {q f : Nat} (hq : Fin q) (hf : Fin f) (h1 : SV f = fl q * (ONE : Int)) : ∃ s, Ieee.double.sub q f = some (wd s (rn (fr q) 0)) ∧ Fin (wd s (rn (fr q) 0)) ∧ SV (wd s (rn (fr q) 0)) = (U (rn (fr q) 0) : Int) ∧ (0 < rn (fr q) 0 → s = false) := by
  have h3 := SV_fl q
  have h4 := rn_fr q
  have e : SV q - SV f = (fr q : Int) := by rw [h1]; omega
  have hp : 0 < rn (fr q) 0 → 0 < fr q := fun h => by
    rcases Nat.eq_zero_or_pos (fr q) with z | p
    · rw [z, rn_zero] at h; omega
    · exact p
  refine ⟨sumS (fr q : Int) (sg q) (!sg f), ?_, Fin_wd (by omega), ?_, fun h => ?_⟩
  · rw [sub_is hq hf, e, Int.natAbs_natCast, Nat.min_eq_left (by omega)]
  · rw [SV_wd (by omega)]
    rcases Nat.eq_zero_or_pos (fr q) with z | p
    · rw [z, rn_zero]; unfold SVs; split <;> rfl
    · have : sumS (fr q : Int) (sg q) (!sg f) = false := by
        unfold sumS; rw [if_neg (by omega)]; exact decide_eq_false (by omega)
      rw [this]; rfl
  · have := hp h
    unfold sumS; rw [if_neg (by omega)]; exact decide_eq_false (by omega)
theorem ord_nan {x y : Nat} (h : 9218868437227405312 < rg x) : FloatKind.f64.format.order x y = none := by
  show (Ieee.double.read x).order (Ieee.double.read y) = none
  rw [read_nan h]; cases Ieee.double.read y <;> rfl
theorem ord_inf {x y : Nat} (h : rg x = 9218868437227405312) (hy : Fin y) : FloatKind.f64.format.order x y = some (if sg x = true then .lt else .gt) := by
  show (Ieee.double.read x).order (Ieee.double.read y) = _
  obtain ⟨m, e, r, _⟩ := read_fin hy
  rw [read_inf h, r]; rfl
theorem ord_self {x : Nat} (h : rg x ≤ 9218868437227405312) : FloatKind.f64.format.order x x = some .eq := by
  rcases Nat.lt_or_ge (rg x) 9218868437227405312 with l | l
  · exact ord_eq l l rfl
  · show (Ieee.double.read x).order (Ieee.double.read x) = _
    rw [read_inf (by omega)]
    unfold Ieee.Datum.order
    dsimp only
    cases sg x <;> decide

/-- The entry of Floor and its like, at a number. -/
theorem entry_num (name : String) (way : Ieee.Toward) (x : Nat) {s : Bool} {m : Nat} {i : Int} (h : FloatKind.f64.decode x = .number s m i) : Extern.MathFloor.toIntegral name way #[.float .f64 x] = pure (.float .f64 (FloatKind.f64.encode ((Ieee.Datum.number s m i).integral way))) := by
  unfold Extern.MathFloor.toIntegral
  conv => lhs; whnf
  rw [h]
theorem andNot_is {x : Nat} (hx : x < 18446744073709551616) : bits .andNot .u64 (x : Int) 9223372036854775808 = (rg x : Int) := by
  have e : bits .andNot .u64 (x : Int) ((9223372036854775808 : Nat) : Int) = ((x &&& (18446744073709551615 - 9223372036854775808) : Nat) : Int) := u64_andNot_nat x 9223372036854775808 hx (by decide)
  have e2 : x &&& (18446744073709551615 - 9223372036854775808) = rg x := by
    rw [show (18446744073709551615 - 9223372036854775808 : Nat) = 2 ^ 63 - 1 by decide, Nat.and_two_pow_sub_one_eq_mod]; rfl
  rw [e2] at e; exact e
section
variable (x : Nat) (w : World)
theorem mIsNaN : Calls Try.prog 27 #[.float .f64 x] w fun e w' => e = .returned (.bool (decide (9218868437227405312 < rg x))) ∧ w = w' := by
  rcases Nat.lt_or_ge 9218868437227405312 (rg x) with l | l
  · rw [decide_eq_true l]
    have ho := ord_nan (y := x) l
    clear l
    go_enter Try.func27, Try.ntmps27
    go_wp2
    go_ret
    exact ⟨rfl, rfl⟩
  · rw [decide_eq_false (by omega)]
    have ho := ord_self l
    clear l
    go_enter Try.func27, Try.ntmps27
    go_wp2
    go_ret
    exact ⟨rfl, rfl⟩
theorem mAbs (hx : x < 18446744073709551616) : Calls Try.prog 35 #[.float .f64 x] w fun e w' => e = .returned (.float .f64 (rg x)) ∧ w = w' := by
  have hB := f64bits x
  have hF := f64from (rg x)
  have hA := andNot_is hx
  clear hx
  generalize rg x = r at *
  go_enter Try.func35, Try.ntmps35
  go_wp2
  go_ret
  exact ⟨rfl, rfl⟩
theorem archFloor_run (hx : Fin x) : (callFunc 51 #[.float .f64 x]).run Try.prog w = .ok (.value (.float .f64 (dnW x))) w := by
  rw [run_callFunc_extern (e := Extern.MathFloor.toIntegral "math.archFloor" .down) Try.func51 (by kernel_rfl) (by kernel_rfl) (by kernel_rfl) (by kernel_rfl)]
  obtain ⟨m, e, r, _⟩ := read_fin hx
  have hd := (dn_is hx).1
  rw [r] at hd
  have hr : FloatKind.f64.decode x = .number (sg x) m (-1074 + (e : Int)) := r
  have he : FloatKind.f64.encode ((Ieee.Datum.number (sg x) m (-1074 + (e : Int))).integral .down) = dnW x := hd
  rw [entry_num _ _ _ hr, he]; rfl
theorem roundEven_run (hx : Fin x) : (callFunc 38 #[.float .f64 x]).run Try.prog w = .ok (.value (.float .f64 (evW x))) w := by
  rw [run_callFunc_extern (e := Extern.MathFloor.toIntegral "math.RoundToEven" .even) Try.func38 (by kernel_rfl) (by kernel_rfl) (by kernel_rfl) (by kernel_rfl)]
  obtain ⟨m, e, r, _⟩ := read_fin hx
  have hd := (ev_is hx).1
  rw [r] at hd
  have hr : FloatKind.f64.decode x = .number (sg x) m (-1074 + (e : Int)) := r
  have he : FloatKind.f64.encode ((Ieee.Datum.number (sg x) m (-1074 + (e : Int))).integral .even) = evW x := hd
  rw [entry_num _ _ _ hr, he]; rfl
theorem mFloor (hx : Fin x) : Calls Try.prog 36 #[.float .f64 x] w fun e w' => e = .returned (.float .f64 (dnW x)) ∧ w = w' := by
  have hA := fun w => archFloor_run x w hx
  clear hx
  go_enter Try.func36, Try.ntmps36
  go_wp2
  go_ret
  exact ⟨rfl, rfl⟩
end

/-- An invalid operation hands back a NaN, whichever. -/
theorem run_invalid {P : Program} (op : BinOp) (t : Nat) (x y : Nat) (ho : op = .add ∨ op = .sub ∨ op = .mul ∨ op = .quo) (h : floatBits op .f64 x y = none) :
    ∃ nb : World → Nat, (∀ w, 9218868437227405312 < rg (nb w) ∧ nb w < 18446744073709551616) ∧ ∀ w, (binOp op t (.float .f64 x) (.float .f64 y)).run P w = .ok (.float .f64 (nb w)) w.drew := by
  refine ⟨fun w => Question.cut (.nanBits .f64 x y) (w.tape w.drawn (.nanBits .f64 x y)), fun w => ?_, fun w => ?_⟩
  · show 9218868437227405312 < rg (Question.cut (.nanBits .f64 x y) (w.tape w.drawn (.nanBits .f64 x y))) ∧ Question.cut (.nanBits .f64 x y) (w.tape w.drawn (.nanBits .f64 x y)) < 18446744073709551616
    generalize w.tape w.drawn (.nanBits .f64 x y) = t
    have e : Question.cut (.nanBits .f64 x y) t = t % 2 * 9223372036854775808 + 9218868437227405312 + 1 + t / 2 % 4503599627370495 := rfl
    rw [e]
    unfold rg
    have ha : t % 2 < 2 := Nat.mod_lt _ (by decide)
    have hc : t / 2 % 4503599627370495 < 4503599627370495 := Nat.mod_lt _ (by decide)
    generalize t % 2 = a at *
    generalize t / 2 % 4503599627370495 = c at *
    have h01 : a = 0 ∨ a = 1 := by omega
    rcases h01 with rfl | rfl <;> omega
  · unfold floatBits at h
    rcases ho with rfl | rfl | rfl | rfl
    all_goals
      dsimp only at h
      simp [binOp, Op.floatArith, h, Question.forced]
theorem sub_nan {x y : Nat} (h : 9218868437227405312 < rg x) : Ieee.double.sub x y = none := by
  unfold Ieee.Format.sub; rw [read_nan h]; cases Ieee.double.read y <;> rfl
theorem sub_infE {x : Nat} (h : rg x = 9218868437227405312) : Ieee.double.sub x wE = some (wd (sg x) 9218868437227405312) := by
  obtain ⟨m, e, r, _⟩ := read_fin fin_E
  unfold Ieee.Format.sub; rw [read_inf h, r]; rfl
theorem div_nanS {x : Nat} (h : 9218868437227405312 < rg x) : Ieee.double.div x wS = none := by
  unfold Ieee.Format.div; rw [read_nan h, read_S]; rfl
theorem div_infS {x : Nat} (h : rg x = 9218868437227405312) : Ieee.double.div x wS = some (wd (sg x) 9218868437227405312) := by
  unfold Ieee.Format.div; rw [read_inf h, read_S]
  unfold Ieee.Datum.quotient
  dsimp only [Option.map_some, Ieee.Format.write]
  rw [Bool.xor_false, inf_is, wd_is]
end Go.Proofs.Ytiidmnmedkekjaa
