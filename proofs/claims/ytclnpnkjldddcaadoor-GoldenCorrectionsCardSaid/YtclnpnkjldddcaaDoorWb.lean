/- The contracts of OnOrAfter and OnOrBefore, of package weekday and of its reference: the nearest day with a day of the week in either direction, or 0 and the error. -/
import Derived.Test.YtclnpnkjldddcaaDoorWa
namespace Go.Proofs.YtclnpnkjldddcaaDoor
open Go.RowKit

def aft (n w : Int) : Int := n + (w - n % 7) % 7
def bef (n w : Int) : Int := n - (n % 7 - w) % 7
def wOk (n w : Int) : Bool := inW w && inN n
theorem wErr_ok {n w : Int} (h : wOk n w = true) : wErr n w = 0 := by
  simp only [wOk, Bool.and_eq_true] at h; exact wErr_0 h.1 h.2
theorem wErr_no {n w : Int} (h : wOk n w = false) : ¬ wErr n w = 0 := by
  unfold wOk at h; unfold wErr
  cases h1 : inW w <;> cases h2 : inN n <;> simp_all
theorem wOk_iff {n w : Int} : wOk n w = true ↔ (0 ≤ w ∧ w ≤ 6) ∧ (-1099511627776 ≤ n ∧ n ≤ 1099511627776) := by
  rw [wOk, Bool.and_eq_true, inW_iff, inN_iff]
theorem aft_bd {n w : Int} : n ≤ aft n w ∧ aft n w ≤ n + 6 := by unfold aft; omega
theorem bef_bd {n w : Int} : n - 6 ≤ bef n w ∧ bef n w ≤ n := by unfold bef; omega
theorem aft_mod {n w : Int} (h1 : 0 ≤ w) (h2 : w ≤ 6) : aft n w % 7 = w := by unfold aft; omega
theorem bef_mod {n w : Int} (h1 : 0 ≤ w) (h2 : w ≤ 6) : bef n w % 7 = w := by unfold bef; omega
theorem aft_first {n w k : Int} (h1 : n ≤ k) (h2 : k < aft n w) : ¬ k % 7 = w := by unfold aft at h2; omega
theorem bef_last {n w k : Int} (h1 : k ≤ n) (h2 : bef n w < k) : ¬ k % 7 = w := by unfold bef at h2; omega

/-! the program's -/
theorem aft_yes (n x : Int) (w : World) (h : wOk n x = true) :
    Calls Tryd.prog 46 #[.int .i64 n, .int .i64 x] w fun e w' => e = .returned (.tuple #[.int .i64 (aft n x), .int .i64 0]) ∧ Below w.heap.size w w' := by
  have HC := fun w => check_any n x w
  rw [wErr_ok h] at HC
  obtain ⟨⟨x1, x2⟩, n1, n2⟩ := wOk_iff.1 h
  have HO := fun w => of_any n w (inR_iff.2 (by omega))
  have HU := fun w => until_any (n % 7) x w (by omega) (by omega) (by omega) (by omega)
  have hv := Lib.hid (show n + (x - n % 7) % 7 = aft n x from rfl)
  have r1 : 0 ≤ (x - n % 7) % 7 := by omega
  have r2 : (x - n % 7) % 7 ≤ 6 := by omega
  clear h
  generalize (x - n % 7) % 7 = r at *
  generalize n % 7 = q at *
  go_enter Tryd.func46, Tryd.ntmps46
  go_wp2_with fail
  refine (HC _).mono ?_
  rintro e w' ⟨rfl, rfl⟩
  go_wp2_with fail
  refine (HO _).mono ?_
  rintro e w1 ⟨rfl, hb1⟩
  go_wp2_with fail
  refine (HU _).mono ?_
  rintro e w2 ⟨rfl, hb2⟩
  go_wp2_with fail
  go_ret2
  exact ⟨ret_ii hv.out rfl, hb1.trans (hb2.mono hb1.size)⟩
theorem aft_no (n x E : Int) (w : World) (hE : wErr n x = E) (h : ¬ E = 0) :
    Calls Tryd.prog 46 #[.int .i64 n, .int .i64 x] w fun e w' => e = .returned (.tuple #[.int .i64 0, .int .i64 E]) ∧ Below w.heap.size w w' := by
  have HC := fun w => check_any n x w
  rw [hE] at HC
  clear hE
  go_enter Tryd.func46, Tryd.ntmps46
  go_wp2_with fail
  refine (HC _).mono ?_
  rintro e w' ⟨rfl, rfl⟩
  go_wp2_with fail
  go_ret2
  exact ⟨rfl, Below.refl _ _⟩
theorem aft_any (n x : Int) (w : World) :
    Calls Tryd.prog 46 #[.int .i64 n, .int .i64 x] w fun e w' => e = .returned (.tuple #[.int .i64 (ifb (wOk n x) (aft n x)), .int .i64 (wErr n x)]) ∧ Below w.heap.size w w' := by
  cases h : wOk n x
  · exact aft_no n x _ w rfl (wErr_no h)
  · rw [wErr_ok h]; exact aft_yes n x w h
/-! the reference's -/
end Go.Proofs.YtclnpnkjldddcaaDoor
