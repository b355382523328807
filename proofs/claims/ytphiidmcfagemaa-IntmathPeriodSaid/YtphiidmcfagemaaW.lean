/- The contract of the law's fixed examples: they hold, and what was in memory is as it was. -/
import Derived.Test.YtphiidmcfagemaaC
import Derived.Test.YtphiidmcfagemaaS
namespace Go.Proofs.Ytphiidmcfagemaa
open Go.RowKit

theorem sum123 (w : World) (o : Nat) (ho : o < w.heap.size) (h0 : w.cell? ⟨o, 0, none⟩ = some (.int .i64 1)) (h1 : w.cell? ⟨o, 1, none⟩ = some (.int .i64 2)) (h2 : w.cell? ⟨o, 2, none⟩ = some (.int .i64 3)) :
    Calls Try.prog 20 #[.slice (some ⟨o, 0, none⟩) 3 3] w fun e w' => e = .returned (.tuple #[.int .i64 6, .bool true]) ∧ Below w.heap.size w w' := by
  have H := sum_row o 0 3 3 [1, 2, 3] w (by decide) (by decide) ho (by decide) (fun j hj => by
    rw [Nat.zero_add]
    match j, hj with
    | 0, _ => exact h0
    | 1, _ => exact h1
    | 2, _ => exact h2)
  exact H

theorem div_at (a b q : Int) (c : Bool) (w : World) (ha : inR a = true) (hq : ifb (spl a b) (a.fdiv b) = q) (hc : spl a b = c) :
    Calls Try.prog 11 #[.int .i64 a, .int .i64 b] w fun e w' => e = .returned (.tuple #[.int .i64 q, .bool c]) ∧ Below w.heap.size w w' := by
  rw [← hq, ← hc]; exact div_any a b w ha
theorem mod_at (a b q : Int) (c : Bool) (w : World) (ha : inR a = true) (hb : inR b = true) (hq : ifb (spl a b) (a.fmod b) = q) (hc : spl a b = c) :
    Calls Try.prog 12 #[.int .i64 a, .int .i64 b] w fun e w' => e = .returned (.tuple #[.int .i64 q, .bool c]) ∧ Below w.heap.size w w' := by
  rw [← hq, ← hc]; exact mod_any a b w ha hb
theorem add_at (a b q : Int) (c : Bool) (w : World) (ha : inR a = true) (hb : inR b = true) (hq : ifb (inR (a + b)) (a + b) = q) (hc : inR (a + b) = c) :
    Calls Try.prog 14 #[.int .i64 a, .int .i64 b] w fun e w' => e = .returned (.tuple #[.int .i64 q, .bool c]) ∧ Below w.heap.size w w' := by
  rw [← hq, ← hc]; exact add_any a b w ha hb
theorem clamp_at (n l h r : Int) (w : World) (hr : clampI n l h = r) :
    Calls Try.prog 22 #[.int .i64 n, .int .i64 l, .int .i64 h] w fun e w' => e = .returned (.int .i64 r) ∧ w = w' := by
  rw [← hr]; exact clamp_any n l h w

theorem awake_any (w : World) : Calls Try.prog 7 #[] w fun e w' => e = .returned (.bool true) ∧ Below w.heap.size w w' := by
  go_enter Try.func7, Try.ntmps7
  go_wp2_with fail
  refine (div_at (-7) 2 (-4) true _ (by decide) (by decide) (by decide)).mono ?_
  rintro e w1 ⟨rfl, hb1⟩
  go_wp2_with fail
  refine (mod_at (-7) 2 1 true _ (by decide) (by decide) (by decide) (by decide)).mono ?_
  rintro e w2 ⟨rfl, hb2⟩
  go_wp2_with fail
  refine (div_at 7 (-2) (-4) true _ (by decide) (by decide) (by decide)).mono ?_
  rintro e w3 ⟨rfl, hb3⟩
  go_wp2_with fail
  refine (mod_at 7 (-2) (-1) true _ (by decide) (by decide) (by decide) (by decide)).mono ?_
  rintro e w4 ⟨rfl, hb4⟩
  go_wp2_with fail
  refine (div_at 1 0 0 false _ (by decide) (by decide) (by decide)).mono ?_
  rintro e w5 ⟨rfl, hb5⟩
  go_wp2_with fail
  refine (add_at 9223372036854775807 1 0 false _ (by decide) (by decide) (by decide) (by decide)).mono ?_
  rintro e w6 ⟨rfl, hb6⟩
  go_wp2_with fail
  refine (sum123 _ w6.heap.size (by simp) (by go_simp) (by go_simp) (by go_simp)).mono ?_
  rintro e w7 ⟨rfl, hb7⟩
  go_wp2_with (go_at_call 22; refine (clamp_at 9 1 5 5 _ (by decide)).mono ?_; rintro e w' ⟨rfl, rfl⟩)
  go_ret
  have h1 := hb1.size; have h2 := hb2.size; have h3 := hb3.size; have h4 := hb4.size; have h5 := hb5.size; have h6 := hb6.size
  exact ⟨rfl, ((((((hb1.trans (hb2.mono h1)).trans (hb3.mono (by omega))).trans (hb4.mono (by omega))).trans (hb5.mono (by omega))).trans (hb6.mono (by omega))).alloc (by omega) _).trans (hb7.mono (by simp; omega))⟩
end Go.Proofs.Ytphiidmcfagemaa
