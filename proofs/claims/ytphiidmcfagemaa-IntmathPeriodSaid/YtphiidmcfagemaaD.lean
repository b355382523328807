/- The contracts of Add and Sub: called with any two 64-bit integers, each returns the exact result and true where it is in range, else 0 and false; what was in memory is as it was. -/
import Derived.Test.YtphiidmcfagemaaC
namespace Go.Proofs.Ytphiidmcfagemaa
open Go.RowKit
theorem hide {p : Prop} (h : p) : Hid p := h

/-! Add -/
theorem clo28 (n a b : Int) (p q : Addr) (w : World) (hp : w.cell? p = some (.int .i64 a)) (hq : w.cell? q = some (.int .i64 b)) :
    Calls Try.prog 28 #[.int .i64 n, .pointer (some p), .pointer (some q)] w fun e w' => e = .returned (.bool (decide (n < a) == decide (b < 0))) ∧ w = w' := by
  go_enter Try.func28, Try.ntmps28
  go_wp2
  go_ret
  exact ⟨rfl, rfl⟩

theorem chk28 (n a b : Int) (p q : Addr) (w : World) (c : Bool) (hc : (decide (n < a) == decide (b < 0)) = c) (hp : w.cell? p = some (.int .i64 a)) (hq : w.cell? q = some (.int .i64 b)) :
    Calls Try.prog 24 #[.int .i64 n, .func (Fn.func 28) #[] #[.pointer (some p), .pointer (some q)]] w fun e w' => e = .returned (.tuple #[.int .i64 (ifb c n), .bool c]) ∧ w = w' := by
  have H := clo28 n a b p q w hp hq
  rw [hc] at H
  clear hc hp hq
  cases c
  all_goals
    go_enter Try.func24, Try.ntmps24
    go_wp2_with (go_at_call 28; refine H.mono ?_; rintro e w' ⟨rfl, rfl⟩)
    go_ret2
    exact ⟨rfl, rfl⟩

theorem add_any (a b : Int) (w : World) (ha : inR a = true) (hb : inR b = true) :
    Calls Try.prog 14 #[.int .i64 a, .int .i64 b] w fun e w' => e = .returned (.tuple #[.int .i64 (ifb (inR (a + b)) (a + b)), .bool (inR (a + b))]) ∧ Below w.heap.size w w' := by
  have hc := hide (add_ok a b ha hb)
  have hmf : ∀ (fn : Fn) (first cap : Array Value) (w : World), (Instr.makeFunc fn first cap).run Try.prog w = .ok (.func fn first cap) w := fun _ _ _ _ => rfl
  have hv : Hid (ifb (inR (a + b)) (wrap64 (a + b)) = ifb (inR (a + b)) (a + b)) := by
    refine hide ?_
    cases h : inR (a + b)
    · rw [ifb_false, ifb_false]
    · rw [ifb_true, ifb_true, wrap64_of _ h]
  go_enter Try.func14, Try.ntmps14
  go_wp2_with (go_at_call 24; refine (chk28 _ a b _ _ _ _ hc.out (by go_simp) (by go_simp)).mono ?_; rintro e w' ⟨rfl, rfl⟩)
  go_ret2
  exact ⟨ret_ib hv.out rfl, ((Below.refl _ _).alloc (Nat.le_refl _) _).alloc (by simp) _⟩

/-! Sub -/
theorem clo29 (n a b : Int) (p q : Addr) (w : World) (hp : w.cell? p = some (.int .i64 a)) (hq : w.cell? q = some (.int .i64 b)) :
    Calls Try.prog 29 #[.int .i64 n, .pointer (some p), .pointer (some q)] w fun e w' => e = .returned (.bool (decide (n < a) == decide (0 < b))) ∧ w = w' := by
  go_enter Try.func29, Try.ntmps29
  go_wp2
  go_ret
  exact ⟨rfl, rfl⟩

theorem chk29 (n a b : Int) (p q : Addr) (w : World) (c : Bool) (hc : (decide (n < a) == decide (0 < b)) = c) (hp : w.cell? p = some (.int .i64 a)) (hq : w.cell? q = some (.int .i64 b)) :
    Calls Try.prog 24 #[.int .i64 n, .func (Fn.func 29) #[] #[.pointer (some p), .pointer (some q)]] w fun e w' => e = .returned (.tuple #[.int .i64 (ifb c n), .bool c]) ∧ w = w' := by
  have H := clo29 n a b p q w hp hq
  rw [hc] at H
  clear hc hp hq
  cases c
  all_goals
    go_enter Try.func24, Try.ntmps24
    go_wp2_with (go_at_call 29; refine H.mono ?_; rintro e w' ⟨rfl, rfl⟩)
    go_ret2
    exact ⟨rfl, rfl⟩

theorem sub_any (a b : Int) (w : World) (ha : inR a = true) (hb : inR b = true) :
    Calls Try.prog 15 #[.int .i64 a, .int .i64 b] w fun e w' => e = .returned (.tuple #[.int .i64 (ifb (inR (a - b)) (a - b)), .bool (inR (a - b))]) ∧ Below w.heap.size w w' := by
  have hc := hide (sub_ok a b ha hb)
  have hmf : ∀ (fn : Fn) (first cap : Array Value) (w : World), (Instr.makeFunc fn first cap).run Try.prog w = .ok (.func fn first cap) w := fun _ _ _ _ => rfl
  have hv : Hid (ifb (inR (a - b)) (wrap64 (a - b)) = ifb (inR (a - b)) (a - b)) := by
    refine hide ?_
    cases h : inR (a - b)
    · rw [ifb_false, ifb_false]
    · rw [ifb_true, ifb_true, wrap64_of _ h]
  go_enter Try.func15, Try.ntmps15
  go_wp2_with (go_at_call 24; refine (chk29 _ a b _ _ _ _ hc.out (by go_simp) (by go_simp)).mono ?_; rintro e w' ⟨rfl, rfl⟩)
  go_ret2
  exact ⟨ret_ib hv.out rfl, ((Below.refl _ _).alloc (Nat.le_refl _) _).alloc (by simp) _⟩

end Go.Proofs.Ytphiidmcfagemaa
