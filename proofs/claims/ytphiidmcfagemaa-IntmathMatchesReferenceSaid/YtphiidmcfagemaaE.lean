/- The contract of Mul: called with any two 64-bit integers, it returns the exact product and true where it is in range, else 0 and false; what was in memory is as it was. -/
import Derived.Test.YtphiidmcfagemaaD
import Derived.Deep.QuietTactic
import Derived.BigQuiet
namespace Go.Proofs.Ytphiidmcfagemaa
open Go.RowKit

theorem quiet_same {P : Program} {f : FuncId} {args : Array Value} {w : World} {n : Nat} {v : Value}
    (h : Calls P f args (w.drewN n) fun e w' => e = .returned v ∧ w.drewN n = w') : Calls P f args (w.drewN n) fun e w'' => e = .returned v ∧ ∃ m, w'' = w.drewN m :=
  h.mono fun _ _ ⟨he, hm⟩ => ⟨he, n, hm.symm⟩
theorem below_dn {B : Nat} {a w : World} (h : Below B a w) (n : Nat) : Below B a (w.drewN n) := ⟨h.os, h.tape, h.output, h.size, h.block⟩
def Drew (w w' : World) : Prop := ∃ m, w' = w.drewN m

/-! Mul -/
theorem clo30_zero (n b : Int) (p q : Addr) (w : World) (hp : w.cell? p = some (.int .i64 0)) (_hq : w.cell? q = some (.int .i64 b)) :
    Calls Try.prog 30 #[.int .i64 n, .pointer (some p), .pointer (some q)] w fun e w' => e = .returned (.bool true) ∧ Drew w w' := by
  go_enter Try.func30, Try.ntmps30
  go_wp2
  go_ret
  exact ⟨rfl, 0, rfl⟩

theorem clo30_not (n a b : Int) (p q : Addr) (w : World) (h0 : ¬ a = 0) (hf : fits n a = false) (hp : w.cell? p = some (.int .i64 a)) (_hq : w.cell? q = some (.int .i64 b)) :
    Calls Try.prog 30 #[.int .i64 n, .pointer (some p), .pointer (some q)] w fun e w' => e = .returned (.bool false) ∧ Drew w w' := by
  have H := fun w => fits_any n a w
  rw [hf] at H
  go_enter Try.func30, Try.ntmps30
  go_wp2_with fail
  go_quiet ((go_at_call 26; exact quiet_same (H _)))
  go_wp2
  go_ret
  exact ⟨rfl, _, rfl⟩

theorem clo30_yes (n a b : Int) (p q : Addr) (w : World) (h0 : ¬ a = 0) (hf : fits n a = true) (hp : w.cell? p = some (.int .i64 a)) (hq : w.cell? q = some (.int .i64 b)) :
    Calls Try.prog 30 #[.int .i64 n, .pointer (some p), .pointer (some q)] w fun e w' => e = .returned (.bool (wrap64 (n.tdiv a) == b)) ∧ Drew w w' := by
  have H := fun w => fits_any n a w
  rw [hf] at H
  go_enter Try.func30, Try.ntmps30
  go_wp2_with fail
  go_quiet ((go_at_call 26; exact quiet_same (H _)))
  go_wp2
  go_ret
  exact ⟨rfl, _, rfl⟩

theorem clo30_any (a b : Int) (p q : Addr) (w : World) (ha : inR a = true) (hb : inR b = true) (hp : w.cell? p = some (.int .i64 a)) (hq : w.cell? q = some (.int .i64 b)) :
    Calls Try.prog 30 #[.int .i64 (wrap64 (a * b)), .pointer (some p), .pointer (some q)] w fun e w' => e = .returned (.bool (inR (a * b))) ∧ Drew w w' := by
  by_cases h0 : a = 0
  · subst h0
    have e : inR (0 * b) = true := by rw [Int.zero_mul]; rfl
    rw [e]
    exact clo30_zero _ b p q w hp hq
  · have h := mul_ok a b ha hb h0
    cases hf : fits (wrap64 (a * b)) a
    · rw [hf, Bool.false_and] at h
      rw [← h]
      exact clo30_not _ a b p q w h0 hf hp hq
    · rw [hf, Bool.true_and] at h
      have hin : inR (wrap64 (a * b)) = true := by rw [inR_iff]; unfold wrap64; omega
      have ht := wrap64_of _ (tdiv_in _ a hin h0 hf)
      rw [← h]
      have H := clo30_yes _ a b p q w h0 hf hp hq
      rw [ht] at H
      exact H

theorem chk30 (a b : Int) (p q : Addr) (w : World) (c : Bool) (hc : inR (a * b) = c) (ha : inR a = true) (hb : inR b = true) (hp : w.cell? p = some (.int .i64 a)) (hq : w.cell? q = some (.int .i64 b)) :
    Calls Try.prog 24 #[.int .i64 (wrap64 (a * b)), .func (Fn.func 30) #[] #[.pointer (some p), .pointer (some q)]] w fun e w' => e = .returned (.tuple #[.int .i64 (ifb c (wrap64 (a * b))), .bool c]) ∧ Drew w w' := by
  have H := clo30_any a b p q w ha hb hp hq
  rw [hc] at H
  clear hc hp hq ha hb
  generalize wrap64 (a * b) = n at H ⊢
  cases c
  all_goals
    go_enter Try.func24, Try.ntmps24
    go_wp2_with (go_at_call 30; refine H.mono ?_; rintro e w' ⟨rfl, ⟨m, rfl⟩⟩)
    go_ret2
    exact ⟨rfl, _, rfl⟩

theorem mul_any (a b : Int) (w : World) (ha : inR a = true) (hb : inR b = true) :
    Calls Try.prog 16 #[.int .i64 a, .int .i64 b] w fun e w' => e = .returned (.tuple #[.int .i64 (ifb (inR (a * b)) (a * b)), .bool (inR (a * b))]) ∧ Below w.heap.size w w' := by
  have hmf : ∀ (fn : Fn) (first cap : Array Value) (w : World), (Instr.makeFunc fn first cap).run Try.prog w = .ok (.func fn first cap) w := fun _ _ _ _ => rfl
  have hv : Hid (ifb (inR (a * b)) (wrap64 (a * b)) = ifb (inR (a * b)) (a * b)) := by
    refine hide ?_
    cases h : inR (a * b)
    · rw [ifb_false, ifb_false]
    · rw [ifb_true, ifb_true, wrap64_of _ h]
  have ha' := hide ha
  have hb' := hide hb
  clear ha hb
  go_enter Try.func16, Try.ntmps16
  go_wp2_with (go_at_call 24; refine (chk30 a b _ _ _ _ rfl ha'.out hb'.out (by go_simp) (by go_simp)).mono ?_; rintro e w' ⟨rfl, ⟨m, rfl⟩⟩)
  go_ret2
  exact ⟨ret_ib hv.out rfl, below_dn (((Below.refl _ _).alloc (Nat.le_refl _) _).alloc (by simp) _) _⟩
end Go.Proofs.Ytphiidmcfagemaa
