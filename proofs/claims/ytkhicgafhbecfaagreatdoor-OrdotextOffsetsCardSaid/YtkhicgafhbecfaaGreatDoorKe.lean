/- What earlier stages proved: Ea Eb Ec Ed. -/
import Derived.Test.YtkhicgafhbecfaaGreatDoorKd
import Derived.Test.YtkhicgafhbecfaaGreatDoorKw
import Derived.Maps.OwnSet
import Derived.Test.YtkhicgafhbecfaaGreatDoorKa
namespace Go.Proofs.YtkhicgafhbecfaaGreatDoor

/-- The number from 1 to 30 that is congruent to n. -/
def ep30 (n : Int) : Int := if n % 30 = 0 then 30 else n % 30
def epJ (y : Int) : Int := 11 * gold y - 3
def epG (y : Int) : Int := 11 * gold y + 20 + lunr y - solr y
def epF (c y : Int) : Int := if c = 1 then epJ y else epG y
def epIn (c y : Int) : Bool := if c = 1 then inY y else inG y
/-- The error of a calendar and a year. -/
def epE (c y : Int) : Int := if okC c = true then eB (epIn c y) else 3
def epc (c y : Int) : Int := ep30 (epF c y)
def lbl (e g : Int) : Int := if e = 25 ∧ 11 < g then 31 else e
def lab (c y : Int) : Int := lbl (epc c y) (gold y)
def epN (c y : Int) : Int := if epE c y = 0 then epc c y else 0
def epL (c y : Int) : Int := if epE c y = 0 then lab c y else 0

theorem ep30_bd (n : Int) : 1 ≤ ep30 n ∧ ep30 n ≤ 30 := by unfold ep30; split <;> omega
theorem ep30_mod (n : Int) : ep30 n % 30 = n % 30 := by unfold ep30; split <;> omega
theorem ep30_eq {m n : Int} : ep30 m = ep30 n ↔ (m - n) % 30 = 0 := by unfold ep30; split <;> split <;> omega
theorem epJ_bd (y : Int) : 8 ≤ epJ y ∧ epJ y ≤ 206 := by have := gold_bd y; unfold epJ; omega
theorem epG_bd {y : Int} (h1 : 1583 ≤ y) (h2 : y ≤ 1000000000) : -10000000 ≤ epG y ∧ epG y ≤ 10000229 := by
  have a := gold_bd y
  have b := solr_bd h1 h2
  have c := lunr_bd h1 h2
  unfold epG; omega
theorem lbl_bd {e g : Int} (h : 1 ≤ e ∧ e ≤ 30) : 1 ≤ lbl e g ∧ lbl e g ≤ 31 := by unfold lbl; split <;> omega
theorem epE_zero {c y : Int} (h : epE c y = 0) : (c = 1 ∨ c = 2) ∧ epIn c y = true := by
  unfold epE at h
  cases hc : okC c
  · rw [hc] at h; simp at h
  · rw [hc, if_pos rfl] at h
    refine ⟨okC_iff.1 hc, ?_⟩
    cases hi : epIn c y
    · rw [hi] at h; simp [eB] at h
    · rfl
theorem epE_ok {c y : Int} (hc : okC c = true) (h : epIn c y = true) : epE c y = 0 := by unfold epE; rw [if_pos hc, h]; rfl
theorem epIn_one (y : Int) : epIn 1 y = inY y := rfl
theorem epIn_two (y : Int) : epIn 2 y = inG y := rfl
theorem epIn_inY {c y : Int} (h : epIn c y = true) : 1 ≤ y ∧ y ≤ 1000000000 := by
  unfold epIn at h
  split at h
  · exact inY_iff.1 h
  · have := inG_iff.1 h; omega
theorem epE_inY {c y : Int} (h : epE c y = 0) : 1 ≤ y ∧ y ≤ 1000000000 := epIn_inY (epE_zero h).2

def dig (n : Int) : UInt8 := UInt8.ofNat (48 + n.toNat)
def lnm (l : Int) : ByteArray :=
  if l < 1 ∨ 31 < l then ⟨#[]⟩ else if l = 30 then ⟨#[42]⟩ else if l = 31 then ⟨#[50, 53, 39]⟩ else if l < 10 then ⟨#[dig l]⟩ else ⟨#[dig (l / 10), dig (l % 10)]⟩
theorem lnm_out {l : Int} (h : l < 1 ∨ 31 < l) : lnm l = ⟨#[]⟩ := by unfold lnm; rw [if_pos h]
theorem lnm_inj_nat : ∀ a b : Fin 32, 1 ≤ a.val → 1 ≤ b.val → (lnm a.val).data.toList = (lnm b.val).data.toList → a = b := by decide +kernel
theorem lnm_some_nat : ∀ a : Fin 32, 1 ≤ a.val → (lnm a.val).data.toList.isEmpty = false := by decide +kernel
theorem lnm_inj {a b : Int} (h1 : 1 ≤ a) (h2 : a ≤ 31) (h3 : 1 ≤ b) (h4 : b ≤ 31) (h : lnm a = lnm b) : a = b := by
  have e1 : ((a.toNat : Nat) : Int) = a := Int.toNat_of_nonneg (by omega)
  have e2 : ((b.toNat : Nat) : Int) = b := Int.toNat_of_nonneg (by omega)
  have := lnm_inj_nat ⟨a.toNat, by omega⟩ ⟨b.toNat, by omega⟩ (by show 1 ≤ a.toNat; omega) (by show 1 ≤ b.toNat; omega) (by show (lnm ((a.toNat : Nat) : Int)).data.toList = (lnm ((b.toNat : Nat) : Int)).data.toList; rw [e1, e2, h])
  have := congrArg Fin.val this
  simp at this
  omega
theorem lnm_some {a : Int} (h1 : 1 ≤ a) (h2 : a ≤ 31) : (lnm a).toList.isEmpty = false := by
  have e1 : ((a.toNat : Nat) : Int) = a := Int.toNat_of_nonneg (by omega)
  have := lnm_some_nat ⟨a.toNat, by omega⟩ (by show 1 ≤ a.toNat; omega)
  rw [ByteArray.toList_eq]
  change (lnm ((a.toNat : Nat) : Int)).data.toList.isEmpty = false at this
  rwa [e1] at this
theorem lnm_beq {a b : Int} (h1 : 1 ≤ a) (h2 : a ≤ 31) (h3 : 1 ≤ b) (h4 : b ≤ 31) : ((lnm a).toList == (lnm b).toList) = decide (a = b) := by
  rw [Bool.eq_iff_iff, decide_eq_true_iff]
  refine ⟨fun h => lnm_inj h1 h2 h3 h4 (bytes_ext h), fun h => by rw [h]; exact beq_self_eq_true _⟩
end Go.Proofs.YtkhicgafhbecfaaGreatDoor

namespace Go.Proofs.YtkhicgafhbecfaaGreatDoor
open Go.RowKit
open Go.Maps (Keyed int_keyed keyOf_int_mk IsMap)

/-- How a function among a map's elements is told: by its number; nil as -1. -/
def funElem (v : Value) : Option (DataW Unit × List MemPlace) :=
  match v with
  | .func (.func f) a b => if a.size = 0 ∧ b.size = 0 then some (.lit (.int .i64 f), []) else none
  | .nilFunc => some (.lit (.int .i64 (-1)), [])
  | _ => none
theorem funElem_mk (f : Nat) : funElem (.func (.func f) #[] #[]) = some (.lit (.int .i64 f), []) := by simp [funElem]
theorem funElem_inv {v : Value} {f : Nat} {p : List MemPlace} (h : funElem v = some (.lit (.int .i64 f), p)) : v = .func (.func f) #[] #[] := by
  unfold funElem at h
  split at h
  · rename_i g a b
    split at h
    · rename_i hs
      simp only [Option.some.injEq, Prod.mk.injEq, DataW.lit.injEq, Lit.int.injEq, true_and] at h
      have e1 : a = #[] := Array.eq_empty_of_size_eq_zero hs.1
      have e2 : b = #[] := Array.eq_empty_of_size_eq_zero hs.2
      rw [e1, e2, Int.ofNat.inj h.1]
    · cases h
  · simp only [Option.some.injEq, Prod.mk.injEq, DataW.lit.injEq, Lit.int.injEq, true_and] at h
    omega
  · cases h
theorem funElem_nil {v : Value} {p : List MemPlace} (h : funElem v = some (.lit (.int .i64 (-1)), p)) : v = .nilFunc := by
  unfold funElem at h
  split at h
  · split at h
    · simp only [Option.some.injEq, Prod.mk.injEq, DataW.lit.injEq, Lit.int.injEq, true_and] at h
      omega
    · cases h
  · rfl
  · cases h

/-- The operation that a map literal is written by. -/
theorem insert_own {H : Type} {P : Program} {u : World} {ops : Array Oper} {rest : List Oper} {o : Oper} {a : Act} {Q : Exit → Act → World → Prop}
    (hg : o.guard = none) {t : TypeId} {m x v : Operand} (hop : o.op = Op.insert t m x v) {k e : TypeId} (K : Keyed P k) (ht : P.underlying t = some (.map k e))
    {R : Value → Option (DataW H × List MemPlace)} (b : Nat) {n : Nat} {D : DataW H} (hm : a.eval m = .map (some b)) (hown : u.ownsMap P k R b n D) (hn : n < maxLen)
    {key : Value} (hx : a.eval x = key) {kl : Lit} (hkey : keyOf P k key = some kl) {val : Value} (hv : a.eval v = val) {d : DataW H} {ps : List MemPlace} (hval : R val = some (d, ps))
    (hK : ∀ u', u'.ownsMap P k R b (n + 1) (D.put kl d) → u.grownBy u' (some b) → wpList P ops Q rest (a.put o.dst undef) u') : wpList P ops Q (o :: rest) a u := by
  obtain ⟨u', hr, h1, h2⟩ := hown.update K ht hn hkey hval
  refine wpList_plain hg fun _ hk => ?_
  unfold Oper.wp
  simp [execOp, hop, hm, hx, hv, hr, Result.andThen]
  exact hk _ _ (hK u' h1 h2)

/-- A function looked up in a map of functions. -/
theorem look_fun {P : Program} {u : World} {ops : Array Oper} {rest : List Oper} {o : Oper} {a : Act} {Q : Exit → Act → World → Prop}
    (hg : o.guard = none) (m x : Operand) {t : TypeId} (hop : o.op = Op.lookup t m x true) {k e : TypeId} (K : Keyed P k) (ht : P.underlying t = some (.map k e)) (hz : (zeroValue e).run P u = .ok .nilFunc u)
    (b : Nat) {n : Nat} {D : DataW Unit} (hm : a.eval m = .map (some b)) (hown : u.ownsMap P k funElem b n D) {key : Value} {kl : Lit} (hx : a.eval x = key) (hkey : keyOf P k key = some kl)
    (f : Nat) (hat : D.atKey kl (.lit (.int .i64 (-1))) = .lit (.int .i64 f)) (hhas : Maps.has D kl = true)
    (hK : wpList P ops Q rest (a.put o.dst (.tuple #[.func (.func f) #[] #[], .bool true])) u) : wpList P ops Q (o :: rest) a u :=
  wpList_lookup_own_ok u hg m x t hop k e K ht funElem hz (.lit (.int .i64 (-1))) [] rfl b n D hm hown key kl hx hkey (fun v ps hv => by
    rw [hat] at hv
    obtain rfl := funElem_inv hv
    rw [hhas]
    exact hK)
abbrev D0 : DataW Unit := .map []
theorem lawI : Keyed Tryz.prog 3 := int_keyed Tryz.underlying3
theorem tm30 (n : Int) : (0 ≤ n ∧ n.tmod 30 = n % 30) ∨ (n < 0 ∧ n.tmod 30 = - ((- n) % 30)) := by
  rcases Int.lt_or_le n 0 with h | h
  · right
    refine ⟨h, ?_⟩
    have : n.tmod 30 = - ((-n).tmod 30) := by rw [Int.neg_tmod, Int.neg_neg]
    rw [this, Int.tmod_eq_emod_of_nonneg (by omega)]
  · left; exact ⟨h, Int.tmod_eq_emod_of_nonneg h⟩
theorem key_one : keyOf Tryz.prog 3 (.int .i64 1) = some (.int .i64 1) := keyOf_int_mk Tryz.underlying3 (by decide)
theorem key_two : keyOf Tryz.prog 3 (.int .i64 2) = some (.int .i64 2) := keyOf_int_mk Tryz.underlying3 (by decide)
end Go.Proofs.YtkhicgafhbecfaaGreatDoor

namespace Go.Proofs.YtkhicgafhbecfaaGreatDoor
open Go.RowKit

theorem epN_at {c y : Int} (h : epE c y = 0) : epN c y = epc c y ∧ epL c y = lab c y := by unfold epN epL; rw [if_pos h, if_pos h]; exact ⟨rfl, rfl⟩
theorem epN_no {c y : Int} (h : epE c y ≠ 0) : epN c y = 0 ∧ epL c y = 0 := by unfold epN epL; rw [if_neg h, if_neg h]; exact ⟨rfl, rfl⟩
set_option maxRecDepth 100000 in
theorem small_one (n : Int) (w : World) (h1 : 1 ≤ n) (h2 : n < 10) : Calls Tryz.prog 110 #[.int .i64 n] w fun e w' => e = .returned (.string ⟨#[dig n]⟩) ∧ w = w' := by
  go_enter Tryz.func110, Tryz.ntmps110
  go_wp2
  rw [run_slice_string w _ _ _ _ _ _ Tryz.underlying9 (by omega) (by omega) (by simp [ByteArray.size]; omega)]
  go_wp2
  go_ret
  have h : n = 1 ∨ n = 2 ∨ n = 3 ∨ n = 4 ∨ n = 5 ∨ n = 6 ∨ n = 7 ∨ n = 8 ∨ n = 9 := by omega
  clear h1 h2
  rcases h with rfl | rfl | rfl | rfl | rfl | rfl | rfl | rfl | rfl
  all_goals exact ⟨by kernel_rfl, rfl⟩
set_option maxRecDepth 100000 in
theorem small_two (n : Int) (w : World) (h1 : 10 ≤ n) (h2 : n < 30) : Calls Tryz.prog 110 #[.int .i64 n] w fun e w' => e = .returned (.string ⟨#[dig (n / 10), dig (n % 10)]⟩) ∧ w = w' := by
  go_enter Tryz.func110, Tryz.ntmps110
  go_wp2
  rw [run_slice_string w _ _ _ _ _ _ Tryz.underlying9 (by omega) (by omega) (by simp [ByteArray.size]; omega)]
  go_wp2
  go_ret
  have h : n = 10 ∨ n = 11 ∨ n = 12 ∨ n = 13 ∨ n = 14 ∨ n = 15 ∨ n = 16 ∨ n = 17 ∨ n = 18 ∨ n = 19 ∨ n = 20 ∨ n = 21 ∨ n = 22 ∨ n = 23 ∨ n = 24 ∨ n = 25 ∨ n = 26 ∨ n = 27 ∨ n = 28 ∨ n = 29 := by omega
  clear h1 h2
  rcases h with rfl | rfl | rfl | rfl | rfl | rfl | rfl | rfl | rfl | rfl | rfl | rfl | rfl | rfl | rfl | rfl | rfl | rfl | rfl | rfl
  all_goals exact ⟨by kernel_rfl, rfl⟩
set_option maxRecDepth 100000 in
theorem fmti_any (n : Int) (s : ByteArray) (w : World) (h1 : 1 ≤ n) (h2 : n < 100) (H : ∀ w, Calls Tryz.prog 110 #[.int .i64 n] w fun e w' => e = .returned (.string s) ∧ w = w') : Calls Tryz.prog 99 #[.int .i64 n, .int .i64 10] w fun e w' => e = .returned (.string s) ∧ w = w' := by
  go_enter Tryz.func99, Tryz.ntmps99
  go_wp2_with fail
  refine (H _).mono ?_
  rintro e wq ⟨rfl, rfl⟩
  go_wp2_with fail
  go_ret
  exact ⟨rfl, rfl⟩
theorem itoi_any (n : Int) (s : ByteArray) (w : World) (H : ∀ w, Calls Tryz.prog 99 #[.int .i64 n, .int .i64 10] w fun e w' => e = .returned (.string s) ∧ w = w') : Calls Tryz.prog 79 #[.int .i64 n] w fun e w' => e = .returned (.string s) ∧ w = w' := by
  go_enter Tryz.func79, Tryz.ntmps79
  go_wp2_with fail
  refine (H _).mono ?_
  rintro e wq ⟨rfl, rfl⟩
  go_wp2_with fail
  go_ret
  exact ⟨rfl, rfl⟩
theorem itoa_any (n : Int) (s : ByteArray) (w : World) (H : ∀ w, Calls Tryz.prog 79 #[.int .i64 n] w fun e w' => e = .returned (.string s) ∧ w = w') : Calls Tryz.prog 62 #[.int .i64 n] w fun e w' => e = .returned (.string s) ∧ w = w' := by
  go_enter Tryz.func62, Tryz.ntmps62
  go_wp2_with fail
  refine (H _).mono ?_
  rintro e wq ⟨rfl, rfl⟩
  go_wp2_with fail
  go_ret
  exact ⟨rfl, rfl⟩
set_option maxRecDepth 100000 in
theorem itoa_sml (n : Int) (s : ByteArray) (w : World) (h1 : 1 ≤ n) (h2 : n < 100) (H : ∀ w, Calls Tryz.prog 110 #[.int .i64 n] w fun e w' => e = .returned (.string s) ∧ w = w') : Calls Tryz.prog 62 #[.int .i64 n] w fun e w' => e = .returned (.string s) ∧ w = w' :=
  itoa_any n s w fun w => itoi_any n s w fun w => fmti_any n s w h1 h2 H
end Go.Proofs.YtkhicgafhbecfaaGreatDoor

namespace Go.Proofs.YtkhicgafhbecfaaGreatDoor
open Go.RowKit

theorem ten_cut (a : Int) (h1 : 0 ≤ a) (h2 : a < 10) (w : World) : (Instr.slice 9 (.string ⟨#[48, 49, 50, 51, 52, 53, 54, 55, 56, 57]⟩) (some (.int .i64 a)) (some (.int .i64 (a + 1))) none).run Tryz.prog w = .ok (.string ⟨#[dig a]⟩) w := by
  rw [run_slice_string w _ _ _ _ _ _ Tryz.underlying9 (by omega) (by omega) (by simp [ByteArray.size]; omega)]
  have h : a = 0 ∨ a = 1 ∨ a = 2 ∨ a = 3 ∨ a = 4 ∨ a = 5 ∨ a = 6 ∨ a = 7 ∨ a = 8 ∨ a = 9 := by omega
  clear h1 h2
  rcases h with rfl | rfl | rfl | rfl | rfl | rfl | rfl | rfl | rfl | rfl
  all_goals exact congrArg (fun s => Result.ok (Value.string s) w) (by kernel_rfl)
theorem two_digs (a b : UInt8) : (⟨#[a]⟩ : ByteArray) ++ ⟨#[b]⟩ = ⟨#[a, b]⟩ := by
  apply ByteArray.ext
  simp [ByteArray.data_append]
theorem quiet_below {P : Program} {f : FuncId} {args : Array Value} {w : World} {v : Value} (h : Calls P f args w fun e w' => e = .returned v ∧ w = w') : Calls P f args w fun e w' => e = .returned v ∧ Below w.heap.size w w' :=
  h.mono fun _ _ ⟨he, hm⟩ => ⟨he, hm ▸ Below.refl _ _⟩
end Go.Proofs.YtkhicgafhbecfaaGreatDoor
