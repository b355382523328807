/- What earlier stages proved: Ea Eb Ec. -/
import Derived.Test.YtnfeihbkemgecaaDoorKd
import Derived.Test.YtnfeihbkemgecaaDoorKw
import Derived.Maps.OwnSet
namespace Go.Proofs.YtnfeihbkemgecaaDoor

/-- The number from 1 to 30 that is congruent to n. -/
def ep30 (n : Int) : Int := if n % 30 = 0 then 30 else n % 30
def epJ (y : Int) : Int := 11 * gold y - 3
def epG (y : Int) : Int := 11 * gold y + 20 + lunr y - solr y
def epF (c y : Int) : Int := if c = 1 then epJ y else epG y
def epIn (c y : Int) : Bool := if c = 1 then inY y else inG y
/-- The error of a calendar and a year. -/
def epE (c y : Int) : Int := if okC c = true then eB (epIn c y) else 3
def epc (c y : Int) : Int := ep30 (epF c y)
def lbl (e g : Int) : Int := if e = 25 ∧ 11 < g then 31 else e
def lab (c y : Int) : Int := lbl (epc c y) (gold y)
def epN (c y : Int) : Int := if epE c y = 0 then epc c y else 0
def epL (c y : Int) : Int := if epE c y = 0 then lab c y else 0

theorem ep30_bd (n : Int) : 1 ≤ ep30 n ∧ ep30 n ≤ 30 := by unfold ep30; split <;> omega
theorem lbl_bd {e g : Int} (h : 1 ≤ e ∧ e ≤ 30) : 1 ≤ lbl e g ∧ lbl e g ≤ 31 := by unfold lbl; split <;> omega
theorem epE_zero {c y : Int} (h : epE c y = 0) : (c = 1 ∨ c = 2) ∧ epIn c y = true := by
  unfold epE at h
  cases hc : okC c
  · rw [hc] at h; simp at h
  · rw [hc, if_pos rfl] at h
    refine ⟨okC_iff.1 hc, ?_⟩
    cases hi : epIn c y
    · rw [hi] at h; simp [eB] at h
    · rfl
theorem epE_ok {c y : Int} (hc : okC c = true) (h : epIn c y = true) : epE c y = 0 := by unfold epE; rw [if_pos hc, h]; rfl
theorem epIn_one (y : Int) : epIn 1 y = inY y := rfl
theorem epIn_two (y : Int) : epIn 2 y = inG y := rfl
theorem epIn_inY {c y : Int} (h : epIn c y = true) : 1 ≤ y ∧ y ≤ 1000000000 := by
  unfold epIn at h
  split at h
  · exact inY_iff.1 h
  · have := inG_iff.1 h; omega
theorem epE_inY {c y : Int} (h : epE c y = 0) : 1 ≤ y ∧ y ≤ 1000000000 := epIn_inY (epE_zero h).2

end Go.Proofs.YtnfeihbkemgecaaDoor

namespace Go.Proofs.YtnfeihbkemgecaaDoor
open Go.RowKit
open Go.Maps (Keyed int_keyed keyOf_int_mk IsMap)

/-- How a function among a map's elements is told: by its number; nil as -1. -/
def funElem (v : Value) : Option (DataW Unit × List MemPlace) :=
  match v with
  | .func (.func f) a b => if a.size = 0 ∧ b.size = 0 then some (.lit (.int .i64 f), []) else none
  | .nilFunc => some (.lit (.int .i64 (-1)), [])
  | _ => none
theorem funElem_mk (f : Nat) : funElem (.func (.func f) #[] #[]) = some (.lit (.int .i64 f), []) := by simp [funElem]
theorem funElem_inv {v : Value} {f : Nat} {p : List MemPlace} (h : funElem v = some (.lit (.int .i64 f), p)) : v = .func (.func f) #[] #[] := by
  unfold funElem at h
  split at h
  · rename_i g a b
    split at h
    · rename_i hs
      simp only [Option.some.injEq, Prod.mk.injEq, DataW.lit.injEq, Lit.int.injEq, true_and] at h
      have e1 : a = #[] := Array.eq_empty_of_size_eq_zero hs.1
      have e2 : b = #[] := Array.eq_empty_of_size_eq_zero hs.2
      rw [e1, e2, Int.ofNat.inj h.1]
    · cases h
  · simp only [Option.some.injEq, Prod.mk.injEq, DataW.lit.injEq, Lit.int.injEq, true_and] at h
    omega
  · cases h
/-- The operation that a map literal is written by. -/
theorem insert_own {H : Type} {P : Program} {u : World} {ops : Array Oper} {rest : List Oper} {o : Oper} {a : Act} {Q : Exit → Act → World → Prop}
    (hg : o.guard = none) {t : TypeId} {m x v : Operand} (hop : o.op = Op.insert t m x v) {k e : TypeId} (K : Keyed P k) (ht : P.underlying t = some (.map k e))
    {R : Value → Option (DataW H × List MemPlace)} (b : Nat) {n : Nat} {D : DataW H} (hm : a.eval m = .map (some b)) (hown : u.ownsMap P k R b n D) (hn : n < maxLen)
    {key : Value} (hx : a.eval x = key) {kl : Lit} (hkey : keyOf P k key = some kl) {val : Value} (hv : a.eval v = val) {d : DataW H} {ps : List MemPlace} (hval : R val = some (d, ps))
    (hK : ∀ u', u'.ownsMap P k R b (n + 1) (D.put kl d) → u.grownBy u' (some b) → wpList P ops Q rest (a.put o.dst undef) u') : wpList P ops Q (o :: rest) a u := by
  obtain ⟨u', hr, h1, h2⟩ := hown.update K ht hn hkey hval
  refine wpList_plain hg fun _ hk => ?_
  unfold Oper.wp
  simp [execOp, hop, hm, hx, hv, hr, Result.andThen]
  exact hk _ _ (hK u' h1 h2)

/-- A function looked up in a map of functions. -/
theorem look_fun {P : Program} {u : World} {ops : Array Oper} {rest : List Oper} {o : Oper} {a : Act} {Q : Exit → Act → World → Prop}
    (hg : o.guard = none) (m x : Operand) {t : TypeId} (hop : o.op = Op.lookup t m x true) {k e : TypeId} (K : Keyed P k) (ht : P.underlying t = some (.map k e)) (hz : (zeroValue e).run P u = .ok .nilFunc u)
    (b : Nat) {n : Nat} {D : DataW Unit} (hm : a.eval m = .map (some b)) (hown : u.ownsMap P k funElem b n D) {key : Value} {kl : Lit} (hx : a.eval x = key) (hkey : keyOf P k key = some kl)
    (f : Nat) (hat : D.atKey kl (.lit (.int .i64 (-1))) = .lit (.int .i64 f)) (hhas : Maps.has D kl = true)
    (hK : wpList P ops Q rest (a.put o.dst (.tuple #[.func (.func f) #[] #[], .bool true])) u) : wpList P ops Q (o :: rest) a u :=
  wpList_lookup_own_ok u hg m x t hop k e K ht funElem hz (.lit (.int .i64 (-1))) [] rfl b n D hm hown key kl hx hkey (fun v ps hv => by
    rw [hat] at hv
    obtain rfl := funElem_inv hv
    rw [hhas]
    exact hK)
abbrev D0 : DataW Unit := .map []
abbrev D1 : DataW Unit := D0.put (.int .i64 1) (.lit (.int .i64 82))
abbrev D2 : DataW Unit := D1.put (.int .i64 2) (.lit (.int .i64 83))
theorem lawI : Keyed Tryd.prog 3 := int_keyed Tryd.underlying3
theorem zeroF (w : World) : (zeroValue 69).run Tryd.prog w = .ok .nilFunc w := by kernel_rfl

set_option maxRecDepth 100000 in
theorem eform_any (w : World) : Calls Tryd.prog 60 #[] w fun e w' => e = .returned (.map (some w.heap.size)) ∧ w'.ownsMap Tryd.prog 3 funElem w.heap.size 2 D2 ∧ Below w.heap.size w w' := by
  have hmm := @run_makeMap Tryd.prog
  have k1 : keyOf Tryd.prog 3 (.int .i64 1) = some (.int .i64 1) := keyOf_int_mk Tryd.underlying3 (by decide)
  have k2 : keyOf Tryd.prog 3 (.int .i64 2) = some (.int .i64 2) := keyOf_int_mk Tryd.underlying3 (by decide)
  have o0 := World.ownsMap_made w Tryd.prog 3 funElem
  have b0 : Below w.heap.size w (w.alloc (.map #[] 0)) := (Below.refl _ _).alloc (Nat.le_refl _) _
  go_enter Tryd.func60, Tryd.ntmps60
  go_wp2_with (first
    | (refine insert_own rfl rfl lawI Tryd.underlying71 w.heap.size rfl o1 (by unfold maxLen; omega) rfl k2 rfl (funElem_mk _) ?_; intro u2 o2 g2)
    | (refine insert_own rfl rfl lawI Tryd.underlying71 w.heap.size rfl o0 (by unfold maxLen; omega) rfl k1 rfl (funElem_mk _) ?_; intro u1 o1 g1))
  go_ret
  have b1 := b0.grown g1 b0.size (fun k h => by cases h; exact Nat.le_refl _)
  exact ⟨rfl, o2, b1.grown g2 b1.size (fun k h => by cases h; exact Nat.le_refl _)⟩

theorem ejul_any (y n : Int) (w : World) (h1 : 1 ≤ n) (h2 : n ≤ 19) : Calls Tryd.prog 82 #[.int .i64 y, .int .i64 n] w fun e w' => e = .returned (numv (11 * n - 3) 0) ∧ w = w' := by
  go_enter Tryd.func82, Tryd.ntmps82
  go_wp2
  go_ret2
  exact ⟨rfl, rfl⟩
theorem egre_in (y n s l : Int) (w : World) (h1 : 1 ≤ n) (h2 : n ≤ 19) (s1 : 0 ≤ s) (s2 : s ≤ 10000000) (l1 : 0 ≤ l) (l2 : l ≤ 10000000)
    (HS : ∀ w, Calls Tryd.prog 92 #[.int .i64 y] w fun e w' => e = .returned (numv s 0) ∧ Below w.heap.size w w') (HL : ∀ w, Calls Tryd.prog 93 #[.int .i64 y] w fun e w' => e = .returned (numv l 0) ∧ Below w.heap.size w w') :
    Calls Tryd.prog 83 #[.int .i64 y, .int .i64 n] w fun e w' => e = .returned (numv (11 * n + 20 + l - s) 0) ∧ Below w.heap.size w w' := by
  have S0 := Lib.hid (Below.refl w.heap.size w)
  go_enter Tryd.func83, Tryd.ntmps83
  go_wp2_with fail
  refine (HS _).mono ?_
  rintro e w1 ⟨rfl, hb1⟩
  have S1 := Lib.hid (below_on S0.out hb1)
  clear hb1
  go_wp2_with fail
  refine (HL _).mono ?_
  rintro e w2 ⟨rfl, hb2⟩
  have S2 := Lib.hid (below_on S1.out hb2)
  clear hb2
  go_wp2_with fail
  go_ret2
  exact ⟨rfl, S2.out⟩
theorem egre_out (y n : Int) (w : World) (HS : ∀ w, Calls Tryd.prog 92 #[.int .i64 y] w fun e w' => e = .returned (numv 0 1) ∧ Below w.heap.size w w') :
    Calls Tryd.prog 83 #[.int .i64 y, .int .i64 n] w fun e w' => e = .returned (numv 0 1) ∧ Below w.heap.size w w' := by
  have S0 := Lib.hid (Below.refl w.heap.size w)
  go_enter Tryd.func83, Tryd.ntmps83
  go_wp2_with fail
  refine (HS _).mono ?_
  rintro e w1 ⟨rfl, hb1⟩
  have S1 := Lib.hid (below_on S0.out hb1)
  clear hb1
  go_wp2_with fail
  go_ret2
  exact ⟨rfl, S1.out⟩
theorem egre_any (y n : Int) (w : World) (h1 : 1 ≤ n) (h2 : n ≤ 19) : Calls Tryd.prog 83 #[.int .i64 y, .int .i64 n] w fun e w' => e = .returned (numv (vB (inG y) (11 * n + 20 + lunr y - solr y)) (eB (inG y))) ∧ Below w.heap.size w w' := by
  have HS := fun w => gsolr_any y w
  have HL := fun w => glunr_any y w
  cases h : inG y
  · rw [h] at HS; exact egre_out y n w HS
  · rw [h] at HS HL
    obtain ⟨g1, g2⟩ := inG_iff.1 h
    obtain ⟨s1, s2⟩ := solr_bd g1 g2
    obtain ⟨l1, l2⟩ := lunr_bd g1 g2
    exact egre_in y n _ _ w h1 h2 s1 s2 l1 l2 HS HL
theorem eof_lo (n : Int) (w : World) (b1 : -30 < n.tmod 30) (h : n.tmod 30 ≤ 0) : Calls Tryd.prog 61 #[.int .i64 n] w fun e w' => e = .returned (.int .i64 (n.tmod 30 + 30)) ∧ w = w' := by
  generalize hr : n.tmod 30 = r at *
  go_enter Tryd.func61, Tryd.ntmps61
  go_wp2
  go_ret
  exact ⟨rfl, rfl⟩
theorem eof_hi (n : Int) (w : World) (h : ¬ n.tmod 30 ≤ 0) : Calls Tryd.prog 61 #[.int .i64 n] w fun e w' => e = .returned (.int .i64 (n.tmod 30)) ∧ w = w' := by
  generalize hr : n.tmod 30 = r at *
  go_enter Tryd.func61, Tryd.ntmps61
  go_wp2
  go_ret
  exact ⟨rfl, rfl⟩
theorem tm30 (n : Int) : (0 ≤ n ∧ n.tmod 30 = n % 30) ∨ (n < 0 ∧ n.tmod 30 = - ((- n) % 30)) := by
  rcases Int.lt_or_le n 0 with h | h
  · right
    refine ⟨h, ?_⟩
    have : n.tmod 30 = - ((-n).tmod 30) := by rw [Int.neg_tmod, Int.neg_neg]
    rw [this, Int.tmod_eq_emod_of_nonneg (by omega)]
  · left; exact ⟨h, Int.tmod_eq_emod_of_nonneg h⟩
theorem eof_any (n : Int) (w : World) : Calls Tryd.prog 61 #[.int .i64 n] w fun e w' => e = .returned (.int .i64 (ep30 n)) ∧ w = w' := by
  have t := tm30 n
  by_cases h : n.tmod 30 ≤ 0
  · have e : n.tmod 30 + 30 = ep30 n := by unfold ep30; split <;> omega
    have := eof_lo n w (by omega) h
    rwa [e] at this
  · have e : n.tmod 30 = ep30 n := by unfold ep30; split <;> omega
    have := eof_hi n w h
    rwa [e] at this

theorem eOf_no (c y : Int) (w : World) (hw : (Lit.int .i64 c).wf = true) (h1 : ¬ c = 1) (h2 : ¬ c = 2) : Calls Tryd.prog 50 #[.int .i64 c, .int .i64 y] w fun e w' => e = .returned (numv 0 3) ∧ Below w.heap.size w w' := by
  have hkey : keyOf Tryd.prog 3 (.int .i64 c) = some (.int .i64 c) := keyOf_int_mk Tryd.underlying3 hw
  have n2 : (Lit.int .i64 c) ≠ Lit.int .i64 2 := fun h => by injection h; omega
  have n1 : (Lit.int .i64 c) ≠ Lit.int .i64 1 := fun h => by injection h; omega
  have hno : Maps.has D2 (.int .i64 c) = false := by rw [Maps.has_put_other n2, Maps.has_put_other n1]; rfl
  go_enter Tryd.func50, Tryd.ntmps50
  go_wp2_with fail
  refine (eform_any _).mono ?_
  rintro e w1 ⟨rfl, hown, hb1⟩
  go_wp2_with (at_lookup; refine wpList_lookup_own_ok _ rfl _ _ 71 rfl 3 69 lawI Tryd.underlying71 funElem (zeroF _) (.lit (.int .i64 (-1))) [] rfl w.heap.size 2 D2 rfl hown _ _ rfl hkey ?_; intro v ps hv; rw [hno])
  go_ret2
  exact ⟨rfl, hb1⟩
theorem key_one : keyOf Tryd.prog 3 (.int .i64 1) = some (.int .i64 1) := keyOf_int_mk Tryd.underlying3 (by decide)
theorem has_one : Maps.has D2 (.int .i64 1) = true := rfl
theorem at_one : D2.atKey (.int .i64 1) (.lit (.int .i64 (-1))) = .lit (.int .i64 (82 : Nat)) := rfl
theorem key_two : keyOf Tryd.prog 3 (.int .i64 2) = some (.int .i64 2) := keyOf_int_mk Tryd.underlying3 (by decide)
theorem has_two : Maps.has D2 (.int .i64 2) = true := rfl
theorem at_two : D2.atKey (.int .i64 2) (.lit (.int .i64 (-1))) = .lit (.int .i64 (83 : Nat)) := rfl
end Go.Proofs.YtnfeihbkemgecaaDoor

namespace Go.Proofs.YtnfeihbkemgecaaDoor
open Go.RowKit

theorem eOf_one0 (y g k : Int) (w : World) (HG : ∀ w, Calls Tryd.prog 51 #[.int .i64 y] w fun e w' => e = .returned (numv g k) ∧ Below w.heap.size w w') (q : (k != 0) = true) :
    Calls Tryd.prog 50 #[.int .i64 1, .int .i64 y] w fun e w' => e = .returned (numv 0 k) ∧ Below w.heap.size w w' := by
  go_enter Tryd.func50, Tryd.ntmps50
  go_wp2_with fail
  refine (eform_any _).mono ?_
  rintro e w1 ⟨rfl, hown, hb1⟩
  go_wp2_with (at_lookup; refine look_fun rfl _ _ rfl lawI Tryd.underlying71 (zeroF _) w.heap.size rfl hown rfl key_one _ at_one has_one ?_)
  refine (HG _).mono ?_
  rintro e w2 ⟨rfl, hb2⟩
  have S2 := Lib.hid (below_on hb1 hb2)
  clear hb1 hb2 hown
  go_wp2_with fail
  go_ret2
  exact ⟨rfl, S2.out⟩
theorem eOf_one (y g n p r k : Int) (w : World) (HG : ∀ w, Calls Tryd.prog 51 #[.int .i64 y] w fun e w' => e = .returned (numv g k) ∧ Below w.heap.size w w') (HF : ∀ w, Calls Tryd.prog 82 #[.int .i64 y, .int .i64 g] w fun e w' => e = .returned (numv n p) ∧ w = w') (HE : ∀ w, Calls Tryd.prog 61 #[.int .i64 n] w fun e w' => e = .returned (.int .i64 r) ∧ w = w') :
    (k = 0 → p ≠ 0 → Calls Tryd.prog 50 #[.int .i64 1, .int .i64 y] w fun e w' => e = .returned (numv 0 p) ∧ Below w.heap.size w w') ∧ (k = 0 → p = 0 → Calls Tryd.prog 50 #[.int .i64 1, .int .i64 y] w fun e w' => e = .returned (numv r 0) ∧ Below w.heap.size w w') := by
  refine ⟨fun hk hp => ?_, fun hk hp => ?_⟩
  · subst hk
    have q : (p != 0) = true := by simp [hp]
    go_enter Tryd.func50, Tryd.ntmps50
    go_wp2_with fail
    refine (eform_any _).mono ?_
    rintro e w1 ⟨rfl, hown, hb1⟩
    go_wp2_with (at_lookup; refine look_fun rfl _ _ rfl lawI Tryd.underlying71 (zeroF _) w.heap.size rfl hown rfl key_one _ at_one has_one ?_)
    refine (HG _).mono ?_
    rintro e w2 ⟨rfl, hb2⟩
    have S2 := Lib.hid (below_on hb1 hb2)
    clear hb1 hb2 hown
    go_wp2_with fail
    refine (HF _).mono ?_
    rintro e wq ⟨rfl, rfl⟩
    go_wp2_with fail
    go_ret2
    exact ⟨rfl, S2.out⟩
  · subst hk
    subst hp
    go_enter Tryd.func50, Tryd.ntmps50
    go_wp2_with fail
    refine (eform_any _).mono ?_
    rintro e w1 ⟨rfl, hown, hb1⟩
    go_wp2_with (at_lookup; refine look_fun rfl _ _ rfl lawI Tryd.underlying71 (zeroF _) w.heap.size rfl hown rfl key_one _ at_one has_one ?_)
    refine (HG _).mono ?_
    rintro e w2 ⟨rfl, hb2⟩
    have S2 := Lib.hid (below_on hb1 hb2)
    clear hb1 hb2 hown
    go_wp2_with fail
    refine (HF _).mono ?_
    rintro e wq ⟨rfl, rfl⟩
    go_wp2_with fail
    refine (HE _).mono ?_
    rintro e wq ⟨rfl, rfl⟩
    go_wp2_with fail
    go_ret2
    exact ⟨rfl, S2.out⟩
theorem eOf_two0 (y g k : Int) (w : World) (HG : ∀ w, Calls Tryd.prog 51 #[.int .i64 y] w fun e w' => e = .returned (numv g k) ∧ Below w.heap.size w w') (q : (k != 0) = true) :
    Calls Tryd.prog 50 #[.int .i64 2, .int .i64 y] w fun e w' => e = .returned (numv 0 k) ∧ Below w.heap.size w w' := by
  go_enter Tryd.func50, Tryd.ntmps50
  go_wp2_with fail
  refine (eform_any _).mono ?_
  rintro e w1 ⟨rfl, hown, hb1⟩
  go_wp2_with (at_lookup; refine look_fun rfl _ _ rfl lawI Tryd.underlying71 (zeroF _) w.heap.size rfl hown rfl key_two _ at_two has_two ?_)
  refine (HG _).mono ?_
  rintro e w2 ⟨rfl, hb2⟩
  have S2 := Lib.hid (below_on hb1 hb2)
  clear hb1 hb2 hown
  go_wp2_with fail
  go_ret2
  exact ⟨rfl, S2.out⟩
theorem eOf_two (y g n p r k : Int) (w : World) (HG : ∀ w, Calls Tryd.prog 51 #[.int .i64 y] w fun e w' => e = .returned (numv g k) ∧ Below w.heap.size w w') (HF : ∀ w, Calls Tryd.prog 83 #[.int .i64 y, .int .i64 g] w fun e w' => e = .returned (numv n p) ∧ Below w.heap.size w w') (HE : ∀ w, Calls Tryd.prog 61 #[.int .i64 n] w fun e w' => e = .returned (.int .i64 r) ∧ w = w') :
    (k = 0 → p ≠ 0 → Calls Tryd.prog 50 #[.int .i64 2, .int .i64 y] w fun e w' => e = .returned (numv 0 p) ∧ Below w.heap.size w w') ∧ (k = 0 → p = 0 → Calls Tryd.prog 50 #[.int .i64 2, .int .i64 y] w fun e w' => e = .returned (numv r 0) ∧ Below w.heap.size w w') := by
  refine ⟨fun hk hp => ?_, fun hk hp => ?_⟩
  · subst hk
    have q : (p != 0) = true := by simp [hp]
    go_enter Tryd.func50, Tryd.ntmps50
    go_wp2_with fail
    refine (eform_any _).mono ?_
    rintro e w1 ⟨rfl, hown, hb1⟩
    go_wp2_with (at_lookup; refine look_fun rfl _ _ rfl lawI Tryd.underlying71 (zeroF _) w.heap.size rfl hown rfl key_two _ at_two has_two ?_)
    refine (HG _).mono ?_
    rintro e w2 ⟨rfl, hb2⟩
    have S2 := Lib.hid (below_on hb1 hb2)
    clear hb1 hb2 hown
    go_wp2_with fail
    refine (HF _).mono ?_
    rintro e w3 ⟨rfl, hb3⟩
    have S2 := Lib.hid (below_on S2.out hb3)
    clear hb3
    go_wp2_with fail
    go_ret2
    exact ⟨rfl, S2.out⟩
  · subst hk
    subst hp
    go_enter Tryd.func50, Tryd.ntmps50
    go_wp2_with fail
    refine (eform_any _).mono ?_
    rintro e w1 ⟨rfl, hown, hb1⟩
    go_wp2_with (at_lookup; refine look_fun rfl _ _ rfl lawI Tryd.underlying71 (zeroF _) w.heap.size rfl hown rfl key_two _ at_two has_two ?_)
    refine (HG _).mono ?_
    rintro e w2 ⟨rfl, hb2⟩
    have S2 := Lib.hid (below_on hb1 hb2)
    clear hb1 hb2 hown
    go_wp2_with fail
    refine (HF _).mono ?_
    rintro e w3 ⟨rfl, hb3⟩
    have S2 := Lib.hid (below_on S2.out hb3)
    clear hb3
    go_wp2_with fail
    refine (HE _).mono ?_
    rintro e wq ⟨rfl, rfl⟩
    go_wp2_with fail
    go_ret2
    exact ⟨rfl, S2.out⟩
theorem epN_at {c y : Int} (h : epE c y = 0) : epN c y = epc c y ∧ epL c y = lab c y := by unfold epN epL; rw [if_pos h, if_pos h]; exact ⟨rfl, rfl⟩
theorem epN_no {c y : Int} (h : epE c y ≠ 0) : epN c y = 0 ∧ epL c y = 0 := by unfold epN epL; rw [if_neg h, if_neg h]; exact ⟨rfl, rfl⟩
theorem eOf_any (c y : Int) (w : World) (hw : (Lit.int .i64 c).wf = true) : Calls Tryd.prog 50 #[.int .i64 c, .int .i64 y] w fun e w' => e = .returned (numv (epN c y) (epE c y)) ∧ Below w.heap.size w w' := by
  have HG := fun w => ggold_any y w
  obtain ⟨g1, g2⟩ := gold_bd y
  by_cases h1 : c = 1
  · subst h1
    cases h : inY y
    · have e : epE 1 y = 1 := by unfold epE; rw [if_pos (by decide), epIn_one, h]; rfl
      rw [(epN_no (by omega)).1, e]
      rw [h] at HG
      exact eOf_one0 y 0 1 w HG (by decide)
    · have e : epE 1 y = 0 := epE_ok (by decide) h
      rw [(epN_at e).1, e]
      rw [h] at HG
      exact (eOf_one y (gold y) (11 * gold y - 3) 0 (ep30 (11 * gold y - 3)) 0 w HG (fun w => ejul_any y (gold y) w g1 g2) (fun w => eof_any _ w)).2 rfl rfl
  · by_cases h2 : c = 2
    · subst h2
      have HF := fun w => egre_any y (gold y) w g1 g2
      cases h : inY y
      · have hg : inG y = false := by
          cases hg : inG y with
          | false => rfl
          | true => have := inG_iff.1 hg; rw [inY_iff.2 (by omega)] at h; cases h
        have e : epE 2 y = 1 := by unfold epE; rw [if_pos (by decide), epIn_two, hg]; rfl
        rw [(epN_no (by omega)).1, e]
        rw [h] at HG
        exact eOf_two0 y 0 1 w HG (by decide)
      · rw [h] at HG
        cases hg : inG y
        · have e : epE 2 y = 1 := by unfold epE; rw [if_pos (by decide), epIn_two, hg]; rfl
          rw [(epN_no (by omega)).1, e]
          rw [hg] at HF
          exact (eOf_two y (gold y) 0 1 (ep30 0) 0 w HG HF (fun w => eof_any _ w)).1 rfl (by omega)
        · have e : epE 2 y = 0 := epE_ok (by decide) hg
          rw [(epN_at e).1, e]
          rw [hg] at HF
          exact (eOf_two y (gold y) (epG y) 0 (ep30 (epG y)) 0 w HG HF (fun w => eof_any _ w)).2 rfl rfl
    · have e : epE c y = 3 := by unfold epE; rw [okC_not h1 h2]; rfl
      rw [(epN_no (by omega)).1, e]
      exact eOf_no c y w hw h1 h2
theorem eLab_no (c y k : Int) (w : World) (HO : ∀ w, Calls Tryd.prog 50 #[.int .i64 c, .int .i64 y] w fun e w' => e = .returned (numv 0 k) ∧ Below w.heap.size w w') (q : (k != 0) = true) : Calls Tryd.prog 40 #[.int .i64 c, .int .i64 y] w fun e w' => e = .returned (numv 0 k) ∧ Below w.heap.size w w' := by
  have S0 := Lib.hid (Below.refl w.heap.size w)
  go_enter Tryd.func40, Tryd.ntmps40
  go_wp2_with fail
  refine (HO _).mono ?_
  rintro e w1 ⟨rfl, hb1⟩
  have S1 := Lib.hid (below_on S0.out hb1)
  clear hb1
  go_wp2_with fail
  go_ret2
  exact ⟨rfl, S1.out⟩
theorem eLab_31 (c y g : Int) (w : World) (HO : ∀ w, Calls Tryd.prog 50 #[.int .i64 c, .int .i64 y] w fun e w' => e = .returned (numv 25 0) ∧ Below w.heap.size w w') (HG : ∀ w, Calls Tryd.prog 51 #[.int .i64 y] w fun e w' => e = .returned (numv g 0) ∧ Below w.heap.size w w') (h : 11 < g) : Calls Tryd.prog 40 #[.int .i64 c, .int .i64 y] w fun e w' => e = .returned (numv 31 0) ∧ Below w.heap.size w w' := by
  have S0 := Lib.hid (Below.refl w.heap.size w)
  go_enter Tryd.func40, Tryd.ntmps40
  go_wp2_with fail
  refine (HO _).mono ?_
  rintro e w1 ⟨rfl, hb1⟩
  have S1 := Lib.hid (below_on S0.out hb1)
  clear hb1
  go_wp2_with fail
  refine (HG _).mono ?_
  rintro e w2 ⟨rfl, hb2⟩
  have S2 := Lib.hid (below_on S1.out hb2)
  clear hb2
  go_wp2_with fail
  go_ret2
  exact ⟨rfl, S2.out⟩
theorem eLab_lo (c y g : Int) (w : World) (HO : ∀ w, Calls Tryd.prog 50 #[.int .i64 c, .int .i64 y] w fun e w' => e = .returned (numv 25 0) ∧ Below w.heap.size w w') (HG : ∀ w, Calls Tryd.prog 51 #[.int .i64 y] w fun e w' => e = .returned (numv g 0) ∧ Below w.heap.size w w') (h : ¬ 11 < g) : Calls Tryd.prog 40 #[.int .i64 c, .int .i64 y] w fun e w' => e = .returned (numv 25 0) ∧ Below w.heap.size w w' := by
  have S0 := Lib.hid (Below.refl w.heap.size w)
  go_enter Tryd.func40, Tryd.ntmps40
  go_wp2_with fail
  refine (HO _).mono ?_
  rintro e w1 ⟨rfl, hb1⟩
  have S1 := Lib.hid (below_on S0.out hb1)
  clear hb1
  go_wp2_with fail
  refine (HG _).mono ?_
  rintro e w2 ⟨rfl, hb2⟩
  have S2 := Lib.hid (below_on S1.out hb2)
  clear hb2
  go_wp2_with fail
  go_ret2
  exact ⟨rfl, S2.out⟩
theorem eLab_pl (c y a g : Int) (w : World) (HO : ∀ w, Calls Tryd.prog 50 #[.int .i64 c, .int .i64 y] w fun e w' => e = .returned (numv a 0) ∧ Below w.heap.size w w') (HG : ∀ w, Calls Tryd.prog 51 #[.int .i64 y] w fun e w' => e = .returned (numv g 0) ∧ Below w.heap.size w w') (q : (a == 25) = false) : Calls Tryd.prog 40 #[.int .i64 c, .int .i64 y] w fun e w' => e = .returned (numv a 0) ∧ Below w.heap.size w w' := by
  have S0 := Lib.hid (Below.refl w.heap.size w)
  go_enter Tryd.func40, Tryd.ntmps40
  go_wp2_with fail
  refine (HO _).mono ?_
  rintro e w1 ⟨rfl, hb1⟩
  have S1 := Lib.hid (below_on S0.out hb1)
  clear hb1
  go_wp2_with fail
  refine (HG _).mono ?_
  rintro e w2 ⟨rfl, hb2⟩
  have S2 := Lib.hid (below_on S1.out hb2)
  clear hb2
  go_wp2_with fail
  go_ret2
  exact ⟨rfl, S2.out⟩
theorem eLab_any (c y : Int) (w : World) (hw : (Lit.int .i64 c).wf = true) : Calls Tryd.prog 40 #[.int .i64 c, .int .i64 y] w fun e w' => e = .returned (numv (epL c y) (epE c y)) ∧ Below w.heap.size w w' := by
  have HO := fun w => eOf_any c y w hw
  by_cases h : epE c y = 0
  · have HG := fun w => ggold_any y w
    obtain ⟨e1, e2⟩ := epN_at h
    rw [e1, h] at HO
    rw [inY_iff.2 (epE_inY h)] at HG
    rw [e2, h]
    unfold lab lbl
    by_cases ha : epc c y = 25
    · rw [ha] at HO ⊢
      by_cases hg : 11 < gold y
      · rw [if_pos ⟨rfl, hg⟩]; exact eLab_31 c y _ w HO HG hg
      · rw [if_neg (fun g => hg g.2)]; exact eLab_lo c y _ w HO HG hg
    · rw [if_neg (fun g => ha g.1)]; exact eLab_pl c y _ _ w HO HG (by rw [beq_eq_false_iff_ne]; exact ha)
  · obtain ⟨e1, e2⟩ := epN_no h
    rw [e1] at HO
    rw [e2]
    exact eLab_no c y _ w HO (by rw [bne_iff_ne]; exact h)

end Go.Proofs.YtnfeihbkemgecaaDoor
