/- The contracts of package epact: the map of formulas, the formulas, epactOf, Of, Label. -/
import Derived.Test.YtoockmlobpegcaaDoorEa
import Derived.Test.YtoockmlobpegcaaDoorKd
import Derived.Maps.OwnSet
namespace Go.Proofs.YtoockmlobpegcaaDoor
open Go.RowKit
open Go.Maps (Keyed int_keyed keyOf_int_mk IsMap)

/-- How a function among a map's elements is told: by its number; nil as -1. -/
def funElem (v : Value) : Option (DataW Unit × List MemPlace) :=
  match v with
  | .func (.func f) a b => if a.size = 0 ∧ b.size = 0 then some (.lit (.int .i64 f), []) else none
  | .nilFunc => some (.lit (.int .i64 (-1)), [])
  | _ => none
theorem funElem_mk (f : Nat) : funElem (.func (.func f) #[] #[]) = some (.lit (.int .i64 f), []) := by simp [funElem]
theorem funElem_inv {v : Value} {f : Nat} {p : List MemPlace} (h : funElem v = some (.lit (.int .i64 f), p)) : v = .func (.func f) #[] #[] := by
  unfold funElem at h
  split at h
  · rename_i g a b
    split at h
    · rename_i hs
      simp only [Option.some.injEq, Prod.mk.injEq, DataW.lit.injEq, Lit.int.injEq, true_and] at h
      have e1 : a = #[] := Array.eq_empty_of_size_eq_zero hs.1
      have e2 : b = #[] := Array.eq_empty_of_size_eq_zero hs.2
      rw [e1, e2, Int.ofNat.inj h.1]
    · cases h
  · simp only [Option.some.injEq, Prod.mk.injEq, DataW.lit.injEq, Lit.int.injEq, true_and] at h
    omega
  · cases h
theorem funElem_nil {v : Value} {p : List MemPlace} (h : funElem v = some (.lit (.int .i64 (-1)), p)) : v = .nilFunc := by
  unfold funElem at h
  split at h
  · split at h
    · simp only [Option.some.injEq, Prod.mk.injEq, DataW.lit.injEq, Lit.int.injEq, true_and] at h
      omega
    · cases h
  · rfl
  · cases h

/-- The operation that a map literal is written by. -/
theorem insert_own {H : Type} {P : Program} {u : World} {ops : Array Oper} {rest : List Oper} {o : Oper} {a : Act} {Q : Exit → Act → World → Prop}
    (hg : o.guard = none) {t : TypeId} {m x v : Operand} (hop : o.op = Op.insert t m x v) {k e : TypeId} (K : Keyed P k) (ht : P.underlying t = some (.map k e))
    {R : Value → Option (DataW H × List MemPlace)} (b : Nat) {n : Nat} {D : DataW H} (hm : a.eval m = .map (some b)) (hown : u.ownsMap P k R b n D) (hn : n < maxLen)
    {key : Value} (hx : a.eval x = key) {kl : Lit} (hkey : keyOf P k key = some kl) {val : Value} (hv : a.eval v = val) {d : DataW H} {ps : List MemPlace} (hval : R val = some (d, ps))
    (hK : ∀ u', u'.ownsMap P k R b (n + 1) (D.put kl d) → u.grownBy u' (some b) → wpList P ops Q rest (a.put o.dst undef) u') : wpList P ops Q (o :: rest) a u := by
  obtain ⟨u', hr, h1, h2⟩ := hown.update K ht hn hkey hval
  refine wpList_plain hg fun _ hk => ?_
  unfold Oper.wp
  simp [execOp, hop, hm, hx, hv, hr, Result.andThen]
  exact hk _ _ (hK u' h1 h2)

/-- A function looked up in a map of functions. -/
theorem look_fun {P : Program} {u : World} {ops : Array Oper} {rest : List Oper} {o : Oper} {a : Act} {Q : Exit → Act → World → Prop}
    (hg : o.guard = none) (m x : Operand) {t : TypeId} (hop : o.op = Op.lookup t m x true) {k e : TypeId} (K : Keyed P k) (ht : P.underlying t = some (.map k e)) (hz : (zeroValue e).run P u = .ok .nilFunc u)
    (b : Nat) {n : Nat} {D : DataW Unit} (hm : a.eval m = .map (some b)) (hown : u.ownsMap P k funElem b n D) {key : Value} {kl : Lit} (hx : a.eval x = key) (hkey : keyOf P k key = some kl)
    (f : Nat) (hat : D.atKey kl (.lit (.int .i64 (-1))) = .lit (.int .i64 f)) (hhas : Maps.has D kl = true)
    (hK : wpList P ops Q rest (a.put o.dst (.tuple #[.func (.func f) #[] #[], .bool true])) u) : wpList P ops Q (o :: rest) a u :=
  wpList_lookup_own_ok u hg m x t hop k e K ht funElem hz (.lit (.int .i64 (-1))) [] rfl b n D hm hown key kl hx hkey (fun v ps hv => by
    rw [hat] at hv
    obtain rfl := funElem_inv hv
    rw [hhas]
    exact hK)
abbrev D0 : DataW Unit := .map []
abbrev D1 : DataW Unit := D0.put (.int .i64 1) (.lit (.int .i64 27))
abbrev D2 : DataW Unit := D1.put (.int .i64 2) (.lit (.int .i64 28))
theorem lawI : Keyed Tryd.prog 3 := int_keyed Tryd.underlying3
theorem zeroF (w : World) : (zeroValue 33).run Tryd.prog w = .ok .nilFunc w := by kernel_rfl

theorem eform_any (w : World) : Calls Tryd.prog 18 #[] w fun e w' => e = .returned (.map (some w.heap.size)) ∧ w'.ownsMap Tryd.prog 3 funElem w.heap.size 2 D2 ∧ Below w.heap.size w w' := by
  have hmm := @run_makeMap Tryd.prog
  have k1 : keyOf Tryd.prog 3 (.int .i64 1) = some (.int .i64 1) := keyOf_int_mk Tryd.underlying3 (by decide)
  have k2 : keyOf Tryd.prog 3 (.int .i64 2) = some (.int .i64 2) := keyOf_int_mk Tryd.underlying3 (by decide)
  have o0 := World.ownsMap_made w Tryd.prog 3 funElem
  have b0 : Below w.heap.size w (w.alloc (.map #[] 0)) := (Below.refl _ _).alloc (Nat.le_refl _) _
  go_enter Tryd.func18, Tryd.ntmps18
  go_wp2_with (first
    | (refine insert_own rfl rfl lawI Tryd.underlying35 w.heap.size rfl o1 (by unfold maxLen; omega) rfl k2 rfl (funElem_mk _) ?_; intro u2 o2 g2)
    | (refine insert_own rfl rfl lawI Tryd.underlying35 w.heap.size rfl o0 (by unfold maxLen; omega) rfl k1 rfl (funElem_mk _) ?_; intro u1 o1 g1))
  go_ret
  have b1 := b0.grown g1 b0.size (fun k h => by cases h; exact Nat.le_refl _)
  exact ⟨rfl, o2, b1.grown g2 b1.size (fun k h => by cases h; exact Nat.le_refl _)⟩

theorem ejul_any (y n : Int) (w : World) (h1 : 1 ≤ n) (h2 : n ≤ 19) : Calls Tryd.prog 27 #[.int .i64 y, .int .i64 n] w fun e w' => e = .returned (numv (11 * n - 3) 0) ∧ w = w' := by
  go_enter Tryd.func27, Tryd.ntmps27
  go_wp2
  go_ret2
  exact ⟨rfl, rfl⟩
theorem egre_in (y n s l : Int) (w : World) (h1 : 1 ≤ n) (h2 : n ≤ 19) (s1 : 0 ≤ s) (s2 : s ≤ 10000000) (l1 : 0 ≤ l) (l2 : l ≤ 10000000)
    (HS : ∀ w, Calls Tryd.prog 34 #[.int .i64 y] w fun e w' => e = .returned (numv s 0) ∧ Below w.heap.size w w') (HL : ∀ w, Calls Tryd.prog 35 #[.int .i64 y] w fun e w' => e = .returned (numv l 0) ∧ Below w.heap.size w w') :
    Calls Tryd.prog 28 #[.int .i64 y, .int .i64 n] w fun e w' => e = .returned (numv (11 * n + 20 + l - s) 0) ∧ Below w.heap.size w w' := by
  have S0 := Lib.hid (Below.refl w.heap.size w)
  go_enter Tryd.func28, Tryd.ntmps28
  go_wp2_with fail
  refine (HS _).mono ?_
  rintro e w1 ⟨rfl, hb1⟩
  have S1 := Lib.hid (below_on S0.out hb1)
  clear hb1
  go_wp2_with fail
  refine (HL _).mono ?_
  rintro e w2 ⟨rfl, hb2⟩
  have S2 := Lib.hid (below_on S1.out hb2)
  clear hb2
  go_wp2_with fail
  go_ret2
  exact ⟨rfl, S2.out⟩
theorem egre_out (y n : Int) (w : World) (HS : ∀ w, Calls Tryd.prog 34 #[.int .i64 y] w fun e w' => e = .returned (numv 0 1) ∧ Below w.heap.size w w') :
    Calls Tryd.prog 28 #[.int .i64 y, .int .i64 n] w fun e w' => e = .returned (numv 0 1) ∧ Below w.heap.size w w' := by
  have S0 := Lib.hid (Below.refl w.heap.size w)
  go_enter Tryd.func28, Tryd.ntmps28
  go_wp2_with fail
  refine (HS _).mono ?_
  rintro e w1 ⟨rfl, hb1⟩
  have S1 := Lib.hid (below_on S0.out hb1)
  clear hb1
  go_wp2_with fail
  go_ret2
  exact ⟨rfl, S1.out⟩
theorem egre_any (y n : Int) (w : World) (h1 : 1 ≤ n) (h2 : n ≤ 19) : Calls Tryd.prog 28 #[.int .i64 y, .int .i64 n] w fun e w' => e = .returned (numv (vB (inG y) (11 * n + 20 + lunr y - solr y)) (eB (inG y))) ∧ Below w.heap.size w w' := by
  have HS := fun w => gsolr_any y w
  have HL := fun w => glunr_any y w
  cases h : inG y
  · rw [h] at HS; exact egre_out y n w HS
  · rw [h] at HS HL
    obtain ⟨g1, g2⟩ := inG_iff.1 h
    obtain ⟨s1, s2⟩ := solr_bd g1 g2
    obtain ⟨l1, l2⟩ := lunr_bd g1 g2
    exact egre_in y n _ _ w h1 h2 s1 s2 l1 l2 HS HL
theorem eof_lo (n : Int) (w : World) (b1 : -30 < n.tmod 30) (h : n.tmod 30 ≤ 0) : Calls Tryd.prog 20 #[.int .i64 n] w fun e w' => e = .returned (.int .i64 (n.tmod 30 + 30)) ∧ w = w' := by
  generalize hr : n.tmod 30 = r at *
  go_enter Tryd.func20, Tryd.ntmps20
  go_wp2
  go_ret
  exact ⟨rfl, rfl⟩
theorem eof_hi (n : Int) (w : World) (h : ¬ n.tmod 30 ≤ 0) : Calls Tryd.prog 20 #[.int .i64 n] w fun e w' => e = .returned (.int .i64 (n.tmod 30)) ∧ w = w' := by
  generalize hr : n.tmod 30 = r at *
  go_enter Tryd.func20, Tryd.ntmps20
  go_wp2
  go_ret
  exact ⟨rfl, rfl⟩
theorem tm30 (n : Int) : (0 ≤ n ∧ n.tmod 30 = n % 30) ∨ (n < 0 ∧ n.tmod 30 = - ((- n) % 30)) := by
  rcases Int.lt_or_le n 0 with h | h
  · right
    refine ⟨h, ?_⟩
    have : n.tmod 30 = - ((-n).tmod 30) := by rw [Int.neg_tmod, Int.neg_neg]
    rw [this, Int.tmod_eq_emod_of_nonneg (by omega)]
  · left; exact ⟨h, Int.tmod_eq_emod_of_nonneg h⟩
theorem eof_any (n : Int) (w : World) : Calls Tryd.prog 20 #[.int .i64 n] w fun e w' => e = .returned (.int .i64 (ep30 n)) ∧ w = w' := by
  have t := tm30 n
  by_cases h : n.tmod 30 ≤ 0
  · have e : n.tmod 30 + 30 = ep30 n := by unfold ep30; split <;> omega
    have := eof_lo n w (by omega) h
    rwa [e] at this
  · have e : n.tmod 30 = ep30 n := by unfold ep30; split <;> omega
    have := eof_hi n w h
    rwa [e] at this

/-! Of: each calendar's formula is looked up in the map. -/
theorem eOf_no (c y : Int) (w : World) (hw : (Lit.int .i64 c).wf = true) (h1 : ¬ c = 1) (h2 : ¬ c = 2) : Calls Tryd.prog 9 #[.int .i64 c, .int .i64 y] w fun e w' => e = .returned (numv 0 3) ∧ Below w.heap.size w w' := by
  have hkey : keyOf Tryd.prog 3 (.int .i64 c) = some (.int .i64 c) := keyOf_int_mk Tryd.underlying3 hw
  have n2 : (Lit.int .i64 c) ≠ Lit.int .i64 2 := fun h => by injection h; omega
  have n1 : (Lit.int .i64 c) ≠ Lit.int .i64 1 := fun h => by injection h; omega
  have hno : Maps.has D2 (.int .i64 c) = false := by rw [Maps.has_put_other n2, Maps.has_put_other n1]; rfl
  go_enter Tryd.func9, Tryd.ntmps9
  go_wp2_with fail
  refine (eform_any _).mono ?_
  rintro e w1 ⟨rfl, hown, hb1⟩
  go_wp2_with (at_lookup; refine wpList_lookup_own_ok _ rfl _ _ 35 rfl 3 33 lawI Tryd.underlying35 funElem (zeroF _) (.lit (.int .i64 (-1))) [] rfl w.heap.size 2 D2 rfl hown _ _ rfl hkey ?_; intro v ps hv; rw [hno])
  go_ret2
  exact ⟨rfl, hb1⟩
theorem key_one : keyOf Tryd.prog 3 (.int .i64 1) = some (.int .i64 1) := keyOf_int_mk Tryd.underlying3 (by decide)
theorem has_one : Maps.has D2 (.int .i64 1) = true := rfl
theorem at_one : D2.atKey (.int .i64 1) (.lit (.int .i64 (-1))) = .lit (.int .i64 (27 : Nat)) := rfl
theorem key_two : keyOf Tryd.prog 3 (.int .i64 2) = some (.int .i64 2) := keyOf_int_mk Tryd.underlying3 (by decide)
theorem has_two : Maps.has D2 (.int .i64 2) = true := rfl
theorem at_two : D2.atKey (.int .i64 2) (.lit (.int .i64 (-1))) = .lit (.int .i64 (28 : Nat)) := rfl
end Go.Proofs.YtoockmlobpegcaaDoor
