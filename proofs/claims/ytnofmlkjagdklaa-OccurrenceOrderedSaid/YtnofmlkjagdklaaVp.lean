/- Package occurrence as it landed: the map of adders (closures over the lists of a result), addTo, policyOf. -/
import Derived.Test.YtnofmlkjagdklaaVo
import Derived.Test.YtnofmlkjagdklaaK2
import Derived.Maps.Own
import Derived.Maps.OwnSet
import Derived.Maps.Views
namespace Go.Proofs.Ytnofmlkjagdklaa
open Go.RowKit Go.Maps

/-! how an adder among the map's elements is told: by the box that holds the pointer to its list -/
abbrev adF (b : Nat) : Value := .func (.func 43) #[] #[.pointer (some ⟨b, 0, none⟩)]
open Classical in
noncomputable def adElem (v : Value) : Option (DataW Unit × List MemPlace) :=
  if h : ∃ b : Nat, v = adF b then some (.lit (.int .i64 (Classical.choose h : Nat)), []) else if v = .nilFunc then some (.lit (.int .i64 (-1)), []) else none
theorem adF_inj {a b : Nat} (h : adF a = adF b) : a = b := by
  simpa [adF] using h
theorem adElem_mk (b : Nat) : adElem (adF b) = some (.lit (.int .i64 b), []) := by
  have h : ∃ c : Nat, adF b = adF c := ⟨b, rfl⟩
  unfold adElem
  rw [dif_pos h, ← adF_inj (Classical.choose_spec h)]
theorem adElem_nil : adElem .nilFunc = some (.lit (.int .i64 (-1)), []) := by
  unfold adElem
  rw [dif_neg (fun ⟨b, h⟩ => by cases h), if_pos rfl]
theorem adElem_inv {v : Value} {b : Nat} {p : List MemPlace} (h : adElem v = some (.lit (.int .i64 b), p)) : v = adF b := by
  unfold adElem at h
  split at h
  · rename_i hx
    simp only [Option.some.injEq, Prod.mk.injEq, DataW.lit.injEq, Lit.int.injEq, true_and] at h
    have e := Classical.choose_spec hx
    rw [Int.ofNat.inj h.1] at e
    exact e
  · split at h
    · simp only [Option.some.injEq, Prod.mk.injEq, DataW.lit.injEq, Lit.int.injEq, true_and] at h
      omega
    · cases h
theorem lawAd : Keyed Try.prog 3 := int_keyed Try.underlying3
theorem zeroAd (w : World) : (zeroValue 79).run Try.prog w = .ok .nilFunc w := by kernel_rfl
abbrev kAd (k : Int) : Lit := .int .i64 k
theorem kAd_ok {k : Int} : WideAt.IsKeyLit (kAd k) := by trivial
/-- What the map of adders reads as: of each policy that has been put in, its box. -/
structure AdD (b1 b2 b3 : Nat) (j1 j2 j3 : Bool) (D : DataW Unit) : Prop where
  m : IsMap D
  a1 : j1 = true → D.atKey (kAd 1) (.lit (.int .i64 (-1))) = .lit (.int .i64 b1) ∧ Maps.has D (kAd 1) = true
  a2 : j2 = true → D.atKey (kAd 2) (.lit (.int .i64 (-1))) = .lit (.int .i64 b2) ∧ Maps.has D (kAd 2) = true
  a3 : j3 = true → D.atKey (kAd 3) (.lit (.int .i64 (-1))) = .lit (.int .i64 b3) ∧ Maps.has D (kAd 3) = true
theorem AdD.zero (b1 b2 b3 : Nat) : AdD b1 b2 b3 false false false (.map []) := ⟨isMap_empty, fun h => (by cases h), fun h => (by cases h), fun h => (by cases h)⟩
theorem AdD.put1 {b1 b2 b3 : Nat} {j1 j2 j3 : Bool} {D : DataW Unit} (h : AdD b1 b2 b3 j1 j2 j3 D) : AdD b1 b2 b3 true j2 j3 (D.put (kAd 1) (.lit (.int .i64 b1))) :=
  ⟨h.m.put _ _, fun _ => ⟨atKey_put_same h.m kAd_ok _ _, has_put_same h.m kAd_ok _⟩, fun e => ⟨by rw [atKey_put_other (by simp)]; exact (h.a2 e).1, by rw [has_put_other (by simp)]; exact (h.a2 e).2⟩, fun e => ⟨by rw [atKey_put_other (by simp)]; exact (h.a3 e).1, by rw [has_put_other (by simp)]; exact (h.a3 e).2⟩⟩
theorem AdD.put2 {b1 b2 b3 : Nat} {j1 j2 j3 : Bool} {D : DataW Unit} (h : AdD b1 b2 b3 j1 j2 j3 D) : AdD b1 b2 b3 j1 true j3 (D.put (kAd 2) (.lit (.int .i64 b2))) :=
  ⟨h.m.put _ _, fun e => ⟨by rw [atKey_put_other (by simp)]; exact (h.a1 e).1, by rw [has_put_other (by simp)]; exact (h.a1 e).2⟩, fun _ => ⟨atKey_put_same h.m kAd_ok _ _, has_put_same h.m kAd_ok _⟩, fun e => ⟨by rw [atKey_put_other (by simp)]; exact (h.a3 e).1, by rw [has_put_other (by simp)]; exact (h.a3 e).2⟩⟩
theorem AdD.put3 {b1 b2 b3 : Nat} {j1 j2 j3 : Bool} {D : DataW Unit} (h : AdD b1 b2 b3 j1 j2 j3 D) : AdD b1 b2 b3 j1 j2 true (D.put (kAd 3) (.lit (.int .i64 b3))) :=
  ⟨h.m.put _ _, fun e => ⟨by rw [atKey_put_other (by simp)]; exact (h.a1 e).1, by rw [has_put_other (by simp)]; exact (h.a1 e).2⟩, fun e => ⟨by rw [atKey_put_other (by simp)]; exact (h.a2 e).1, by rw [has_put_other (by simp)]; exact (h.a2 e).2⟩, fun _ => ⟨atKey_put_same h.m kAd_ok _ _, has_put_same h.m kAd_ok _⟩⟩

/-! the closures -/
theorem ad_mk (p : Addr) (u : World) : Calls Try.prog 42 #[.pointer (some p)] u fun e w' => e = .returned (adF u.heap.size) ∧ w' = u.alloc (.cells #[.pointer (some p)] 78) := by
  have hmf := mk_func
  go_enter Try.func42, Try.ntmps42
  go_wp2
  go_ret
  exact ⟨rfl, rfl⟩
theorem p21po_out (v0 v1 : Value) (A2 : Option Addr) (n c2 : Nat) (i : Int) (W : World) (hi : i < 0 ∨ (n : Int) ≤ i) : Calls Try.prog 33 #[.agg #[v0, v1, .slice A2 n c2], .int .i64 i] W fun e w' => e = .returned (.int .i64 0) ∧ Below W.heap.size W w' := by
  rcases Int.lt_or_le i 0 with h | h
  · have d1 : decide (i < 0) = true := decide_eq_true h
    go_enter Try.func33, Try.ntmps33
    go_wp2
    go_ret
    exact ⟨rfl, (Below.refl _ _).alloc (Nat.le_refl _) _⟩
  · have d1 : decide (i < 0) = false := decide_eq_false (by omega)
    have d2 : decide ((n : Int) ≤ i) = true := decide_eq_true (by omega)
    go_enter Try.func33, Try.ntmps33
    go_wp2
    go_ret
    exact ⟨rfl, (Below.refl _ _).alloc (Nat.le_refl _) _⟩
theorem p21po_in (v0 v1 : Value) (b o : Nat) (n c2 k : Nat) (t : Itm) (W : World) (hk : k < n) (hb : b < W.heap.size) (hit : ItmAt W b (o + k * 9) t) : Calls Try.prog 33 #[.agg #[v0, v1, .slice (some ⟨b, o, none⟩) n c2], .int .i64 k] W fun e w' => e = .returned (.int .i64 t.y) ∧ Below W.heap.size W w' := by
  have HI := Lib.hid (hit.on ((Below.refl W.heap.size W).alloc (Nat.le_refl _) (.cells #[v0, v1, .slice (some ⟨b, o, none⟩) n c2] 25)) hb)
  obtain ⟨d1, d2, dy, e0, e1, e2, e3, e4, e5⟩ := t
  obtain ⟨g0, g1, g2, -, -, -, -, -, -⟩ := HI.out.nine
  clear hit
  have k1 : decide ((k : Int) < 0) = false := decide_eq_false (by omega)
  have k2 : decide ((n : Int) ≤ (k : Int)) = false := decide_eq_false (by omega)
  go_enter Try.func33, Try.ntmps33
  go_wp2
  go_ret
  exact ⟨rfl, (Below.refl _ _).alloc (Nat.le_refl _) _⟩
theorem p21dp_any (p : Int) (W : World) : Calls Try.prog 35 #[.int .i64 p] W fun e w' => e = .returned (.int .i64 (if p = 3 then 3 else 2)) ∧ W = w' := by
  by_cases h : p = 3
  · subst h
    go_enter Try.func35, Try.ntmps35
    go_wp2
    go_ret
    exact ⟨rfl, rfl⟩
  · have d : (p == 3) = false := beq_eq_false_iff_ne.2 h
    rw [if_neg h]
    go_enter Try.func35, Try.ntmps35
    go_wp2
    go_ret
    exact ⟨rfl, rfl⟩
end Go.Proofs.Ytnofmlkjagdklaa
