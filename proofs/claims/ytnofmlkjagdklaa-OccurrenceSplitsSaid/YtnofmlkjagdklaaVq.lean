/- Package occurrence: the map of adders is made (a region in which the map and the inserts float). -/
import Derived.Test.YtnofmlkjagdklaaVp
import Derived.Test.YtnofmlkjagdklaaVh
namespace Go.Proofs.Ytnofmlkjagdklaa
open Go.RowKit Go.Maps

noncomputable def adO (f : Func) : Array Oper := match f.body with | some (.seq _ (.seq _ (.seq (.region _ ops _) _))) => ops | _ => #[]
def adL (m : Bool) (c : Nat) (j2 j3 j1 : Bool) (p : Nat) : Array Bool := #[m, true, true, true, true, decide (1 ≤ c), j2, true, true, true, true, decide (2 ≤ c), j3, true, true, true, true, decide (3 ≤ c), j1, decide (1 ≤ p), decide (2 ≤ p)]
def adR (m : Bool) (c : Nat) (j2 j3 j1 : Bool) (p : Nat) : List Nat := (if m = false then [0] else []) ++ (if c = 0 then [5] else []) ++ (if m = true ∧ 1 ≤ c ∧ j2 = false then [6] else []) ++ (if c = 1 then [11] else []) ++ (if m = true ∧ 2 ≤ c ∧ j3 = false then [12] else []) ++ (if c = 2 then [17] else []) ++ (if m = true ∧ 3 ≤ c ∧ j1 = false then [18] else []) ++ (if j2 = true ∧ j3 = true ∧ j1 = true ∧ p = 0 then [19] else []) ++ (if p = 1 then [20] else [])
def adK (m : Bool) (c : Nat) (j2 j3 j1 : Bool) (p : Nat) : Bool := (!j2 || (m && decide (1 ≤ c))) && (!j3 || (m && decide (2 ≤ c))) && (!j1 || (m && decide (3 ≤ c))) && decide (c ≤ 3) && decide (p ≤ 2) && (decide (p = 0) || (j2 && j3 && j1))
def adT : List Bool := [false, true]
theorem ad_all : (adT.all fun m => [0, 1, 2, 3].all fun c => adT.all fun j2 => adT.all fun j3 => adT.all fun j1 => [0, 1, 2].all fun p => !adK m c j2 j3 j1 p || (Region.ready .any (adO Try.f30) (adL m c j2 j3 j1 p) == adR m c j2 j3 j1 p)) = true := by kernel_rfl
theorem adT_mem (b : Bool) : b ∈ adT := by cases b <;> simp [adT]
theorem ad_eq {m j1 j2 j3 : Bool} {c p : Nat} (h : adK m c j2 j3 j1 p = true) : Region.ready .any (adO Try.f30) (adL m c j2 j3 j1 p) = adR m c j2 j3 j1 p := by
  have hh := h
  simp only [adK, Bool.and_eq_true, decide_eq_true_eq] at hh
  obtain ⟨⟨⟨-, l1⟩, l2⟩, -⟩ := hh
  have mc : c ∈ [0, 1, 2, 3] := by
    have : c = 0 ∨ c = 1 ∨ c = 2 ∨ c = 3 := by omega
    rcases this with rfl | rfl | rfl | rfl <;> simp
  have mp : p ∈ [0, 1, 2] := by
    have : p = 0 ∨ p = 1 ∨ p = 2 := by omega
    rcases this with rfl | rfl | rfl <;> simp
  have := List.all_eq_true.1 (List.all_eq_true.1 (List.all_eq_true.1 (List.all_eq_true.1 (List.all_eq_true.1 (List.all_eq_true.1 ad_all m (adT_mem m)) c mc) j2 (adT_mem j2)) j3 (adT_mem j3)) j1 (adT_mem j1)) p mp
  rw [h] at this
  simpa using this
theorem ad_mem {m j1 j2 j3 : Bool} {c p i : Nat} (h : i ∈ adR m c j2 j3 j1 p) : (i = 0 ∧ m = false) ∨ (i = 5 ∧ c = 0) ∨ (i = 6 ∧ m = true ∧ 1 ≤ c ∧ j2 = false) ∨ (i = 11 ∧ c = 1) ∨ (i = 12 ∧ m = true ∧ 2 ≤ c ∧ j3 = false) ∨ (i = 17 ∧ c = 2) ∨ (i = 18 ∧ m = true ∧ 3 ≤ c ∧ j1 = false) ∨ (i = 19 ∧ j2 = true ∧ j3 = true ∧ j1 = true ∧ p = 0) ∨ (i = 20 ∧ p = 1) := by
  simp only [adR, List.mem_append] at h
  rcases h with (((((((h | h) | h) | h) | h) | h) | h) | h) | h
  all_goals (split at h) <;> simp_all
theorem ad_nil {m j1 j2 j3 : Bool} {c p : Nat} (h : adR m c j2 j3 j1 p = []) (ho : adK m c j2 j3 j1 p = true) : m = true ∧ c = 3 ∧ j2 = true ∧ j3 = true ∧ j1 = true ∧ p = 2 := by
  simp only [adK, Bool.and_eq_true, Bool.or_eq_true, decide_eq_true_eq] at ho
  obtain ⟨⟨⟨-, l1⟩, l2⟩, -⟩ := ho
  simp only [adR, List.append_eq_nil_iff] at h
  obtain ⟨⟨⟨⟨⟨⟨⟨⟨h0, h5⟩, h6⟩, h11⟩, h12⟩, h17⟩, h18⟩, h19⟩, h20⟩ := h
  have em : m = true := by cases m; (simp at h0); rfl
  subst em
  have ec : c = 3 := by
    have e0 : c ≠ 0 := fun e => by simp [e] at h5
    have e1 : c ≠ 1 := fun e => by simp [e] at h11
    have e2 : c ≠ 2 := fun e => by simp [e] at h17
    omega
  subst ec
  have e2 : j2 = true := by cases j2; (simp at h6); rfl
  have e3 : j3 = true := by cases j3; (simp at h12); rfl
  have e1 : j1 = true := by cases j1; (simp at h18); rfl
  subst e1 e2 e3
  have p0 : p ≠ 0 := fun e => by simp [e] at h19
  have p1 : p ≠ 1 := fun e => by simp [e] at h20
  exact ⟨rfl, rfl, rfl, rfl, rfl, by omega⟩
abbrev adA (rb : Nat) (y2 x4 x9 x14 x19 x20 : Value) : Act := { tmps := #[.pointer (some ⟨rb, 0, none⟩), undef, y2, .func (.func 42) #[] #[], x4, .func (.func 42) #[] #[], .pointer (some ⟨rb, 0, none⟩), .pointer (some ⟨rb, 0, none⟩), .pointer (some ⟨rb, 4, none⟩), x9, .func (.func 42) #[] #[], .pointer (some ⟨rb, 0, none⟩), .pointer (some ⟨rb, 0, none⟩), .pointer (some ⟨rb, 5, none⟩), x14, .func (.func 42) #[] #[], .pointer (some ⟨rb, 0, none⟩), .pointer (some ⟨rb, 0, none⟩), .pointer (some ⟨rb, 6, none⟩), x19, x20], defers := [] }
abbrev adB (rb k : Nat) : Obj := .cells #[.pointer (some ⟨rb, k, none⟩)] 78
/-- Where the region stands. -/
structure AdI (w0 : World) (rb : Nat) (m : Bool) (c : Nat) (j2 j3 j1 : Bool) (p : Nat) (y2 x4 x9 x14 x19 x20 : Value) (gm b1 b2 b3 : Nat) (D : DataW Unit) (w : World) : Prop where
  bl : Below w0.heap.size w0 w
  hm : m = true → x4 = .map (some gm) ∧ w0.heap.size ≤ gm ∧ w.ownsMap Try.prog 3 adElem gm (j1.toNat + j2.toNat + j3.toNat) D
  hD : AdD b1 b2 b3 j1 j2 j3 D
  h2 : 1 ≤ c → x9 = adF b2 ∧ w0.heap.size ≤ b2 ∧ w.heap[b2]? = some (adB rb 4)
  h3 : 2 ≤ c → x14 = adF b3 ∧ w0.heap.size ≤ b3 ∧ w.heap[b3]? = some (adB rb 5)
  h1 : 3 ≤ c → x19 = adF b1 ∧ w0.heap.size ≤ b1 ∧ w.heap[b1]? = some (adB rb 6)
  p1 : 1 ≤ p → x20 = x4
  p2 : 2 ≤ p → y2 = x4
def AdS (w0 : World) (rb : Nat) (n : Nat) (L : Array Bool) (a : Act) (w : World) : Prop :=
  ∃ (m : Bool) (c : Nat) (j2 j3 j1 : Bool) (p : Nat) (y2 x4 x9 x14 x19 x20 : Value) (gm b1 b2 b3 : Nat) (D : DataW Unit), adK m c j2 j3 j1 p = true ∧ n + m.toNat + c + j2.toNat + j3.toNat + j1.toNat + p = 9 ∧ L = adL m c j2 j3 j1 p ∧ a = adA rb y2 x4 x9 x14 x19 x20 ∧ AdI w0 rb m c j2 j3 j1 p y2 x4 x9 x14 x19 x20 gm b1 b2 b3 D w
theorem wp_insert {H : Type} {P : Program} {u : World} {o : Oper} {a : Act} {K : Act → World → Prop} {Q : Exit → Act → World → Prop} {t : TypeId} {m x v : Operand} (hop : o.op = Op.insert t m x v) {k e : TypeId} (KK : Keyed P k) (ht : P.underlying t = some (.map k e))
    {R : Value → Option (DataW H × List MemPlace)} {b n : Nat} {D : DataW H} (hm : a.eval m = .map (some b)) (hown : u.ownsMap P k R b n D) (hn : n < maxLen) {key : Value} (hx : a.eval x = key) {kl : Lit} (hkey : keyOf P k key = some kl) {val : Value} (hv : a.eval v = val) {d : DataW H} {ps : List MemPlace} (hval : R val = some (d, ps))
    (hK : ∀ u', u'.ownsMap P k R b (n + 1) (D.put kl d) → u.grownBy u' (some b) → K (a.put o.dst undef) u') : o.wp P a u K Q := by
  obtain ⟨u', hr, h1, h2⟩ := hown.update KK ht hn hkey hval
  unfold Oper.wp
  simp [execOp, hop, hm, hx, hv, hr, Result.andThen]
  exact hK u' h1 h2
theorem AdD.any1 {b1 b2 b3 : Nat} {j2 j3 : Bool} {D : DataW Unit} (h : AdD b1 b2 b3 false j2 j3 D) (b : Nat) : AdD b b2 b3 false j2 j3 D := ⟨h.m, fun e => (by cases e), h.a2, h.a3⟩
theorem AdD.any2 {b1 b2 b3 : Nat} {j1 j3 : Bool} {D : DataW Unit} (h : AdD b1 b2 b3 j1 false j3 D) (b : Nat) : AdD b1 b b3 j1 false j3 D := ⟨h.m, h.a1, fun e => (by cases e), h.a3⟩
theorem AdD.any3 {b1 b2 b3 : Nat} {j1 j2 : Bool} {D : DataW Unit} (h : AdD b1 b2 b3 j1 j2 false D) (b : Nat) : AdD b1 b2 b j1 j2 false D := ⟨h.m, h.a1, h.a2, fun e => (by cases e)⟩
theorem map_row {H : Type} {P : Program} {k : TypeId} {R : Value → Option (DataW H × List MemPlace)} {b g n t : Nat} {cs : Array Value} {D : DataW H} {w w' : World} (hm : w.ownsMap P k R g n D) (hr : w.heap[b]? = some (.cells cs t (0, 0))) (hg : w.grownBy w' (some g)) : w'.heap[b]? = some (.cells cs t (0, 0)) := by
  rw [hg.block b (Array.getElem?_eq_some_iff.1 hr).1 (fun e => ?_)]; exact hr
  obtain ⟨es, cl, h, _⟩ := hm
  obtain rfl : b = g := by simpa using e
  rw [hr] at h
  injection h with h
  cases h
set_option maxRecDepth 100000 in
theorem ad_step (Q : Exit → Act → World → Prop) (w0 : World) (rb n : Nat) (L : Array Bool) (a : Act) (w : World) (h : AdS w0 rb (n + 1) L a w) (i : Nat) (hi : i ∈ Region.ready .any (adO Try.f30) L) :
    wpOp Try.prog (adO Try.f30) Q i (fun a' w' => Below w0.heap.size w0 w' ∧ AdS w0 rb n (L.setIfInBounds i true) a' w') a w := by
  obtain ⟨m, c, j2, j3, j1, p, y2, x4, x9, x14, x19, x20, gm, b1, b2, b3, D, ho, hm, rfl, rfl, V⟩ := h
  rw [ad_eq ho] at hi
  have hoo := ho
  simp only [adK, Bool.and_eq_true, Bool.or_eq_true, decide_eq_true_eq, Bool.not_eq_true'] at hoo
  have k1 : keyOf Try.prog 3 (.int .i64 1) = some (kAd 1) := keyOf_int_mk Try.underlying3 (by decide)
  have k2 : keyOf Try.prog 3 (.int .i64 2) = some (kAd 2) := keyOf_int_mk Try.underlying3 (by decide)
  have k3 : keyOf Try.prog 3 (.int .i64 3) = some (kAd 3) := keyOf_int_mk Try.underlying3 (by decide)
  rcases ad_mem hi with ⟨rfl, rfl⟩ | ⟨rfl, rfl⟩ | ⟨rfl, rfl, hc, rfl⟩ | ⟨rfl, rfl⟩ | ⟨rfl, rfl, hc, rfl⟩ | ⟨rfl, rfl⟩ | ⟨rfl, rfl, hc, rfl⟩ | ⟨rfl, rfl, rfl, rfl, rfl⟩ | ⟨rfl, rfl⟩
  · have hj2 : j2 = false := by cases j2; rfl; simp at hoo
    have hj3 : j3 = false := by cases j3; rfl; simp at hoo
    have hj1 : j1 = false := by cases j1; rfl; simp at hoo
    subst hj1 hj2 hj3
    have hp : p = 0 := by simp at hoo; omega
    subst hp
    have hal := (Below.refl w.heap.size w).alloc (Nat.le_refl _) (.map #[] 0)
    have hmm := @run_makeMap Try.prog
    refine wpOp_step (o := { dst := some 4, op := _, type := _, pos := _, after := _, guard := _ }) rfl (fun K' hK => ?_)
    go_simp
    refine hK _ _ ⟨below_on V.bl hal, true, c, false, false, false, 0, y2, _, x9, x14, x19, x20, w.heap.size, b1, b2, b3, .map [], ho, by simp at hm ⊢; omega, by simp [adL], rfl, below_on V.bl hal, fun _ => ⟨rfl, V.bl.size, World.ownsMap_made _ _ _ _⟩, AdD.zero _ _ _, fun e => ?_, fun e => ?_, fun e => ?_, fun e => absurd e (by decide), fun e => absurd e (by decide)⟩
    · exact ⟨(V.h2 e).1, (V.h2 e).2.1, row_on (V.h2 e).2.2 hal⟩
    · exact ⟨(V.h3 e).1, (V.h3 e).2.1, row_on (V.h3 e).2.2 hal⟩
    · exact ⟨(V.h1 e).1, (V.h1 e).2.1, row_on (V.h1 e).2.2 hal⟩
  · have hj2 : j2 = false := by cases j2; rfl; simp at hoo
    have hj3 : j3 = false := by cases j3; rfl; simp at hoo
    have hj1 : j1 = false := by cases j1; rfl; simp at hoo
    subst hj2 hj3 hj1
    have hp : p = 0 := by simp at hoo; omega
    subst hp
    refine wpOp_step (o := { dst := some 9, op := _, type := _, pos := _, after := _, guard := _ }) rfl (fun K' hK => ?_)
    go_simp
    go_at_call 42
    refine (ad_mk _ _).mono ?_
    rintro e w' ⟨rfl, rfl⟩
    have hal := (Below.refl w.heap.size w).alloc (Nat.le_refl _) (adB rb 4)
    exact hK _ _ ⟨below_on V.bl hal, m, 1, false, false, false, 0, y2, x4, _, x14, x19, x20, gm, b1, w.heap.size, b3, D, by simp [adK], by simp at hm ⊢; omega, by simp [adL], rfl, below_on V.bl hal, fun e => ⟨(V.hm e).1, (V.hm e).2.1, (V.hm e).2.2.alloc _⟩, V.hD.any2 _, fun _ => ⟨rfl, V.bl.size, heap_alloc_new w _⟩, fun e => absurd e (by decide), fun e => absurd e (by decide), fun e => absurd e (by decide), fun e => absurd e (by decide)⟩
  · have hp : p = 0 := by simp at hoo; omega
    subst hp
    obtain ⟨rfl, hg, hown⟩ := V.hm rfl
    obtain ⟨e9, hb, hr⟩ := V.h2 hc
    have t1 := Bool.toNat_lt j1
    have t3 := Bool.toNat_lt j3
    subst e9
    refine wpOp_step (o := { dst := none, op := _, type := _, pos := _, after := _, guard := _ }) rfl (fun K' hK => ?_)
    rw [if_pos (by rfl)]
    refine wp_insert rfl lawAd Try.underlying64 rfl hown (by unfold maxLen; simp; omega) rfl k2 rfl (adElem_mk b2) (fun w' ho' hg' => ?_)
    have hbl := V.bl.grown hg' V.bl.size (fun k e => by cases e; exact hg)
    refine hK _ _ ⟨hbl, true, c, true, j3, j1, 0, y2, _, _, x14, x19, x20, gm, b1, b2, b3, _, ?_, by simp at hm ⊢; omega, by simp [adL], rfl, hbl, fun _ => ⟨rfl, hg, ho'.mono (by simp <;> omega)⟩, V.hD.put2, fun e => ?_, fun e => ?_, fun e => ?_, fun e => absurd e (by decide), fun e => absurd e (by decide)⟩
    · cases j1 <;> cases j3 <;> simp [adK] at ho ⊢ <;> omega
    · exact ⟨(V.h2 e).1, (V.h2 e).2.1, map_row hown (V.h2 e).2.2 hg'⟩
    · exact ⟨(V.h3 e).1, (V.h3 e).2.1, map_row hown (V.h3 e).2.2 hg'⟩
    · exact ⟨(V.h1 e).1, (V.h1 e).2.1, map_row hown (V.h1 e).2.2 hg'⟩
  · have hj3 : j3 = false := by cases j3; rfl; simp at hoo
    have hj1 : j1 = false := by cases j1; rfl; simp at hoo
    subst hj3 hj1
    have hp : p = 0 := by simp at hoo; omega
    subst hp
    refine wpOp_step (o := { dst := some 14, op := _, type := _, pos := _, after := _, guard := _ }) rfl (fun K' hK => ?_)
    go_simp
    go_at_call 42
    refine (ad_mk _ _).mono ?_
    rintro e w' ⟨rfl, rfl⟩
    have hal := (Below.refl w.heap.size w).alloc (Nat.le_refl _) (adB rb 5)
    exact hK _ _ ⟨below_on V.bl hal, m, 2, j2, false, false, 0, y2, x4, x9, _, x19, x20, gm, b1, b2, w.heap.size, D, by simpa [adK] using ho, by simp at hm ⊢; omega, by simp [adL], rfl, below_on V.bl hal, fun e => ⟨(V.hm e).1, (V.hm e).2.1, (V.hm e).2.2.alloc _⟩, V.hD.any3 _, fun _ => ⟨(V.h2 (by decide)).1, (V.h2 (by decide)).2.1, row_on (V.h2 (by decide)).2.2 hal⟩, fun _ => ⟨rfl, V.bl.size, heap_alloc_new w _⟩, fun e => absurd e (by decide), fun e => absurd e (by decide), fun e => absurd e (by decide)⟩
  · have hp : p = 0 := by simp at hoo; omega
    subst hp
    obtain ⟨rfl, hg, hown⟩ := V.hm rfl
    obtain ⟨e9, hb, hr⟩ := V.h3 hc
    have t1 := Bool.toNat_lt j1
    have t2 := Bool.toNat_lt j2
    subst e9
    refine wpOp_step (o := { dst := none, op := _, type := _, pos := _, after := _, guard := _ }) rfl (fun K' hK => ?_)
    rw [if_pos (by rfl)]
    refine wp_insert rfl lawAd Try.underlying64 rfl hown (by unfold maxLen; simp; omega) rfl k3 rfl (adElem_mk b3) (fun w' ho' hg' => ?_)
    have hbl := V.bl.grown hg' V.bl.size (fun k e => by cases e; exact hg)
    refine hK _ _ ⟨hbl, true, c, j2, true, j1, 0, y2, _, x9, _, x19, x20, gm, b1, b2, b3, _, ?_, by simp at hm ⊢; omega, by simp [adL], rfl, hbl, fun _ => ⟨rfl, hg, ho'.mono (by simp <;> omega)⟩, V.hD.put3, fun e => ?_, fun e => ?_, fun e => ?_, fun e => absurd e (by decide), fun e => absurd e (by decide)⟩
    · cases j1 <;> cases j2 <;> simp [adK] at ho ⊢ <;> omega
    · exact ⟨(V.h2 e).1, (V.h2 e).2.1, map_row hown (V.h2 e).2.2 hg'⟩
    · exact ⟨(V.h3 e).1, (V.h3 e).2.1, map_row hown (V.h3 e).2.2 hg'⟩
    · exact ⟨(V.h1 e).1, (V.h1 e).2.1, map_row hown (V.h1 e).2.2 hg'⟩
  · have hj1 : j1 = false := by cases j1; rfl; simp at hoo
    subst hj1
    have hp : p = 0 := by simp at hoo; omega
    subst hp
    refine wpOp_step (o := { dst := some 19, op := _, type := _, pos := _, after := _, guard := _ }) rfl (fun K' hK => ?_)
    go_simp
    go_at_call 42
    refine (ad_mk _ _).mono ?_
    rintro e w' ⟨rfl, rfl⟩
    have hal := (Below.refl w.heap.size w).alloc (Nat.le_refl _) (adB rb 6)
    exact hK _ _ ⟨below_on V.bl hal, m, 3, j2, j3, false, 0, y2, x4, x9, x14, _, x20, gm, w.heap.size, b2, b3, D, by simpa [adK] using ho, by simp at hm ⊢; omega, by simp [adL], rfl, below_on V.bl hal, fun e => ⟨(V.hm e).1, (V.hm e).2.1, (V.hm e).2.2.alloc _⟩, V.hD.any1 _, fun _ => ⟨(V.h2 (by decide)).1, (V.h2 (by decide)).2.1, row_on (V.h2 (by decide)).2.2 hal⟩, fun _ => ⟨(V.h3 (by decide)).1, (V.h3 (by decide)).2.1, row_on (V.h3 (by decide)).2.2 hal⟩, fun _ => ⟨rfl, V.bl.size, heap_alloc_new w _⟩, fun e => absurd e (by decide), fun e => absurd e (by decide)⟩
  · have hp : p = 0 := by simp at hoo; omega
    subst hp
    obtain ⟨rfl, hg, hown⟩ := V.hm rfl
    obtain ⟨e9, hb, hr⟩ := V.h1 hc
    have t2 := Bool.toNat_lt j2
    have t3 := Bool.toNat_lt j3
    subst e9
    refine wpOp_step (o := { dst := none, op := _, type := _, pos := _, after := _, guard := _ }) rfl (fun K' hK => ?_)
    rw [if_pos (by rfl)]
    refine wp_insert rfl lawAd Try.underlying64 rfl hown (by unfold maxLen; simp; omega) rfl k1 rfl (adElem_mk b1) (fun w' ho' hg' => ?_)
    have hbl := V.bl.grown hg' V.bl.size (fun k e => by cases e; exact hg)
    refine hK _ _ ⟨hbl, true, c, j2, j3, true, 0, y2, _, x9, x14, _, x20, gm, b1, b2, b3, _, ?_, by simp at hm ⊢; omega, by simp [adL], rfl, hbl, fun _ => ⟨rfl, hg, ho'.mono (by simp <;> omega)⟩, V.hD.put1, fun e => ?_, fun e => ?_, fun e => ?_, fun e => absurd e (by decide), fun e => absurd e (by decide)⟩
    · cases j2 <;> cases j3 <;> simp [adK] at ho ⊢ <;> omega
    · exact ⟨(V.h2 e).1, (V.h2 e).2.1, map_row hown (V.h2 e).2.2 hg'⟩
    · exact ⟨(V.h3 e).1, (V.h3 e).2.1, map_row hown (V.h3 e).2.2 hg'⟩
    · exact ⟨(V.h1 e).1, (V.h1 e).2.1, map_row hown (V.h1 e).2.2 hg'⟩
  · obtain ⟨rfl, hc⟩ : m = true ∧ c = 3 := by simp [adK] at ho; exact ⟨ho.1.1.2.1, by omega⟩
    subst hc
    have hal := Below.refl w.heap.size w
    refine wpOp_step (o := { dst := some 20, op := _, type := _, pos := _, after := _, guard := _ }) rfl (fun K' hK => ?_)
    obtain ⟨rfl, hg, hown⟩ := V.hm rfl
    go_simp
    exact hK _ _ ⟨V.bl, true, 3, true, true, true, 1, y2, _, x9, x14, x19, _, gm, b1, b2, b3, D, by decide, by simp at hm ⊢; omega, by simp [adL], rfl, V.bl, V.hm, V.hD, V.h2, V.h3, V.h1, fun _ => rfl, fun e => absurd e (by decide)⟩
  · obtain ⟨rfl, rfl, rfl, rfl, hc⟩ : m = true ∧ j2 = true ∧ j3 = true ∧ j1 = true ∧ c = 3 := by simp [adK] at ho; exact ⟨by simp_all, by simp_all, by simp_all, by simp_all, by simp_all; omega⟩
    subst hc
    obtain ⟨rfl, hg, hown⟩ := V.hm rfl
    obtain rfl := V.p1 (by decide)
    refine wpOp_step (o := { dst := some 2, op := _, type := _, pos := _, after := _, guard := _ }) rfl (fun K' hK => ?_)
    go_simp
    exact hK _ _ ⟨V.bl, true, 3, true, true, true, 2, _, _, x9, x14, x19, _, gm, b1, b2, b3, D, by decide, by simp at hm ⊢; omega, by simp [adL], rfl, V.bl, V.hm, V.hD, V.h2, V.h3, V.h1, fun _ => rfl, fun _ => rfl⟩
/-- The map of adders in memory: its block, the boxes of the lists; all between H and T. -/
def Adders (H T rb gm : Nat) (w : World) : Prop := ∃ (b1 b2 b3 : Nat) (D : DataW Unit), w.ownsMap Try.prog 3 adElem gm 3 D ∧ AdD b1 b2 b3 true true true D ∧ w.heap[b2]? = some (adB rb 4) ∧ w.heap[b3]? = some (adB rb 5) ∧ w.heap[b1]? = some (adB rb 6) ∧ (H ≤ gm ∧ gm < T) ∧ (H ≤ b1 ∧ b1 < T) ∧ (H ≤ b2 ∧ b2 < T) ∧ (H ≤ b3 ∧ b3 < T)
theorem Adders.keep {H T rb gm : Nat} {w w' : World} (h : Adders H T rb gm w) (hk : ∀ k, H ≤ k → k < T → w'.heap[k]? = w.heap[k]?) : Adders H T rb gm w' := by
  obtain ⟨b1, b2, b3, D, ⟨es, cl, h0, hr⟩, hD, h2, h3, h1, hg, g1, g2, g3⟩ := h
  exact ⟨b1, b2, b3, D, ⟨es, cl, (hk _ hg.1 hg.2).trans h0, hr⟩, hD, (hk _ g2.1 g2.2).trans h2, (hk _ g3.1 g3.2).trans h3, (hk _ g1.1 g1.2).trans h1, hg, g1, g2, g3⟩
theorem Adders.up {H T T' rb gm : Nat} {w : World} (h : Adders H T rb gm w) (hT : T ≤ T') : Adders H T' rb gm w := by
  obtain ⟨b1, b2, b3, D, h0, hD, h2, h3, h1, hg, g1, g2, g3⟩ := h
  exact ⟨b1, b2, b3, D, h0, hD, h2, h3, h1, ⟨hg.1, by omega⟩, ⟨g1.1, by omega⟩, ⟨g2.1, by omega⟩, ⟨g3.1, by omega⟩⟩
theorem row_lt {b t : Nat} {cs : Array Value} {w : World} (h : w.heap[b]? = some (.cells cs t (0, 0))) : b < w.heap.size := (Array.getElem?_eq_some_iff.1 h).1
set_option maxRecDepth 100000 in
theorem ad_region (Q : Exit → Act → World → Prop) (rb : Nat) (w0 : World) (hq : ∀ c (a : Act) d v w, Q (.panic c) (a.put d v) w → Q (.panic c) a w)
    (hend : ∀ gm x9 x14 x19 w', Below w0.heap.size w0 w' → Adders w0.heap.size w'.heap.size rb gm w' → Q .normal (adA rb (.map (some gm)) (.map (some gm)) x9 x14 x19 (.map (some gm))) w') (id : Nat) :
    (Code.region id (adO Try.f30) true).wp Try.prog Q { tmps := #[.pointer (some ⟨rb, 0, none⟩), undef, .map none, .func (.func 42) #[] #[], undef, undef, undef, undef, undef, undef, undef, undef, undef, undef, undef, undef, undef, undef, undef, undef, undef], defers := [] } w0 := by
  refine wp_region_held_drew (S := fun u => Below w0.heap.size w0 u) (by kernel_rfl) ((Below.refl _ _).drew) (fun hHeld => ?_)
  refine wpAnyH_take (i := 1) (oi := { dst := some 5, op := _, type := _, pos := _, after := _, guard := _ }) (v := ?v_1) rfl (by kernel_rfl) (by kernel_rfl) (by kernel_rfl) (fun c a w h => hq c a _ _ w h) (Or.inl ⟨by rfl, ?hy_1⟩) hHeld ?_
  case hy_1 => (intro w' hSw; (try dsimp only at hSw); go_simp; try with_reducible rfl)
  simp only [Act.put, List.setIfInBounds_toArray, List.set_cons_zero, List.set_cons_succ]
  refine wpAnyH_take (i := 2) (oi := { dst := some 6, op := _, type := _, pos := _, after := _, guard := _ }) (v := ?v_2) rfl (by kernel_rfl) (by kernel_rfl) (by kernel_rfl) (fun c a w h => hq c a _ _ w h) (Or.inl ⟨by rfl, ?hy_2⟩) hHeld ?_
  case hy_2 => (intro w' hSw; (try dsimp only at hSw); go_simp; try with_reducible rfl)
  simp only [Act.put, List.setIfInBounds_toArray, List.set_cons_zero, List.set_cons_succ]
  refine wpAnyH_take (i := 3) (oi := { dst := some 7, op := _, type := _, pos := _, after := _, guard := _ }) (v := ?v_3) rfl (by kernel_rfl) (by kernel_rfl) (by kernel_rfl) (fun c a w h => hq c a _ _ w h) (Or.inl ⟨by rfl, ?hy_3⟩) hHeld ?_
  case hy_3 => (intro w' hSw; (try dsimp only at hSw); go_simp; try with_reducible rfl)
  simp only [Act.put, List.setIfInBounds_toArray, List.set_cons_zero, List.set_cons_succ]
  refine wpAnyH_take (i := 4) (oi := { dst := some 8, op := _, type := _, pos := _, after := _, guard := _ }) (v := ?v_4) rfl (by kernel_rfl) (by kernel_rfl) (by kernel_rfl) (fun c a w h => hq c a _ _ w h) (Or.inl ⟨by rfl, ?hy_4⟩) hHeld ?_
  case hy_4 => (intro w' hSw; (try dsimp only at hSw); go_simp; try with_reducible rfl)
  simp only [Act.put, List.setIfInBounds_toArray, List.set_cons_zero, List.set_cons_succ]
  refine wpAnyH_take (i := 7) (oi := { dst := some 10, op := _, type := _, pos := _, after := _, guard := _ }) (v := ?v_7) rfl (by kernel_rfl) (by kernel_rfl) (by kernel_rfl) (fun c a w h => hq c a _ _ w h) (Or.inl ⟨by rfl, ?hy_7⟩) hHeld ?_
  case hy_7 => (intro w' hSw; (try dsimp only at hSw); go_simp; try with_reducible rfl)
  simp only [Act.put, List.setIfInBounds_toArray, List.set_cons_zero, List.set_cons_succ]
  refine wpAnyH_take (i := 8) (oi := { dst := some 11, op := _, type := _, pos := _, after := _, guard := _ }) (v := ?v_8) rfl (by kernel_rfl) (by kernel_rfl) (by kernel_rfl) (fun c a w h => hq c a _ _ w h) (Or.inl ⟨by rfl, ?hy_8⟩) hHeld ?_
  case hy_8 => (intro w' hSw; (try dsimp only at hSw); go_simp; try with_reducible rfl)
  simp only [Act.put, List.setIfInBounds_toArray, List.set_cons_zero, List.set_cons_succ]
  refine wpAnyH_take (i := 9) (oi := { dst := some 12, op := _, type := _, pos := _, after := _, guard := _ }) (v := ?v_9) rfl (by kernel_rfl) (by kernel_rfl) (by kernel_rfl) (fun c a w h => hq c a _ _ w h) (Or.inl ⟨by rfl, ?hy_9⟩) hHeld ?_
  case hy_9 => (intro w' hSw; (try dsimp only at hSw); go_simp; try with_reducible rfl)
  simp only [Act.put, List.setIfInBounds_toArray, List.set_cons_zero, List.set_cons_succ]
  refine wpAnyH_take (i := 10) (oi := { dst := some 13, op := _, type := _, pos := _, after := _, guard := _ }) (v := ?v_10) rfl (by kernel_rfl) (by kernel_rfl) (by kernel_rfl) (fun c a w h => hq c a _ _ w h) (Or.inl ⟨by rfl, ?hy_10⟩) hHeld ?_
  case hy_10 => (intro w' hSw; (try dsimp only at hSw); go_simp; try with_reducible rfl)
  simp only [Act.put, List.setIfInBounds_toArray, List.set_cons_zero, List.set_cons_succ]
  refine wpAnyH_take (i := 13) (oi := { dst := some 15, op := _, type := _, pos := _, after := _, guard := _ }) (v := ?v_13) rfl (by kernel_rfl) (by kernel_rfl) (by kernel_rfl) (fun c a w h => hq c a _ _ w h) (Or.inl ⟨by rfl, ?hy_13⟩) hHeld ?_
  case hy_13 => (intro w' hSw; (try dsimp only at hSw); go_simp; try with_reducible rfl)
  simp only [Act.put, List.setIfInBounds_toArray, List.set_cons_zero, List.set_cons_succ]
  refine wpAnyH_take (i := 14) (oi := { dst := some 16, op := _, type := _, pos := _, after := _, guard := _ }) (v := ?v_14) rfl (by kernel_rfl) (by kernel_rfl) (by kernel_rfl) (fun c a w h => hq c a _ _ w h) (Or.inl ⟨by rfl, ?hy_14⟩) hHeld ?_
  case hy_14 => (intro w' hSw; (try dsimp only at hSw); go_simp; try with_reducible rfl)
  simp only [Act.put, List.setIfInBounds_toArray, List.set_cons_zero, List.set_cons_succ]
  refine wpAnyH_take (i := 15) (oi := { dst := some 17, op := _, type := _, pos := _, after := _, guard := _ }) (v := ?v_15) rfl (by kernel_rfl) (by kernel_rfl) (by kernel_rfl) (fun c a w h => hq c a _ _ w h) (Or.inl ⟨by rfl, ?hy_15⟩) hHeld ?_
  case hy_15 => (intro w' hSw; (try dsimp only at hSw); go_simp; try with_reducible rfl)
  simp only [Act.put, List.setIfInBounds_toArray, List.set_cons_zero, List.set_cons_succ]
  refine wpAnyH_take (i := 16) (oi := { dst := some 18, op := _, type := _, pos := _, after := _, guard := _ }) (v := ?v_16) rfl (by kernel_rfl) (by kernel_rfl) (by kernel_rfl) (fun c a w h => hq c a _ _ w h) (Or.inl ⟨by rfl, ?hy_16⟩) hHeld ?_
  case hy_16 => (intro w' hSw; (try dsimp only at hSw); go_simp; try with_reducible rfl)
  simp only [Act.put, List.setIfInBounds_toArray, List.set_cons_zero, List.set_cons_succ]
  refine any_keeps (AdS w0 rb) ?_ ?_ ?_ 9 _ _ _ ?_
  · rintro n L a w' ⟨m, c, j2, j3, j1, p, y2, x4, x9, x14, x19, x20, gm, b1, b2, b3, D, ho, hm, rfl, rfl, V⟩ hr
    rw [ad_eq ho] at hr
    obtain ⟨rfl, rfl, rfl, rfl, rfl, rfl⟩ := ad_nil hr ho
    obtain ⟨rfl, hg, hown⟩ := V.hm rfl
    obtain rfl := V.p1 (by decide)
    obtain rfl := V.p2 (by decide)
    obtain ⟨-, g2, r2⟩ := V.h2 (by decide)
    obtain ⟨-, g3, r3⟩ := V.h3 (by decide)
    obtain ⟨-, g1, r1⟩ := V.h1 (by decide)
    exact hend gm _ _ _ w' V.bl ⟨b1, b2, b3, D, hown, V.hD, r2, r3, r1, ⟨hg, hown.lt⟩, ⟨g1, row_lt r1⟩, ⟨g2, row_lt r2⟩, ⟨g3, row_lt r3⟩⟩
  · rintro L a w' ⟨m, c, j2, j3, j1, p, y2, x4, x9, x14, x19, x20, gm, b1, b2, b3, D, ho, hm, rfl, rfl, V⟩
    rw [ad_eq ho]
    simp only [adK, Bool.and_eq_true, Bool.or_eq_true, decide_eq_true_eq] at ho
    have l1 := Bool.toNat_lt m
    have l2 := Bool.toNat_lt j1
    have l3 := Bool.toNat_lt j2
    have l4 := Bool.toNat_lt j3
    obtain ⟨rfl, rfl⟩ : c = 3 ∧ p = 2 := by omega
    obtain rfl : m = true := by cases m; (simp at hm; omega); rfl
    obtain rfl : j1 = true := by cases j1; (simp at hm; omega); rfl
    obtain rfl : j2 = true := by cases j2; (simp at hm; omega); rfl
    obtain rfl : j3 = true := by cases j3; (simp at hm); rfl
    rfl
  · intro n L a w' h i hi
    exact ad_step Q w0 rb n L a w' h i hi
  · refine ⟨false, 0, false, false, false, 0, .map none, undef, undef, undef, undef, undef, 0, 0, 0, 0, .map [], rfl, rfl, by kernel_rfl, rfl, (Below.refl _ _).drew, ?_, AdD.zero _ _ _, ?_, ?_, ?_, ?_, ?_⟩ <;> intro e <;> exact absurd e (by decide)
theorem adders_any (rb : Nat) (u : World) : Calls Try.prog 30 #[.pointer (some ⟨rb, 0, none⟩)] u fun e w' => ∃ gm, e = .returned (.map (some gm)) ∧ Adders u.heap.size w'.heap.size rb gm w' ∧ Below u.heap.size u w' := by
  go_enter Try.func30, Try.ntmps30
  go_wp2_with fail
  refine ad_region _ rb u (fun _ a d _ _ h => by cases d <;> exact h) (fun gm x9 x14 x19 w' hb ha => ?_) _
  go_wp2_with fail
  go_ret
  exact ⟨gm, rfl, ha, hb⟩
end Go.Proofs.Ytnofmlkjagdklaa
