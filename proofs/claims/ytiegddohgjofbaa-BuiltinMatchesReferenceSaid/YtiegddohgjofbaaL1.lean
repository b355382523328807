/- What earlier stages proved: Xa Xb Xc. -/
import Derived.Test.YtiegddohgjofbaaRows
import Derived.OrdersHeld
import Derived.Deep.RegionHeld3
import Derived.Test.YtiegddohgjofbaaKz
import Derived.Maps.AppendAt
import Derived.Deep.AppendLies
namespace Go.Proofs.Ytiegddohgjofbaa

section
variable {P : Program} {ops : Array Oper} {Q : Exit → Act → World → Prop} {md : Region.Mode} {S : World → Prop} {u : Nat}
/-- What is asked of a world while it matters: until u has come up. -/
abbrev till (u : Nat) (S : World → Prop) (l : Array Bool) (w : World) : Prop := l.getD u true = true ∨ S w
/-- Every order from here on ends as Q asks, and S is kept until u has come up. -/
def anyTill (P : Program) (md : Region.Mode) (ops : Array Oper) (Q : Exit → Act → World → Prop) (S : World → Prop) (u : Nat) : Nat → Array Bool → Act → World → Prop
  | 0, l, a, w => Region.ready md ops l = [] ∧ Q .normal a w
  | n + 1, l, a, w => (Region.ready md ops l = [] → Q .normal a w) ∧
      ∀ i ∈ Region.ready md ops l, wpOp P ops Q i (fun b v => till u S (l.setIfInBounds i true) v ∧ anyTill P md ops Q S u n (l.setIfInBounds i true) b v) a w
theorem any_of_till : ∀ (n : Nat) (l : Array Bool) (a : Act) (w : World), anyTill P md ops Q S u n l a w → wpAny P md ops Q n l a w
  | 0, _, _, _, h => h
  | n + 1, _, _, _, h => ⟨h.1, fun i hi => wpOp_mono (fun b v hb => any_of_till n _ b v hb.2) (h.2 i hi)⟩
/-- Number u waits for number i. -/
def waitsFor (md : Region.Mode) (ops : Array Oper) (u i : Nat) : Bool := match ops[u]? with
  | some o => o.after.toList.any fun e => Region.binds md e && decide (e.on = i)
  | none => false
theorem not_ready {i : Nat} {l : Array Bool} (hw : waitsFor md ops u i = true) (hl : l.getD i true = false) : u ∉ Region.ready md ops l := by
  intro h
  obtain ⟨_, o, ho, hall⟩ := mem_ready.1 h
  unfold waitsFor at hw
  rw [ho] at hw
  simp only [List.any_eq_true, Bool.and_eq_true, decide_eq_true_eq] at hw
  obtain ⟨e, he, hb, rfl⟩ := hw
  have h1 := hall e (Array.mem_toList_iff.1 he) hb
  rcases Nat.lt_or_ge e.on l.size with g | g
  · simp [g] at hl h1; rw [hl] at h1; cases h1
  · simp [Array.getElem?_eq_none g] at h1
theorem free_set {i j : Nat} {oi : Oper} {l : Array Bool} (hfree : ∀ k ok, ops[k]? = some ok → k ≠ i → l.getD k true = false → (∀ e ∈ ok.after, Region.binds md e = true → e.on ≠ i) → oi.apart ops ok = true) (hl : l.getD j true = false) :
    ∀ k ok, ops[k]? = some ok → k ≠ i → (l.setIfInBounds j true).getD k true = false → (∀ e ∈ ok.after, Region.binds md e = true → e.on ≠ i) → oi.apart ops ok = true := fun k ok hk hki hun hno => by
  refine hfree k ok hk hki ?_ hno
  by_cases e : j = k
  · subst e; exact hl
  · rwa [getD_set_ne true e] at hun
theorem not_on {i j : Nat} {l : Array Bool} (hr : i ∈ Region.ready md ops l) (hj : j ∈ Region.ready md ops l) : ∃ oj, ops[j]? = some oj ∧ l.getD j true = false ∧ ∀ e ∈ oj.after, Region.binds md e = true → e.on ≠ i := by
  obtain ⟨hjn, oj, hoj, hall⟩ := mem_ready.1 hj
  refine ⟨oj, hoj, hjn, fun e he hb heq => ?_⟩
  have h1 := hall e he hb
  have h0 := (mem_ready.1 hr).1
  rw [heq] at h1
  rcases Nat.lt_or_ge i l.size with g | g
  · simp [g] at h0 h1; rw [h0] at h1; cases h1
  · simp [Array.getElem?_eq_none g] at h1
/-- A load that number u waits for. -/
theorem till_load {i : Nat} {oi : Oper} {v : Value} (hi : ops[i]? = some oi) (hsel : ∀ (j : Nat) (o : Oper) cs b, ops[j]? = some o → o.op ≠ .select cs b)
    (hQ : ∀ c a w, Q (.panic c) (a.put oi.dst v) w → Q (.panic c) a w) (hu : waitsFor md ops u i = true) (hiu : i ≠ u) :
    ∀ (n : Nat) (l : Array Bool) (a : Act) (w : World), l.getD u true = false →
      (∀ j oj, ops[j]? = some oj → j ≠ i → l.getD j true = false → (∀ e ∈ oj.after, Region.binds md e = true → e.on ≠ i) → oi.apart ops oj = true) →
      i ∈ Region.ready md ops l → YieldsIf P ops S oi v a → S w →
      anyTill P md ops Q S u n (l.setIfInBounds i true) (a.put oi.dst v) w → anyTill P md ops Q S u (n + 1) l a w := by
  intro n
  induction n with
  | zero =>
    intro l a w _ _ hr hy hS H
    refine ⟨fun h => absurd hr (by rw [h]; simp), fun j hj => ?_⟩
    by_cases hji : j = i
    · subst hji; exact hy.wpOp hi hS ⟨.inr hS, H⟩
    · have hk := ready_mono hj hji
      rw [H.1] at hk; cases hk
  | succ n ih =>
    intro l a w hlu hfree hr hy hS H
    refine ⟨fun h => absurd hr (by rw [h]; simp), fun j hj => ?_⟩
    by_cases hji : j = i
    · subst hji; exact hy.wpOp hi hS ⟨.inr hS, H⟩
    · have hju : j ≠ u := fun e => not_ready hu (mem_ready.1 hr).1 (e ▸ hj)
      obtain ⟨oj, hoj, hjn, hno⟩ := not_on hr hj
      have hp := wpOp_putIf hoj (hfree j oj hoj hji hjn hno) (fun cs b => hsel i oi cs b hi) (fun cs b => hsel j oj cs b hoj) hQ hy (H.2 j (ready_mono hj hji))
      refine wpOp_mono (fun b v' h3 => ?_) hp
      obtain ⟨h3a, h3b, h3c⟩ := h3
      have e0 : (l.setIfInBounds j true).getD u true = false := by rw [getD_set_ne true hju]; exact hlu
      have e1 : ((l.setIfInBounds i true).setIfInBounds j true).getD u true = false := by rw [getD_set_ne true hju, getD_set_ne true hiu]; exact hlu
      have hSv : S v' := by
        rcases h3b with h3b | h3b
        · rw [e1] at h3b; cases h3b
        · exact h3b
      refine ⟨.inr hSv, ih (l.setIfInBounds j true) b v' e0 (free_set hfree hjn) (ready_mono hr (Ne.symm hji)) h3a hSv ?_⟩
      rw [Array.setIfInBounds_comm _ _ hji]
      exact h3c
/-- An operation that yields its value in whatever world. -/
theorem till_any {i : Nat} {oi : Oper} {v : Value} (hi : ops[i]? = some oi) (hsel : ∀ (j : Nat) (o : Oper) cs b, ops[j]? = some o → o.op ≠ .select cs b)
    (hQ : ∀ c a w, Q (.panic c) (a.put oi.dst v) w → Q (.panic c) a w) (hiu : i ≠ u) :
    ∀ (n : Nat) (l : Array Bool) (a : Act) (w : World),
      (∀ j oj, ops[j]? = some oj → j ≠ i → l.getD j true = false → (∀ e ∈ oj.after, Region.binds md e = true → e.on ≠ i) → oi.apart ops oj = true) →
      i ∈ Region.ready md ops l → YieldsIf P ops (fun _ => True) oi v a → till u S l w →
      anyTill P md ops Q S u n (l.setIfInBounds i true) (a.put oi.dst v) w → anyTill P md ops Q S u (n + 1) l a w := by
  have same : ∀ (l : Array Bool) (w : World), till u S l w → till u S (l.setIfInBounds i true) w := fun l w h => by unfold till; rw [getD_set_ne true hiu]; exact h
  intro n
  induction n with
  | zero =>
    intro l a w _ hr hy hS H
    refine ⟨fun h => absurd hr (by rw [h]; simp), fun j hj => ?_⟩
    by_cases hji : j = i
    · subst hji; exact hy.wpOp hi trivial ⟨same l w hS, H⟩
    · have hk := ready_mono hj hji
      rw [H.1] at hk; cases hk
  | succ n ih =>
    intro l a w hfree hr hy hS H
    refine ⟨fun h => absurd hr (by rw [h]; simp), fun j hj => ?_⟩
    by_cases hji : j = i
    · subst hji; exact hy.wpOp hi trivial ⟨same l w hS, H⟩
    · obtain ⟨oj, hoj, hjn, hno⟩ := not_on hr hj
      have hp := wpOp_putIf hoj (hfree j oj hoj hji hjn hno) (fun cs b => hsel i oi cs b hi) (fun cs b => hsel j oj cs b hoj) hQ hy (H.2 j (ready_mono hj hji))
      refine wpOp_mono (fun b v' h3 => ?_) hp
      obtain ⟨h3a, h3b, h3c⟩ := h3
      rw [Array.setIfInBounds_comm _ _ (Ne.symm hji)] at h3b
      have hSv : till u S (l.setIfInBounds j true) v' := by unfold till at *; rwa [getD_set_ne true hiu] at h3b
      refine ⟨hSv, ih (l.setIfInBounds j true) b v' (free_set hfree hjn) (ready_mono hr (Ne.symm hji)) h3a hSv ?_⟩
      rw [Array.setIfInBounds_comm _ _ hji]
      exact h3c
theorem till_take_load {i : Nat} {oi : Oper} {v : Value} {n : Nat} {l : Array Bool} {a : Act} {w : World} (hi : ops[i]? = some oi) (hs : Region.noSelect ops = true) (hf : Region.free md ops l i = true)
    (hr : (Region.ready md ops l).contains i = true) (hQ : ∀ c a w, Q (.panic c) (a.put oi.dst v) w → Q (.panic c) a w) (hu : waitsFor md ops u i = true) (hiu : i ≠ u) (hlu : l.getD u true = false) (hy : YieldsIf P ops S oi v a) (hS : S w)
    (h : anyTill P md ops Q S u n (l.setIfInBounds i true) (a.put oi.dst v) w) : anyTill P md ops Q S u (n + 1) l a w :=
  till_load hi (Region.noSelect_spec hs) hQ hu hiu n l a w hlu (Region.free_spec hi hf) (by simpa using hr) hy hS h
theorem till_take {i : Nat} {oi : Oper} {v : Value} {n : Nat} {l : Array Bool} {a : Act} {w : World} (hi : ops[i]? = some oi) (hs : Region.noSelect ops = true) (hf : Region.free md ops l i = true)
    (hr : (Region.ready md ops l).contains i = true) (hQ : ∀ c a w, Q (.panic c) (a.put oi.dst v) w → Q (.panic c) a w) (hiu : i ≠ u) (hy : YieldsIf P ops (fun _ => True) oi v a) (hS : till u S l w)
    (h : anyTill P md ops Q S u n (l.setIfInBounds i true) (a.put oi.dst v) w) : anyTill P md ops Q S u (n + 1) l a w :=
  till_any hi (Region.noSelect_spec hs) hQ hiu n l a w (Region.free_spec hi hf) (by simpa using hr) hy hS h
/-- Number i alone may come up. -/
theorem till_one {i : Nat} {o : Oper} {n : Nat} {l : Array Bool} {a : Act} {w : World} (hr : Region.ready md ops l = [i]) (ho : ops[i]? = some o)
    (h : ∀ K' : Act → World → Prop, Shut (∀ b v, till u S (l.setIfInBounds i true) v → anyTill P md ops Q S u n (l.setIfInBounds i true) b v → K' b v) → if Region.wanted o (yielded ops a.tmps) = true then Oper.wp P o a w K' Q else K' (a.put o.dst undef) w) :
    anyTill P md ops Q S u (n + 1) l a w := by
  refine ⟨fun e => (by rw [hr] at e; cases e), fun j hj => ?_⟩
  rw [hr, List.mem_singleton] at hj
  subst hj
  exact wpOp_step ho (fun K' hK => h K' (fun b v h1 h2 => hK b v ⟨h1, h2⟩))
theorem till_done {l : Array Bool} {a : Act} {w : World} (hr : Region.ready md ops l = []) (h : Q .normal a w) : ∀ n, anyTill P md ops Q S u n l a w
  | 0 => ⟨hr, h⟩
  | _ + 1 => ⟨fun _ => h, by rw [hr]; simp⟩
theorem till_start {id : Nat} {a : Act} {w : World} (S : World → Prop) (u : Nat) (hm : P.follows .mixedOrders = true) (h : anyTill P .any ops Q S u ops.size (Array.replicate ops.size false) a w.drew) : (Code.region id ops true).wp P Q a w :=
  wp_region_any hm (any_of_till _ _ _ _ h)
end
end Go.Proofs.Ytiegddohgjofbaa

namespace Go.Proofs.Ytiegddohgjofbaa
open Go.RowKit

def flat9 : List Itm → List Value
  | [] => []
  | t :: ts => .string t.id :: .int .i64 t.x :: .int .i64 t.y :: .int .i64 t.k :: .int .i64 t.m :: .int .i64 t.d :: .int .i64 t.o :: .int .i64 t.w :: .int .i64 t.c :: flat9 ts
theorem flat9_app : ∀ xs ys : List Itm, flat9 (xs ++ ys) = flat9 xs ++ flat9 ys
  | [], _ => rfl
  | x :: xs, ys => by simp [flat9, flat9_app xs ys]
theorem flat9_one : ∀ l : List Itm, ∀ u ∈ flat9 l, u.oneCell' = true
  | [], u, h => by cases h
  | c :: cs, u, h => by
    simp only [flat9, List.mem_cons] at h
    rcases h with rfl | rfl | rfl | rfl | rfl | rfl | rfl | rfl | rfl | h
    · rfl
    · rfl
    · rfl
    · rfl
    · rfl
    · rfl
    · rfl
    · rfl
    · rfl
    · exact flat9_one cs u h
theorem flat9_at : ∀ (l : List Itm) (i : Nat) (c : Itm), l[i]? = some c → ∀ j, j < 9 → (flat9 l)[i * 9 + j]? = c.vals[j]?
  | [], i, x, h, _, _ => by simp at h
  | p :: ps, 0, x, h, j, hj => by
    simp at h; subst h
    match j, hj with
    | 0, _ => rfl
    | 1, _ => rfl
    | 2, _ => rfl
    | 3, _ => rfl
    | 4, _ => rfl
    | 5, _ => rfl
    | 6, _ => rfl
    | 7, _ => rfl
    | 8, _ => rfl
  | p :: ps, i + 1, x, h, j, hj => by
    have := flat9_at ps i x (by simpa using h) j hj
    rw [show (i + 1) * 9 + j = (i * 9 + j) + 1 + 1 + 1 + 1 + 1 + 1 + 1 + 1 + 1 by omega]
    simpa [flat9] using this
/-- An array of items, read as a slice. -/
theorem SlAt.row {w : World} {b : Nat} {l : List Itm} {cs : Array Value} {t : TypeId} {fr : Nat × Nat} (h : w.heap[b]? = some (.cells cs t fr)) (hcs : cs.toList = flat9 l) (hl : l.length ≤ maxLen) : SlAt w (.slice (some ⟨b, 0, none⟩) l.length l.length) l := by
  refine ⟨_, _, rfl, Nat.le_refl _, hl, fun i t hi => ⟨b, 0, rfl, (Array.getElem?_eq_some_iff.1 h).1, fun j hj => ?_⟩⟩
  rw [cell_of_row _ _ _ _ _ _ h, Nat.zero_add, ← flat9_at l i t hi j hj, ← hcs, Array.getElem?_toList]
/-- A slice of items of the call's own. -/
def ItsAt (t : TypeId) (B : Nat) (v : Value) (l : List Itm) (w : World) : Prop := w.ownsRow B t 9 v l.length (flat9 l)
theorem ItsAt.on {t : TypeId} {B : Nat} {v : Value} {xs : List Itm} {w w' : World} (h : ItsAt t B v xs w) (hb : Below w.heap.size w w') : ItsAt t B v xs w' :=
  World.ownsRow.kept h (grown_of_below hb none) (by cases hv : v.ownBlock <;> simp)
theorem ItsAt.al {t : TypeId} {B : Nat} {v : Value} {xs : List Itm} {w : World} (h : ItsAt t B v xs w) (o : Obj) : ItsAt t B v xs (w.alloc o) := h.on ((Below.refl _ _).alloc (Nat.le_refl _) o)
theorem ItsAt.emp (t : TypeId) (B : Nat) (w : World) : ItsAt t B (.slice none 0 0) [] w := World.ownsRow_nil w B _ 9
theorem ItsAt.put {t : TypeId} {B : Nat} {v : Value} {xs : List Itm} {w : World} (h : ItsAt t B v xs w) {p : Addr} (hp : p.block < B) (x : Value) : ItsAt t B v xs (w.setCell p x) := by
  refine World.ownsRow.kept h ⟨rfl, rfl, rfl, by simp, fun k _ hne => heap_setCell_other _ _ _ _ (fun e => hne (by rw [e]))⟩ (row := some p.block) ?_
  rcases h.2 with ⟨rfl, _⟩ | ⟨g, cap, cur, rfl, hb, _⟩
  · exact .inl rfl
  · right; simp [Value.ownBlock]; omega
theorem ItsAt.oth {t1 t2 : TypeId} {B : Nat} {v1 v2 : Value} {xs ys : List Itm} {w w' : World} (h1 : ItsAt t1 B v1 xs w) (h2 : ItsAt t2 B v2 ys w) (hg : w.grownBy w' v2.ownBlock) (ht : t1 ≠ t2) : ItsAt t1 B v1 xs w' := by
  refine World.ownsRow.kept h1 hg ?_
  rcases h1.2 with ⟨rfl, _⟩ | ⟨g, cap, cur, rfl, _, hg1, _⟩
  · exact .inl rfl
  · refine .inr fun e => ?_
    rcases h2.2 with ⟨rfl, _⟩ | ⟨g', cap', cur', rfl, _, hg2, _⟩
    · cases e
    · obtain rfl : g = g' := by simpa [Value.ownBlock] using e
      rw [hg1] at hg2
      injection hg2 with hg2
      injection hg2 with _ h3
      exact ht h3
theorem ItsAt.app {t : TypeId} {B : Nat} {v' : Value} {xs ys : List Itm} {w2 : World} (hown : w2.ownsRow B t 9 v' (xs.length + ys.length) (flat9 xs ++ flat9 ys)) : ItsAt t B v' (xs ++ ys) w2 := by
  rw [ItsAt, List.length_append, flat9_app]
  exact hown
theorem ItsAt.sl {t : TypeId} {B : Nat} {v : Value} {l : List Itm} {w : World} (h : ItsAt t B v l w) : SlAt w v l := by
  rcases h.2 with ⟨rfl, hn⟩ | ⟨g, cap, cur, rfl, hb, hg, hnc, hcm, hcs, htake⟩
  · obtain rfl := List.eq_nil_of_length_eq_zero hn
    exact ⟨none, 0, rfl, Nat.le_refl _, Nat.zero_le _, fun i c hc => by simp at hc⟩
  · have hadd : ∀ j, (⟨g, 0, none⟩ : Addr).add j = ⟨g, j, none⟩ := fun j => by unfold Addr.add; split <;> simp_all
    refine ⟨_, cap, rfl, hnc, hcm, fun i c hi => ⟨g, 0, rfl, (Array.getElem?_eq_some_iff.1 hg).1, fun j hj => ?_⟩⟩
    have e := flat9_at l i c hi j hj
    obtain ⟨x, hx⟩ : ∃ x, c.vals[j]? = some x := ⟨_, Array.getElem?_eq_getElem (by simpa using hj)⟩
    rw [hx] at e ⊢
    have f := World.ownsRow.cells h (g := g) rfl _ x e
    rwa [hadd, ← Nat.zero_add (i * 9 + j), ← Nat.add_assoc] at f
theorem infoSea : (Try.prog.info? 33).map (fun i => (i.zero, i.size, i.bytes)) = some (some (.agg #[.string ⟨#[]⟩, .int .i64 0, .int .i64 0, .int .i64 0, .int .i64 0, .int .i64 0, .int .i64 0, .int .i64 0, .int .i64 0]), 9, 80) := by kernel_rfl
theorem infoFea : (Try.prog.info? 35).map (fun i => (i.zero, i.size, i.bytes)) = some (some (.agg #[.string ⟨#[]⟩, .int .i64 0, .int .i64 0, .int .i64 0, .int .i64 0, .int .i64 0, .int .i64 0, .int .i64 0, .int .i64 0]), 9, 80) := by kernel_rfl
end Go.Proofs.Ytiegddohgjofbaa

namespace Go.Proofs.Ytiegddohgjofbaa
open Go.RowKit

abbrev bs0 : Itm := ⟨⟨#[98, 97, 112, 116, 105, 115, 109, 45, 116, 105, 100, 101]⟩, 5, 8, 3, 1, 8, 0, 1, 1⟩
abbrev bs1 : Itm := ⟨⟨#[108, 101, 110, 116]⟩, 2, 6, 2, 0, 0, (-46), 0, 0⟩
abbrev bs2 : Itm := ⟨⟨#[104, 111, 108, 121, 45, 119, 101, 101, 107]⟩, 1, 1, 2, 0, 0, (-7), 0, 0⟩
abbrev bs3 : Itm := ⟨⟨#[101, 97, 115, 116, 101, 114, 45, 111, 99, 116, 97, 118, 101]⟩, 1, 1, 2, 0, 0, 0, 0, 0⟩
abbrev bs4 : Itm := ⟨⟨#[101, 97, 115, 116, 101, 114, 116, 105, 100, 101]⟩, 2, 8, 2, 0, 0, 8, 0, 0⟩
abbrev bs5 : Itm := ⟨⟨#[111, 114, 100, 105, 110, 97, 114, 121, 45, 116, 105, 109, 101]⟩, 5, 8, 2, 0, 0, 50, 0, 0⟩
abbrev bs6 : Itm := ⟨⟨#[97, 100, 118, 101, 110, 116]⟩, 2, 7, 3, 11, 27, 0, 0, 1⟩
abbrev bs7 : Itm := ⟨⟨#[99, 104, 114, 105, 115, 116, 109, 97, 115]⟩, 3, 6, 1, 12, 25, 0, 0, 0⟩
abbrev bf0 : Itm := ⟨⟨#[109, 97, 114, 121, 45, 109, 111, 116, 104, 101, 114, 45, 111, 102, 45, 103, 111, 100]⟩, 1, 2, 1, 1, 1, 0, 0, 0⟩
abbrev bf1 : Itm := ⟨⟨#[101, 112, 105, 112, 104, 97, 110, 121]⟩, 1, 2, 1, 1, 6, 0, 0, 0⟩
abbrev bf2 : Itm := ⟨⟨#[98, 97, 112, 116, 105, 115, 109, 45, 111, 102, 45, 116, 104, 101, 45, 108, 111, 114, 100]⟩, 2, 3, 3, 1, 7, 0, 0, 1⟩
abbrev bf3 : Itm := ⟨⟨#[99, 111, 110, 118, 101, 114, 115, 105, 111, 110, 45, 111, 102, 45, 112, 97, 117, 108]⟩, 4, 3, 1, 1, 25, 0, 0, 0⟩
abbrev bf4 : Itm := ⟨⟨#[112, 114, 101, 115, 101, 110, 116, 97, 116, 105, 111, 110]⟩, 2, 3, 1, 2, 2, 0, 0, 0⟩
abbrev bf5 : Itm := ⟨⟨#[99, 104, 97, 105, 114, 45, 111, 102, 45, 112, 101, 116, 101, 114]⟩, 4, 2, 1, 2, 22, 0, 0, 0⟩
abbrev bf6 : Itm := ⟨⟨#[106, 111, 115, 101, 112, 104]⟩, 1, 1, 1, 3, 19, 0, 0, 0⟩
abbrev bf7 : Itm := ⟨⟨#[97, 110, 110, 117, 110, 99, 105, 97, 116, 105, 111, 110]⟩, 1, 1, 1, 3, 25, 0, 0, 0⟩
abbrev bf8 : Itm := ⟨⟨#[97, 115, 99, 101, 110, 115, 105, 111, 110]⟩, 1, 2, 2, 0, 0, 39, 0, 0⟩
abbrev bf9 : Itm := ⟨⟨#[112, 101, 110, 116, 101, 99, 111, 115, 116]⟩, 1, 2, 2, 0, 0, 49, 0, 0⟩
abbrev bf10 : Itm := ⟨⟨#[116, 114, 105, 110, 105, 116, 121]⟩, 1, 2, 2, 0, 0, 56, 0, 0⟩
abbrev bf11 : Itm := ⟨⟨#[99, 111, 114, 112, 117, 115, 45, 99, 104, 114, 105, 115, 116, 105]⟩, 1, 2, 2, 0, 0, 60, 0, 0⟩
abbrev bf12 : Itm := ⟨⟨#[115, 97, 99, 114, 101, 100, 45, 104, 101, 97, 114, 116]⟩, 1, 2, 2, 0, 0, 68, 0, 0⟩
abbrev bf13 : Itm := ⟨⟨#[106, 111, 104, 110, 45, 98, 97, 112, 116, 105, 115, 116]⟩, 1, 1, 1, 6, 24, 0, 0, 0⟩
abbrev bf14 : Itm := ⟨⟨#[112, 101, 116, 101, 114, 45, 97, 110, 100, 45, 112, 97, 117, 108]⟩, 1, 1, 1, 6, 29, 0, 0, 0⟩
abbrev bf15 : Itm := ⟨⟨#[116, 114, 97, 110, 115, 102, 105, 103, 117, 114, 97, 116, 105, 111, 110]⟩, 2, 3, 1, 8, 6, 0, 0, 0⟩
abbrev bf16 : Itm := ⟨⟨#[97, 115, 115, 117, 109, 112, 116, 105, 111, 110]⟩, 1, 2, 1, 8, 15, 0, 0, 0⟩
abbrev bf17 : Itm := ⟨⟨#[101, 120, 97, 108, 116, 97, 116, 105, 111, 110, 45, 111, 102, 45, 116, 104, 101, 45, 99, 114, 111, 115, 115]⟩, 2, 3, 1, 9, 14, 0, 0, 0⟩
abbrev bf18 : Itm := ⟨⟨#[97, 108, 108, 45, 115, 97, 105, 110, 116, 115]⟩, 1, 2, 1, 11, 1, 0, 0, 0⟩
abbrev bf19 : Itm := ⟨⟨#[97, 108, 108, 45, 115, 111, 117, 108, 115]⟩, 3, 3, 1, 11, 2, 0, 0, 0⟩
abbrev bf20 : Itm := ⟨⟨#[99, 104, 114, 105, 115, 116, 45, 116, 104, 101, 45, 107, 105, 110, 103]⟩, 1, 3, 3, 11, 20, 0, 0, 1⟩
abbrev bf21 : Itm := ⟨⟨#[97, 110, 100, 114, 101, 119]⟩, 4, 2, 1, 11, 30, 0, 0, 0⟩
abbrev bf22 : Itm := ⟨⟨#[105, 109, 109, 97, 99, 117, 108, 97, 116, 101, 45, 99, 111, 110, 99, 101, 112, 116, 105, 111, 110]⟩, 1, 1, 1, 12, 8, 0, 0, 0⟩
abbrev bf23 : Itm := ⟨⟨#[110, 97, 116, 105, 118, 105, 116, 121]⟩, 1, 2, 1, 12, 25, 0, 0, 0⟩
abbrev bf24 : Itm := ⟨⟨#[115, 116, 101, 112, 104, 101, 110]⟩, 4, 2, 1, 12, 26, 0, 0, 0⟩
def bSs : List Itm := [bs0, bs1, bs2, bs3, bs4, bs5, bs6, bs7]
def bFs : List Itm := [bf0, bf1, bf2, bf3, bf4, bf5, bf6, bf7, bf8, bf9, bf10, bf11, bf12, bf13, bf14, bf15, bf16, bf17, bf18, bf19, bf20, bf21, bf22, bf23, bf24]
def bCat : Cat := ⟨5, bSs, bFs⟩
set_option maxRecDepth 100000 in
theorem bCat_ok : catB bCat = true := by kernel_rfl
theorem r24fixed (m d : Int) (W : World) : Calls Try.prog 22 #[.int .i64 m, .int .i64 d] W fun e w' => e = .returned (.agg #[.int .i64 1, .int .i64 m, .int .i64 d, .int .i64 0, .int .i64 0, .int .i64 0]) ∧ Below W.heap.size W w' := by
  go_enter Try.func22, Try.ntmps22
  go_wp2
  refine bodyPost_ret (v := .agg #[.int .i64 1, .int .i64 m, .int .i64 d, .int .i64 0, .int .i64 0, .int .i64 0]) (by simp [results, Try.results22, go_sem]) rfl ⟨rfl, (Below.refl _ _).alloc (Nat.le_refl _) _⟩
theorem r24paschal (n : Int) (W : World) : Calls Try.prog 20 #[.int .i64 n] W fun e w' => e = .returned (.agg #[.int .i64 2, .int .i64 0, .int .i64 0, .int .i64 n, .int .i64 0, .int .i64 0]) ∧ Below W.heap.size W w' := by
  go_enter Try.func20, Try.ntmps20
  go_wp2
  refine bodyPost_ret (v := .agg #[.int .i64 2, .int .i64 0, .int .i64 0, .int .i64 n, .int .i64 0, .int .i64 0]) (by simp [results, Try.results20, go_sem]) rfl ⟨rfl, (Below.refl _ _).alloc (Nat.le_refl _) _⟩
theorem r24sunday (m d : Int) (W : World) : Calls Try.prog 21 #[.int .i64 m, .int .i64 d] W fun e w' => e = .returned (.agg #[.int .i64 3, .int .i64 m, .int .i64 d, .int .i64 0, .int .i64 0, .int .i64 1]) ∧ Below W.heap.size W w' := by
  go_enter Try.func21, Try.ntmps21
  go_wp2
  refine bodyPost_ret (v := .agg #[.int .i64 3, .int .i64 m, .int .i64 d, .int .i64 0, .int .i64 0, .int .i64 1]) (by simp [results, Try.results21, go_sem]) rfl ⟨rfl, (Below.refl _ _).alloc (Nat.le_refl _) _⟩
theorem r24season (id : ByteArray) (x y k m d o w c : Int) (W : World) : Calls Try.prog 19 #[.string id, .int .i64 x, .int .i64 y, .agg #[.int .i64 k, .int .i64 m, .int .i64 d, .int .i64 o, .int .i64 w, .int .i64 c]] W fun e w' => e = .returned (.agg #[.string id, .int .i64 x, .int .i64 y, .int .i64 k, .int .i64 m, .int .i64 d, .int .i64 o, .int .i64 w, .int .i64 c]) ∧ Below W.heap.size W w' := by
  go_enter Try.func19, Try.ntmps19
  go_wp2
  refine bodyPost_ret (v := .agg #[.string id, .int .i64 x, .int .i64 y, .int .i64 k, .int .i64 m, .int .i64 d, .int .i64 o, .int .i64 w, .int .i64 c]) (by simp [results, Try.results19, go_sem]) rfl ⟨rfl, ((Below.refl _ _).alloc (Nat.le_refl _) _).alloc (by simp) _⟩
theorem r24feast (id : ByteArray) (x y k m d o w c : Int) (W : World) : Calls Try.prog 23 #[.string id, .int .i64 x, .int .i64 y, .agg #[.int .i64 k, .int .i64 m, .int .i64 d, .int .i64 o, .int .i64 w, .int .i64 c]] W fun e w' => e = .returned (.agg #[.string id, .int .i64 x, .int .i64 y, .int .i64 k, .int .i64 m, .int .i64 d, .int .i64 o, .int .i64 w, .int .i64 c]) ∧ Below W.heap.size W w' := by
  go_enter Try.func23, Try.ntmps23
  go_wp2
  refine bodyPost_ret (v := .agg #[.string id, .int .i64 x, .int .i64 y, .int .i64 k, .int .i64 m, .int .i64 d, .int .i64 o, .int .i64 w, .int .i64 c]) (by simp [results, Try.results23, go_sem]) rfl ⟨rfl, ((Below.refl _ _).alloc (Nat.le_refl _) _).alloc (by simp) _⟩
set_option maxHeartbeats 8000000 in
set_option maxRecDepth 100000 in
theorem r24cat_any (W : World) : Calls Try.prog 8 #[] W fun e w' => ∃ vS vF, e = .returned (.agg #[.int .i64 5, vS, vF]) ∧ SlAt w' vS bSs ∧ SlAt w' vF bFs ∧ Below W.heap.size W w' := by
  obtain ⟨iS, hiS, hS0, hS1, hS2⟩ := info_parts infoSea
  obtain ⟨iF, hiF, hF0, hF1, hF2⟩ := info_parts infoFea
  have B0 := Lib.hid (((Below.refl W.heap.size W).alloc (Nat.le_refl _) (catO 0 (.slice none 0 0) (.slice none 0 0))).alloc (by simp) (catO 5 (.slice none 0 0) (.slice none 0 0)))
  have R0 := Lib.hid (row_al (heap_alloc_new W (catO 0 (.slice none 0 0) (.slice none 0 0))) (catO 5 (.slice none 0 0) (.slice none 0 0)))
  have R1 := Lib.hid (show ((W.alloc (catO 0 (.slice none 0 0) (.slice none 0 0))).alloc (catO 5 (.slice none 0 0) (.slice none 0 0))).heap[W.heap.size + 1]? = some (catO 5 (.slice none 0 0) (.slice none 0 0)) by
    have := heap_alloc_new (W.alloc (catO 0 (.slice none 0 0) (.slice none 0 0))) (catO 5 (.slice none 0 0) (.slice none 0 0))
    rwa [show (W.alloc (catO 0 (.slice none 0 0) (.slice none 0 0))).heap.size = W.heap.size + 1 by simp] at this)
  have Z0 := Lib.hid (show W.heap.size + 2 ≤ ((W.alloc (catO 0 (.slice none 0 0) (.slice none 0 0))).alloc (catO 5 (.slice none 0 0) (.slice none 0 0))).heap.size by simp)
  go_enter Try.func8, Try.ntmps8
  go_wp2_with fail
  generalize hU : ((W.alloc (catO 0 (.slice none 0 0) (.slice none 0 0))).alloc (catO 5 (.slice none 0 0) (.slice none 0 0))) = u0 at *
  clear hU
  have LS := Lib.hid (ItsAt.emp 33 (W.heap.size + 2) u0)
  have LF := Lib.hid (ItsAt.emp 35 (W.heap.size + 2) u0)
  refine till_start (fun u => u.heap[W.heap.size + 1]? = some (catO 5 (.slice none 0 0) (.slice none 0 0))) 5 (by kernel_rfl) ?_
  refine till_take (i := 0) (oi := { dst := some 3, op := _, type := _, pos := _, after := _, guard := _ }) (v := ?v1) rfl (by kernel_rfl) (by kernel_rfl) (by kernel_rfl) (fun _ _ _ h => h) (by decide) (Or.inl ⟨by rfl, ?h1⟩) (.inr R1.out) ?_
  case h1 => (intro w _; go_simp; try with_reducible rfl)
  (try simp only [Act.put, List.setIfInBounds_toArray, List.set_cons_zero, List.set_cons_succ])
  refine till_take_load (i := 1) (oi := { dst := some 4, op := _, type := _, pos := _, after := _, guard := _ }) (v := ?v2) rfl (by kernel_rfl) (by kernel_rfl) (by kernel_rfl) (fun _ _ _ h => h) (by kernel_rfl) (by decide) (by kernel_rfl) (Or.inl ⟨by rfl, ?h2⟩) R1.out ?_
  case h2 => (intro w hSw; (try dsimp only at hSw); obtain ⟨s0, s1, s2, t0, t1, t2, tz⟩ := row3 hSw; go_simp; try with_reducible rfl)
  (try simp only [Act.put, List.setIfInBounds_toArray, List.set_cons_zero, List.set_cons_succ])
  refine till_take (i := 2) (oi := { dst := some 5, op := _, type := _, pos := _, after := _, guard := _ }) (v := ?v3) rfl (by kernel_rfl) (by kernel_rfl) (by kernel_rfl) (fun _ _ _ h => h) (by decide) (Or.inl ⟨by rfl, ?h3⟩) (.inr R1.out) ?_
  case h3 => (intro w _; go_simp; try with_reducible rfl)
  (try simp only [Act.put, List.setIfInBounds_toArray, List.set_cons_zero, List.set_cons_succ])
  have C0 := Lib.hid (below_dn (Below.refl u0.heap.size u0) 1)
  have E0 := Lib.hid (show u0.drew.heap[W.heap.size + 1]? = _ from R1.out)
  refine till_one (i := 3) (o := { dst := some 6, op := _, type := _, pos := _, after := _, guard := _ }) (by kernel_rfl) rfl (fun K hK => ?_)
  go_simp
  go_at_call 19
  refine (r24season ⟨#[98, 97, 112, 116, 105, 115, 109, 45, 116, 105, 100, 101]⟩ 5 8 3 1 8 0 1 1 _).mono ?_
  rintro e0 w0 ⟨rfl, hb0⟩
  have E1 := Lib.hid (row_on E0.out hb0)
  have C1 := Lib.hid (below_on C0.out hb0)
  refine hK.out _ _ (.inr E1.out) ?_
  clear hK K hb0 E0
  (try simp only [Act.put, List.setIfInBounds_toArray, List.set_cons_zero, List.set_cons_succ])
  refine till_one (i := 4) (o := { dst := some 7, op := _, type := _, pos := _, after := _, guard := _ }) (by kernel_rfl) rfl (fun K hK => ?_)
  go_simp
  have E := Lib.hid (row_al E1.out (.cells #[.string ⟨#[98, 97, 112, 116, 105, 115, 109, 45, 116, 105, 100, 101]⟩, .int .i64 5, .int .i64 8, .int .i64 3, .int .i64 1, .int .i64 8, .int .i64 0, .int .i64 1, .int .i64 1] 33))
  have C := Lib.hid (C1.out.alloc C1.out.size (.cells #[.string ⟨#[98, 97, 112, 116, 105, 115, 109, 45, 116, 105, 100, 101]⟩, .int .i64 5, .int .i64 8, .int .i64 3, .int .i64 1, .int .i64 8, .int .i64 0, .int .i64 1, .int .i64 1] 33))
  have NW := Lib.hid (World.news_of_block (heap_alloc_new w0 (.cells #[.string ⟨#[98, 97, 112, 116, 105, 115, 109, 45, 116, 105, 100, 101]⟩, .int .i64 5, .int .i64 8, .int .i64 3, .int .i64 1, .int .i64 8, .int .i64 0, .int .i64 1, .int .i64 1] 33)))
  have OW := Lib.hid (LS.out.on C.out)
  have OT := Lib.hid (LF.out.on C.out)
  have ZW := Lib.hid (Nat.le_trans Z0.out C.out.size)
  have Q0 := Lib.hid (row_on R0.out C.out)
  have BW := Lib.hid (below_on B0.out C.out)
  refine hK.out _ _ (.inr E.out) ?_
  clear hK K C E1
  (try simp only [Act.put, List.setIfInBounds_toArray, List.set_cons_zero, List.set_cons_succ])
  refine till_one (i := 5) (o := { dst := some 8, op := _, type := _, pos := _, after := _, guard := _ }) (by kernel_rfl) rfl (fun K hK => ?_)
  rw [if_pos (by rfl)]
  refine wp_append_lies _ _ _ 23 (by rfl) (W.heap.size + 2) 33 iS (.agg #[.string ⟨#[]⟩, .int .i64 0, .int .i64 0, .int .i64 0, .int .i64 0, .int .i64 0, .int .i64 0, .int .i64 0, .int .i64 0]) 9 80 Try.underlying23 hiS hS0 hS1 hS2 rfl (by decide) (.slice none 0 0) 0 (flat9 []) (by rfl) OW.out ⟨w0.heap.size, 0, none⟩ 1 1 (flat9 [bs0]) (by rfl) (by rfl) NW.out (flat9_one [bs0]) (by decide) (by unfold maxLen; omega) (by decide) ZW.out _ rfl ?_
  intro g0 c0 wz hown hgrow _ _
  have EZ := Lib.hid (show wz.heap[W.heap.size + 1]? = some (catO 5 (.slice none 0 0) (.slice none 0 0)) by
    rw [hgrow.block (W.heap.size + 1) (Array.getElem?_eq_some_iff.1 E.out).1 (fun e => absurd (World.ownsRow.lt OW.out _ e.symm).1 (by omega))]; exact E.out)
  have QZ := Lib.hid (show wz.heap[W.heap.size]? = some (catO 0 (.slice none 0 0) (.slice none 0 0)) by
    rw [hgrow.block W.heap.size (Array.getElem?_eq_some_iff.1 Q0.out).1 (fun e => absurd (World.ownsRow.lt OW.out _ e.symm).1 (by omega))]; exact Q0.out)
  have BZ := Lib.hid (BW.out.grown hgrow (Nat.le_trans (by omega) ZW.out) (fun k e => Nat.le_trans (by omega) (World.ownsRow.lt OW.out k e).1))
  have TZ := Lib.hid (ItsAt.oth OT.out OW.out hgrow (by decide))
  have ZZ := Lib.hid (Nat.le_trans ZW.out hgrow.size)
  have OZ := Lib.hid (show ItsAt 33 (W.heap.size + 2) (.slice (some ⟨g0, 0, none⟩) 1 c0) [bs0] wz from ItsAt.app (xs := []) (ys := [bs0]) hown)
  clear hown hgrow OW OT ZW Q0 BW E NW
  refine hK.out _ _ (.inl rfl) ?_
  clear hK K
  (try simp only [Act.put, List.setIfInBounds_toArray, List.set_cons_zero, List.set_cons_succ])
  refine till_take (i := 6) (oi := { dst := some 9, op := _, type := _, pos := _, after := _, guard := _ }) (v := ?v4) rfl (by kernel_rfl) (by kernel_rfl) (by kernel_rfl) (fun _ _ _ h => h) (by decide) (Or.inl ⟨by rfl, ?h4⟩) (.inl rfl) ?_
  case h4 => (intro w _; go_simp; try with_reducible rfl)
  (try simp only [Act.put, List.setIfInBounds_toArray, List.set_cons_zero, List.set_cons_succ])
  obtain ⟨r0, r1, r2, f0, f1, f2, rz⟩ := row3 EZ.out
  refine till_one (i := 7) (o := { dst := none, op := _, type := _, pos := _, after := _, guard := _ }) (by kernel_rfl) rfl (fun K hK => ?_)
  go_simp
  refine hK.out _ _ (.inl rfl) ?_
  clear hK K r0 r1 r2 f0 f1 f2 rz
  refine till_done (by kernel_rfl) ?_ _
  have R1' := Lib.hid (show (wz.setCell ⟨W.heap.size + 1, 1, none⟩ (.slice (some ⟨g0, 0, none⟩) 1 c0)).heap[W.heap.size + 1]? = some (catO 5 (.slice (some ⟨g0, 0, none⟩) 1 c0) (.slice none 0 0)) from heap_setCell_same wz _ 1 _ _ (.slice (some ⟨g0, 0, none⟩) 1 c0) EZ.out)
  have R0' := Lib.hid (show (wz.setCell ⟨W.heap.size + 1, 1, none⟩ (.slice (some ⟨g0, 0, none⟩) 1 c0)).heap[W.heap.size]? = some (catO 0 (.slice none 0 0) (.slice none 0 0)) by rw [heap_setCell_other _ _ _ _ (by simp)]; exact QZ.out)
  have LS' := Lib.hid (OZ.out.put (p := ⟨W.heap.size + 1, 1, none⟩) (show W.heap.size + 1 < W.heap.size + 2 by omega) (.slice (some ⟨g0, 0, none⟩) 1 c0))
  have LF' := Lib.hid (TZ.out.put (p := ⟨W.heap.size + 1, 1, none⟩) (show W.heap.size + 1 < W.heap.size + 2 by omega) (.slice (some ⟨g0, 0, none⟩) 1 c0))
  have B0' := Lib.hid (BZ.out.setCell (p := ⟨W.heap.size + 1, 1, none⟩) (show W.heap.size ≤ W.heap.size + 1 by omega) (.slice (some ⟨g0, 0, none⟩) 1 c0))
  have Z0' := Lib.hid (show W.heap.size + 2 ≤ (wz.setCell ⟨W.heap.size + 1, 1, none⟩ (.slice (some ⟨g0, 0, none⟩) 1 c0)).heap.size by simpa using ZZ.out)
  clear R1 R0 LS LF B0 Z0 EZ QZ BZ TZ ZZ OZ C0 C1
  generalize wz.setCell ⟨W.heap.size + 1, 1, none⟩ (.slice (some ⟨g0, 0, none⟩) 1 c0) = u1 at *
  replace R1 := R1'; replace R0 := R0'; replace LS := LS'; replace LF := LF'; replace B0 := B0'; replace Z0 := Z0'
  go_wp2_with fail
  refine till_start (fun u => u.heap[W.heap.size + 1]? = some (catO 5 (.slice (some ⟨g0, 0, none⟩) 1 c0) (.slice none 0 0))) 9 (by kernel_rfl) ?_
  refine till_take (i := 0) (oi := { dst := some 10, op := _, type := _, pos := _, after := _, guard := _ }) (v := ?v5) rfl (by kernel_rfl) (by kernel_rfl) (by kernel_rfl) (fun _ _ _ h => h) (by decide) (Or.inl ⟨by rfl, ?h5⟩) (.inr R1.out) ?_
  case h5 => (intro w _; go_simp; try with_reducible rfl)
  (try simp only [Act.put, List.setIfInBounds_toArray, List.set_cons_zero, List.set_cons_succ])
  refine till_take_load (i := 1) (oi := { dst := some 11, op := _, type := _, pos := _, after := _, guard := _ }) (v := ?v6) rfl (by kernel_rfl) (by kernel_rfl) (by kernel_rfl) (fun _ _ _ h => h) (by kernel_rfl) (by decide) (by kernel_rfl) (Or.inl ⟨by rfl, ?h6⟩) R1.out ?_
  case h6 => (intro w hSw; (try dsimp only at hSw); obtain ⟨s0, s1, s2, t0, t1, t2, tz⟩ := row3 hSw; go_simp; try with_reducible rfl)
  (try simp only [Act.put, List.setIfInBounds_toArray, List.set_cons_zero, List.set_cons_succ])
  have C0 := Lib.hid (below_dn (Below.refl u1.heap.size u1) 1)
  have E0 := Lib.hid (show u1.drew.heap[W.heap.size + 1]? = _ from R1.out)
  refine till_one (i := 2) (o := { dst := some 12, op := _, type := _, pos := _, after := _, guard := _ }) (by kernel_rfl) rfl (fun K hK => ?_)
  go_simp
  go_at_call 20
  refine (r24paschal (-46) _).mono ?_
  rintro e0 w0 ⟨rfl, hb0⟩
  have E1 := Lib.hid (row_on E0.out hb0)
  have C1 := Lib.hid (below_on C0.out hb0)
  refine hK.out _ _ (.inr E1.out) ?_
  clear hK K hb0 E0
  (try simp only [Act.put, List.setIfInBounds_toArray, List.set_cons_zero, List.set_cons_succ])
  refine till_one (i := 3) (o := { dst := some 13, op := _, type := _, pos := _, after := _, guard := _ }) (by kernel_rfl) rfl (fun K hK => ?_)
  go_simp
  go_at_call 19
  refine (r24season ⟨#[108, 101, 110, 116]⟩ 2 6 2 0 0 (-46) 0 0 _).mono ?_
  rintro e1 w1 ⟨rfl, hb1⟩
  have E2 := Lib.hid (row_on E1.out hb1)
  have C2 := Lib.hid (below_on C1.out hb1)
  refine hK.out _ _ (.inr E2.out) ?_
  clear hK K hb1 E1
  (try simp only [Act.put, List.setIfInBounds_toArray, List.set_cons_zero, List.set_cons_succ])
  refine till_one (i := 4) (o := { dst := some 14, op := _, type := _, pos := _, after := _, guard := _ }) (by kernel_rfl) rfl (fun K hK => ?_)
  go_simp
  go_at_call 20
  refine (r24paschal (-7) _).mono ?_
  rintro e2 w2 ⟨rfl, hb2⟩
  have E3 := Lib.hid (row_on E2.out hb2)
  have C3 := Lib.hid (below_on C2.out hb2)
  refine hK.out _ _ (.inr E3.out) ?_
  clear hK K hb2 E2
  (try simp only [Act.put, List.setIfInBounds_toArray, List.set_cons_zero, List.set_cons_succ])
  refine till_one (i := 5) (o := { dst := some 15, op := _, type := _, pos := _, after := _, guard := _ }) (by kernel_rfl) rfl (fun K hK => ?_)
  go_simp
  go_at_call 19
  refine (r24season ⟨#[104, 111, 108, 121, 45, 119, 101, 101, 107]⟩ 1 1 2 0 0 (-7) 0 0 _).mono ?_
  rintro e3 w3 ⟨rfl, hb3⟩
  have E4 := Lib.hid (row_on E3.out hb3)
  have C4 := Lib.hid (below_on C3.out hb3)
  refine hK.out _ _ (.inr E4.out) ?_
  clear hK K hb3 E3
  (try simp only [Act.put, List.setIfInBounds_toArray, List.set_cons_zero, List.set_cons_succ])
  refine till_one (i := 6) (o := { dst := some 16, op := _, type := _, pos := _, after := _, guard := _ }) (by kernel_rfl) rfl (fun K hK => ?_)
  go_simp
  go_at_call 20
  refine (r24paschal 0 _).mono ?_
  rintro e4 w4 ⟨rfl, hb4⟩
  have E5 := Lib.hid (row_on E4.out hb4)
  have C5 := Lib.hid (below_on C4.out hb4)
  refine hK.out _ _ (.inr E5.out) ?_
  clear hK K hb4 E4
  (try simp only [Act.put, List.setIfInBounds_toArray, List.set_cons_zero, List.set_cons_succ])
  refine till_one (i := 7) (o := { dst := some 17, op := _, type := _, pos := _, after := _, guard := _ }) (by kernel_rfl) rfl (fun K hK => ?_)
  go_simp
  go_at_call 19
  refine (r24season ⟨#[101, 97, 115, 116, 101, 114, 45, 111, 99, 116, 97, 118, 101]⟩ 1 1 2 0 0 0 0 0 _).mono ?_
  rintro e5 w5 ⟨rfl, hb5⟩
  have E6 := Lib.hid (row_on E5.out hb5)
  have C6 := Lib.hid (below_on C5.out hb5)
  refine hK.out _ _ (.inr E6.out) ?_
  clear hK K hb5 E5
  (try simp only [Act.put, List.setIfInBounds_toArray, List.set_cons_zero, List.set_cons_succ])
  refine till_one (i := 8) (o := { dst := some 18, op := _, type := _, pos := _, after := _, guard := _ }) (by kernel_rfl) rfl (fun K hK => ?_)
  go_simp
  have E := Lib.hid (row_al E6.out (.cells #[.string ⟨#[108, 101, 110, 116]⟩, .int .i64 2, .int .i64 6, .int .i64 2, .int .i64 0, .int .i64 0, .int .i64 (-46), .int .i64 0, .int .i64 0, .string ⟨#[104, 111, 108, 121, 45, 119, 101, 101, 107]⟩, .int .i64 1, .int .i64 1, .int .i64 2, .int .i64 0, .int .i64 0, .int .i64 (-7), .int .i64 0, .int .i64 0, .string ⟨#[101, 97, 115, 116, 101, 114, 45, 111, 99, 116, 97, 118, 101]⟩, .int .i64 1, .int .i64 1, .int .i64 2, .int .i64 0, .int .i64 0, .int .i64 0, .int .i64 0, .int .i64 0] 33))
  have C := Lib.hid (C6.out.alloc C6.out.size (.cells #[.string ⟨#[108, 101, 110, 116]⟩, .int .i64 2, .int .i64 6, .int .i64 2, .int .i64 0, .int .i64 0, .int .i64 (-46), .int .i64 0, .int .i64 0, .string ⟨#[104, 111, 108, 121, 45, 119, 101, 101, 107]⟩, .int .i64 1, .int .i64 1, .int .i64 2, .int .i64 0, .int .i64 0, .int .i64 (-7), .int .i64 0, .int .i64 0, .string ⟨#[101, 97, 115, 116, 101, 114, 45, 111, 99, 116, 97, 118, 101]⟩, .int .i64 1, .int .i64 1, .int .i64 2, .int .i64 0, .int .i64 0, .int .i64 0, .int .i64 0, .int .i64 0] 33))
  have NW := Lib.hid (World.news_of_block (heap_alloc_new w5 (.cells #[.string ⟨#[108, 101, 110, 116]⟩, .int .i64 2, .int .i64 6, .int .i64 2, .int .i64 0, .int .i64 0, .int .i64 (-46), .int .i64 0, .int .i64 0, .string ⟨#[104, 111, 108, 121, 45, 119, 101, 101, 107]⟩, .int .i64 1, .int .i64 1, .int .i64 2, .int .i64 0, .int .i64 0, .int .i64 (-7), .int .i64 0, .int .i64 0, .string ⟨#[101, 97, 115, 116, 101, 114, 45, 111, 99, 116, 97, 118, 101]⟩, .int .i64 1, .int .i64 1, .int .i64 2, .int .i64 0, .int .i64 0, .int .i64 0, .int .i64 0, .int .i64 0] 33)))
  have OW := Lib.hid (LS.out.on C.out)
  have OT := Lib.hid (LF.out.on C.out)
  have ZW := Lib.hid (Nat.le_trans Z0.out C.out.size)
  have Q0 := Lib.hid (row_on R0.out C.out)
  have BW := Lib.hid (below_on B0.out C.out)
  refine hK.out _ _ (.inr E.out) ?_
  clear hK K C E6
  (try simp only [Act.put, List.setIfInBounds_toArray, List.set_cons_zero, List.set_cons_succ])
  refine till_one (i := 9) (o := { dst := some 19, op := _, type := _, pos := _, after := _, guard := _ }) (by kernel_rfl) rfl (fun K hK => ?_)
  rw [if_pos (by rfl)]
  refine wp_append_lies _ _ _ 23 (by rfl) (W.heap.size + 2) 33 iS (.agg #[.string ⟨#[]⟩, .int .i64 0, .int .i64 0, .int .i64 0, .int .i64 0, .int .i64 0, .int .i64 0, .int .i64 0, .int .i64 0]) 9 80 Try.underlying23 hiS hS0 hS1 hS2 rfl (by decide) (.slice (some ⟨g0, 0, none⟩) 1 c0) 1 (flat9 [bs0]) (by rfl) OW.out ⟨w5.heap.size, 0, none⟩ 3 3 (flat9 [bs1, bs2, bs3]) (by rfl) (by rfl) NW.out (flat9_one [bs1, bs2, bs3]) (by decide) (by unfold maxLen; omega) (by decide) ZW.out _ rfl ?_
  intro g1 c1 wz hown hgrow _ _
  have EZ := Lib.hid (show wz.heap[W.heap.size + 1]? = some (catO 5 (.slice (some ⟨g0, 0, none⟩) 1 c0) (.slice none 0 0)) by
    rw [hgrow.block (W.heap.size + 1) (Array.getElem?_eq_some_iff.1 E.out).1 (fun e => absurd (World.ownsRow.lt OW.out _ e.symm).1 (by omega))]; exact E.out)
  have QZ := Lib.hid (show wz.heap[W.heap.size]? = some (catO 0 (.slice none 0 0) (.slice none 0 0)) by
    rw [hgrow.block W.heap.size (Array.getElem?_eq_some_iff.1 Q0.out).1 (fun e => absurd (World.ownsRow.lt OW.out _ e.symm).1 (by omega))]; exact Q0.out)
  have BZ := Lib.hid (BW.out.grown hgrow (Nat.le_trans (by omega) ZW.out) (fun k e => Nat.le_trans (by omega) (World.ownsRow.lt OW.out k e).1))
  have TZ := Lib.hid (ItsAt.oth OT.out OW.out hgrow (by decide))
  have ZZ := Lib.hid (Nat.le_trans ZW.out hgrow.size)
  have OZ := Lib.hid (show ItsAt 33 (W.heap.size + 2) (.slice (some ⟨g1, 0, none⟩) 4 c1) [bs0, bs1, bs2, bs3] wz from ItsAt.app (xs := [bs0]) (ys := [bs1, bs2, bs3]) hown)
  clear hown hgrow OW OT ZW Q0 BW E NW
  refine hK.out _ _ (.inl rfl) ?_
  clear hK K
  (try simp only [Act.put, List.setIfInBounds_toArray, List.set_cons_zero, List.set_cons_succ])
  refine till_take (i := 10) (oi := { dst := some 20, op := _, type := _, pos := _, after := _, guard := _ }) (v := ?v7) rfl (by kernel_rfl) (by kernel_rfl) (by kernel_rfl) (fun _ _ _ h => h) (by decide) (Or.inl ⟨by rfl, ?h7⟩) (.inl rfl) ?_
  case h7 => (intro w _; go_simp; try with_reducible rfl)
  (try simp only [Act.put, List.setIfInBounds_toArray, List.set_cons_zero, List.set_cons_succ])
  obtain ⟨r0, r1, r2, f0, f1, f2, rz⟩ := row3 EZ.out
  refine till_one (i := 11) (o := { dst := none, op := _, type := _, pos := _, after := _, guard := _ }) (by kernel_rfl) rfl (fun K hK => ?_)
  go_simp
  refine hK.out _ _ (.inl rfl) ?_
  clear hK K r0 r1 r2 f0 f1 f2 rz
  refine till_done (by kernel_rfl) ?_ _
  have R1' := Lib.hid (show (wz.setCell ⟨W.heap.size + 1, 1, none⟩ (.slice (some ⟨g1, 0, none⟩) 4 c1)).heap[W.heap.size + 1]? = some (catO 5 (.slice (some ⟨g1, 0, none⟩) 4 c1) (.slice none 0 0)) from heap_setCell_same wz _ 1 _ _ (.slice (some ⟨g1, 0, none⟩) 4 c1) EZ.out)
  have R0' := Lib.hid (show (wz.setCell ⟨W.heap.size + 1, 1, none⟩ (.slice (some ⟨g1, 0, none⟩) 4 c1)).heap[W.heap.size]? = some (catO 0 (.slice none 0 0) (.slice none 0 0)) by rw [heap_setCell_other _ _ _ _ (by simp)]; exact QZ.out)
  have LS' := Lib.hid (OZ.out.put (p := ⟨W.heap.size + 1, 1, none⟩) (show W.heap.size + 1 < W.heap.size + 2 by omega) (.slice (some ⟨g1, 0, none⟩) 4 c1))
  have LF' := Lib.hid (TZ.out.put (p := ⟨W.heap.size + 1, 1, none⟩) (show W.heap.size + 1 < W.heap.size + 2 by omega) (.slice (some ⟨g1, 0, none⟩) 4 c1))
  have B0' := Lib.hid (BZ.out.setCell (p := ⟨W.heap.size + 1, 1, none⟩) (show W.heap.size ≤ W.heap.size + 1 by omega) (.slice (some ⟨g1, 0, none⟩) 4 c1))
  have Z0' := Lib.hid (show W.heap.size + 2 ≤ (wz.setCell ⟨W.heap.size + 1, 1, none⟩ (.slice (some ⟨g1, 0, none⟩) 4 c1)).heap.size by simpa using ZZ.out)
  clear R1 R0 LS LF B0 Z0 EZ QZ BZ TZ ZZ OZ C0 C1 C2 C3 C4 C5 C6
  generalize wz.setCell ⟨W.heap.size + 1, 1, none⟩ (.slice (some ⟨g1, 0, none⟩) 4 c1) = u2 at *
  replace R1 := R1'; replace R0 := R0'; replace LS := LS'; replace LF := LF'; replace B0 := B0'; replace Z0 := Z0'
  go_wp2_with fail
  refine till_start (fun u => u.heap[W.heap.size + 1]? = some (catO 5 (.slice (some ⟨g1, 0, none⟩) 4 c1) (.slice none 0 0))) 7 (by kernel_rfl) ?_
  refine till_take (i := 0) (oi := { dst := some 21, op := _, type := _, pos := _, after := _, guard := _ }) (v := ?v8) rfl (by kernel_rfl) (by kernel_rfl) (by kernel_rfl) (fun _ _ _ h => h) (by decide) (Or.inl ⟨by rfl, ?h8⟩) (.inr R1.out) ?_
  case h8 => (intro w _; go_simp; try with_reducible rfl)
  (try simp only [Act.put, List.setIfInBounds_toArray, List.set_cons_zero, List.set_cons_succ])
  refine till_take_load (i := 1) (oi := { dst := some 22, op := _, type := _, pos := _, after := _, guard := _ }) (v := ?v9) rfl (by kernel_rfl) (by kernel_rfl) (by kernel_rfl) (fun _ _ _ h => h) (by kernel_rfl) (by decide) (by kernel_rfl) (Or.inl ⟨by rfl, ?h9⟩) R1.out ?_
  case h9 => (intro w hSw; (try dsimp only at hSw); obtain ⟨s0, s1, s2, t0, t1, t2, tz⟩ := row3 hSw; go_simp; try with_reducible rfl)
  (try simp only [Act.put, List.setIfInBounds_toArray, List.set_cons_zero, List.set_cons_succ])
  have C0 := Lib.hid (below_dn (Below.refl u2.heap.size u2) 1)
  have E0 := Lib.hid (show u2.drew.heap[W.heap.size + 1]? = _ from R1.out)
  refine till_one (i := 2) (o := { dst := some 23, op := _, type := _, pos := _, after := _, guard := _ }) (by kernel_rfl) rfl (fun K hK => ?_)
  go_simp
  go_at_call 20
  refine (r24paschal 8 _).mono ?_
  rintro e0 w0 ⟨rfl, hb0⟩
  have E1 := Lib.hid (row_on E0.out hb0)
  have C1 := Lib.hid (below_on C0.out hb0)
  refine hK.out _ _ (.inr E1.out) ?_
  clear hK K hb0 E0
  (try simp only [Act.put, List.setIfInBounds_toArray, List.set_cons_zero, List.set_cons_succ])
  refine till_one (i := 3) (o := { dst := some 24, op := _, type := _, pos := _, after := _, guard := _ }) (by kernel_rfl) rfl (fun K hK => ?_)
  go_simp
  go_at_call 19
  refine (r24season ⟨#[101, 97, 115, 116, 101, 114, 116, 105, 100, 101]⟩ 2 8 2 0 0 8 0 0 _).mono ?_
  rintro e1 w1 ⟨rfl, hb1⟩
  have E2 := Lib.hid (row_on E1.out hb1)
  have C2 := Lib.hid (below_on C1.out hb1)
  refine hK.out _ _ (.inr E2.out) ?_
  clear hK K hb1 E1
  (try simp only [Act.put, List.setIfInBounds_toArray, List.set_cons_zero, List.set_cons_succ])
  refine till_one (i := 4) (o := { dst := some 25, op := _, type := _, pos := _, after := _, guard := _ }) (by kernel_rfl) rfl (fun K hK => ?_)
  go_simp
  go_at_call 20
  refine (r24paschal 50 _).mono ?_
  rintro e2 w2 ⟨rfl, hb2⟩
  have E3 := Lib.hid (row_on E2.out hb2)
  have C3 := Lib.hid (below_on C2.out hb2)
  refine hK.out _ _ (.inr E3.out) ?_
  clear hK K hb2 E2
  (try simp only [Act.put, List.setIfInBounds_toArray, List.set_cons_zero, List.set_cons_succ])
  refine till_one (i := 5) (o := { dst := some 26, op := _, type := _, pos := _, after := _, guard := _ }) (by kernel_rfl) rfl (fun K hK => ?_)
  go_simp
  go_at_call 19
  refine (r24season ⟨#[111, 114, 100, 105, 110, 97, 114, 121, 45, 116, 105, 109, 101]⟩ 5 8 2 0 0 50 0 0 _).mono ?_
  rintro e3 w3 ⟨rfl, hb3⟩
  have E4 := Lib.hid (row_on E3.out hb3)
  have C4 := Lib.hid (below_on C3.out hb3)
  refine hK.out _ _ (.inr E4.out) ?_
  clear hK K hb3 E3
  (try simp only [Act.put, List.setIfInBounds_toArray, List.set_cons_zero, List.set_cons_succ])
  refine till_one (i := 6) (o := { dst := some 27, op := _, type := _, pos := _, after := _, guard := _ }) (by kernel_rfl) rfl (fun K hK => ?_)
  go_simp
  have E := Lib.hid (row_al E4.out (.cells #[.string ⟨#[101, 97, 115, 116, 101, 114, 116, 105, 100, 101]⟩, .int .i64 2, .int .i64 8, .int .i64 2, .int .i64 0, .int .i64 0, .int .i64 8, .int .i64 0, .int .i64 0, .string ⟨#[111, 114, 100, 105, 110, 97, 114, 121, 45, 116, 105, 109, 101]⟩, .int .i64 5, .int .i64 8, .int .i64 2, .int .i64 0, .int .i64 0, .int .i64 50, .int .i64 0, .int .i64 0] 33))
  have C := Lib.hid (C4.out.alloc C4.out.size (.cells #[.string ⟨#[101, 97, 115, 116, 101, 114, 116, 105, 100, 101]⟩, .int .i64 2, .int .i64 8, .int .i64 2, .int .i64 0, .int .i64 0, .int .i64 8, .int .i64 0, .int .i64 0, .string ⟨#[111, 114, 100, 105, 110, 97, 114, 121, 45, 116, 105, 109, 101]⟩, .int .i64 5, .int .i64 8, .int .i64 2, .int .i64 0, .int .i64 0, .int .i64 50, .int .i64 0, .int .i64 0] 33))
  have NW := Lib.hid (World.news_of_block (heap_alloc_new w3 (.cells #[.string ⟨#[101, 97, 115, 116, 101, 114, 116, 105, 100, 101]⟩, .int .i64 2, .int .i64 8, .int .i64 2, .int .i64 0, .int .i64 0, .int .i64 8, .int .i64 0, .int .i64 0, .string ⟨#[111, 114, 100, 105, 110, 97, 114, 121, 45, 116, 105, 109, 101]⟩, .int .i64 5, .int .i64 8, .int .i64 2, .int .i64 0, .int .i64 0, .int .i64 50, .int .i64 0, .int .i64 0] 33)))
  have OW := Lib.hid (LS.out.on C.out)
  have OT := Lib.hid (LF.out.on C.out)
  have ZW := Lib.hid (Nat.le_trans Z0.out C.out.size)
  have Q0 := Lib.hid (row_on R0.out C.out)
  have BW := Lib.hid (below_on B0.out C.out)
  refine hK.out _ _ (.inr E.out) ?_
  clear hK K C E4
  (try simp only [Act.put, List.setIfInBounds_toArray, List.set_cons_zero, List.set_cons_succ])
  refine till_one (i := 7) (o := { dst := some 28, op := _, type := _, pos := _, after := _, guard := _ }) (by kernel_rfl) rfl (fun K hK => ?_)
  rw [if_pos (by rfl)]
  refine wp_append_lies _ _ _ 23 (by rfl) (W.heap.size + 2) 33 iS (.agg #[.string ⟨#[]⟩, .int .i64 0, .int .i64 0, .int .i64 0, .int .i64 0, .int .i64 0, .int .i64 0, .int .i64 0, .int .i64 0]) 9 80 Try.underlying23 hiS hS0 hS1 hS2 rfl (by decide) (.slice (some ⟨g1, 0, none⟩) 4 c1) 4 (flat9 [bs0, bs1, bs2, bs3]) (by rfl) OW.out ⟨w3.heap.size, 0, none⟩ 2 2 (flat9 [bs4, bs5]) (by rfl) (by rfl) NW.out (flat9_one [bs4, bs5]) (by decide) (by unfold maxLen; omega) (by decide) ZW.out _ rfl ?_
  intro g2 c2 wz hown hgrow _ _
  have EZ := Lib.hid (show wz.heap[W.heap.size + 1]? = some (catO 5 (.slice (some ⟨g1, 0, none⟩) 4 c1) (.slice none 0 0)) by
    rw [hgrow.block (W.heap.size + 1) (Array.getElem?_eq_some_iff.1 E.out).1 (fun e => absurd (World.ownsRow.lt OW.out _ e.symm).1 (by omega))]; exact E.out)
  have QZ := Lib.hid (show wz.heap[W.heap.size]? = some (catO 0 (.slice none 0 0) (.slice none 0 0)) by
    rw [hgrow.block W.heap.size (Array.getElem?_eq_some_iff.1 Q0.out).1 (fun e => absurd (World.ownsRow.lt OW.out _ e.symm).1 (by omega))]; exact Q0.out)
  have BZ := Lib.hid (BW.out.grown hgrow (Nat.le_trans (by omega) ZW.out) (fun k e => Nat.le_trans (by omega) (World.ownsRow.lt OW.out k e).1))
  have TZ := Lib.hid (ItsAt.oth OT.out OW.out hgrow (by decide))
  have ZZ := Lib.hid (Nat.le_trans ZW.out hgrow.size)
  have OZ := Lib.hid (show ItsAt 33 (W.heap.size + 2) (.slice (some ⟨g2, 0, none⟩) 6 c2) [bs0, bs1, bs2, bs3, bs4, bs5] wz from ItsAt.app (xs := [bs0, bs1, bs2, bs3]) (ys := [bs4, bs5]) hown)
  clear hown hgrow OW OT ZW Q0 BW E NW
  refine hK.out _ _ (.inl rfl) ?_
  clear hK K
  (try simp only [Act.put, List.setIfInBounds_toArray, List.set_cons_zero, List.set_cons_succ])
  refine till_take (i := 8) (oi := { dst := some 29, op := _, type := _, pos := _, after := _, guard := _ }) (v := ?v10) rfl (by kernel_rfl) (by kernel_rfl) (by kernel_rfl) (fun _ _ _ h => h) (by decide) (Or.inl ⟨by rfl, ?h10⟩) (.inl rfl) ?_
  case h10 => (intro w _; go_simp; try with_reducible rfl)
  (try simp only [Act.put, List.setIfInBounds_toArray, List.set_cons_zero, List.set_cons_succ])
  obtain ⟨r0, r1, r2, f0, f1, f2, rz⟩ := row3 EZ.out
  refine till_one (i := 9) (o := { dst := none, op := _, type := _, pos := _, after := _, guard := _ }) (by kernel_rfl) rfl (fun K hK => ?_)
  go_simp
  refine hK.out _ _ (.inl rfl) ?_
  clear hK K r0 r1 r2 f0 f1 f2 rz
  refine till_done (by kernel_rfl) ?_ _
  have R1' := Lib.hid (show (wz.setCell ⟨W.heap.size + 1, 1, none⟩ (.slice (some ⟨g2, 0, none⟩) 6 c2)).heap[W.heap.size + 1]? = some (catO 5 (.slice (some ⟨g2, 0, none⟩) 6 c2) (.slice none 0 0)) from heap_setCell_same wz _ 1 _ _ (.slice (some ⟨g2, 0, none⟩) 6 c2) EZ.out)
  have R0' := Lib.hid (show (wz.setCell ⟨W.heap.size + 1, 1, none⟩ (.slice (some ⟨g2, 0, none⟩) 6 c2)).heap[W.heap.size]? = some (catO 0 (.slice none 0 0) (.slice none 0 0)) by rw [heap_setCell_other _ _ _ _ (by simp)]; exact QZ.out)
  have LS' := Lib.hid (OZ.out.put (p := ⟨W.heap.size + 1, 1, none⟩) (show W.heap.size + 1 < W.heap.size + 2 by omega) (.slice (some ⟨g2, 0, none⟩) 6 c2))
  have LF' := Lib.hid (TZ.out.put (p := ⟨W.heap.size + 1, 1, none⟩) (show W.heap.size + 1 < W.heap.size + 2 by omega) (.slice (some ⟨g2, 0, none⟩) 6 c2))
  have B0' := Lib.hid (BZ.out.setCell (p := ⟨W.heap.size + 1, 1, none⟩) (show W.heap.size ≤ W.heap.size + 1 by omega) (.slice (some ⟨g2, 0, none⟩) 6 c2))
  have Z0' := Lib.hid (show W.heap.size + 2 ≤ (wz.setCell ⟨W.heap.size + 1, 1, none⟩ (.slice (some ⟨g2, 0, none⟩) 6 c2)).heap.size by simpa using ZZ.out)
  clear R1 R0 LS LF B0 Z0 EZ QZ BZ TZ ZZ OZ C0 C1 C2 C3 C4
  generalize wz.setCell ⟨W.heap.size + 1, 1, none⟩ (.slice (some ⟨g2, 0, none⟩) 6 c2) = u3 at *
  replace R1 := R1'; replace R0 := R0'; replace LS := LS'; replace LF := LF'; replace B0 := B0'; replace Z0 := Z0'
  go_wp2_with fail
  refine till_start (fun u => u.heap[W.heap.size + 1]? = some (catO 5 (.slice (some ⟨g2, 0, none⟩) 6 c2) (.slice none 0 0))) 7 (by kernel_rfl) ?_
  refine till_take (i := 0) (oi := { dst := some 30, op := _, type := _, pos := _, after := _, guard := _ }) (v := ?v11) rfl (by kernel_rfl) (by kernel_rfl) (by kernel_rfl) (fun _ _ _ h => h) (by decide) (Or.inl ⟨by rfl, ?h11⟩) (.inr R1.out) ?_
  case h11 => (intro w _; go_simp; try with_reducible rfl)
  (try simp only [Act.put, List.setIfInBounds_toArray, List.set_cons_zero, List.set_cons_succ])
  refine till_take_load (i := 1) (oi := { dst := some 31, op := _, type := _, pos := _, after := _, guard := _ }) (v := ?v12) rfl (by kernel_rfl) (by kernel_rfl) (by kernel_rfl) (fun _ _ _ h => h) (by kernel_rfl) (by decide) (by kernel_rfl) (Or.inl ⟨by rfl, ?h12⟩) R1.out ?_
  case h12 => (intro w hSw; (try dsimp only at hSw); obtain ⟨s0, s1, s2, t0, t1, t2, tz⟩ := row3 hSw; go_simp; try with_reducible rfl)
  (try simp only [Act.put, List.setIfInBounds_toArray, List.set_cons_zero, List.set_cons_succ])
  have C0 := Lib.hid (below_dn (Below.refl u3.heap.size u3) 1)
  have E0 := Lib.hid (show u3.drew.heap[W.heap.size + 1]? = _ from R1.out)
  refine till_one (i := 2) (o := { dst := some 32, op := _, type := _, pos := _, after := _, guard := _ }) (by kernel_rfl) rfl (fun K hK => ?_)
  go_simp
  go_at_call 21
  refine (r24sunday 11 27 _).mono ?_
  rintro e0 w0 ⟨rfl, hb0⟩
  have E1 := Lib.hid (row_on E0.out hb0)
  have C1 := Lib.hid (below_on C0.out hb0)
  refine hK.out _ _ (.inr E1.out) ?_
  clear hK K hb0 E0
  (try simp only [Act.put, List.setIfInBounds_toArray, List.set_cons_zero, List.set_cons_succ])
  refine till_one (i := 3) (o := { dst := some 33, op := _, type := _, pos := _, after := _, guard := _ }) (by kernel_rfl) rfl (fun K hK => ?_)
  go_simp
  go_at_call 19
  refine (r24season ⟨#[97, 100, 118, 101, 110, 116]⟩ 2 7 3 11 27 0 0 1 _).mono ?_
  rintro e1 w1 ⟨rfl, hb1⟩
  have E2 := Lib.hid (row_on E1.out hb1)
  have C2 := Lib.hid (below_on C1.out hb1)
  refine hK.out _ _ (.inr E2.out) ?_
  clear hK K hb1 E1
  (try simp only [Act.put, List.setIfInBounds_toArray, List.set_cons_zero, List.set_cons_succ])
  refine till_one (i := 4) (o := { dst := some 34, op := _, type := _, pos := _, after := _, guard := _ }) (by kernel_rfl) rfl (fun K hK => ?_)
  go_simp
  go_at_call 22
  refine (r24fixed 12 25 _).mono ?_
  rintro e2 w2 ⟨rfl, hb2⟩
  have E3 := Lib.hid (row_on E2.out hb2)
  have C3 := Lib.hid (below_on C2.out hb2)
  refine hK.out _ _ (.inr E3.out) ?_
  clear hK K hb2 E2
  (try simp only [Act.put, List.setIfInBounds_toArray, List.set_cons_zero, List.set_cons_succ])
  refine till_one (i := 5) (o := { dst := some 35, op := _, type := _, pos := _, after := _, guard := _ }) (by kernel_rfl) rfl (fun K hK => ?_)
  go_simp
  go_at_call 19
  refine (r24season ⟨#[99, 104, 114, 105, 115, 116, 109, 97, 115]⟩ 3 6 1 12 25 0 0 0 _).mono ?_
  rintro e3 w3 ⟨rfl, hb3⟩
  have E4 := Lib.hid (row_on E3.out hb3)
  have C4 := Lib.hid (below_on C3.out hb3)
  refine hK.out _ _ (.inr E4.out) ?_
  clear hK K hb3 E3
  (try simp only [Act.put, List.setIfInBounds_toArray, List.set_cons_zero, List.set_cons_succ])
  refine till_one (i := 6) (o := { dst := some 36, op := _, type := _, pos := _, after := _, guard := _ }) (by kernel_rfl) rfl (fun K hK => ?_)
  go_simp
  have E := Lib.hid (row_al E4.out (.cells #[.string ⟨#[97, 100, 118, 101, 110, 116]⟩, .int .i64 2, .int .i64 7, .int .i64 3, .int .i64 11, .int .i64 27, .int .i64 0, .int .i64 0, .int .i64 1, .string ⟨#[99, 104, 114, 105, 115, 116, 109, 97, 115]⟩, .int .i64 3, .int .i64 6, .int .i64 1, .int .i64 12, .int .i64 25, .int .i64 0, .int .i64 0, .int .i64 0] 33))
  have C := Lib.hid (C4.out.alloc C4.out.size (.cells #[.string ⟨#[97, 100, 118, 101, 110, 116]⟩, .int .i64 2, .int .i64 7, .int .i64 3, .int .i64 11, .int .i64 27, .int .i64 0, .int .i64 0, .int .i64 1, .string ⟨#[99, 104, 114, 105, 115, 116, 109, 97, 115]⟩, .int .i64 3, .int .i64 6, .int .i64 1, .int .i64 12, .int .i64 25, .int .i64 0, .int .i64 0, .int .i64 0] 33))
  have NW := Lib.hid (World.news_of_block (heap_alloc_new w3 (.cells #[.string ⟨#[97, 100, 118, 101, 110, 116]⟩, .int .i64 2, .int .i64 7, .int .i64 3, .int .i64 11, .int .i64 27, .int .i64 0, .int .i64 0, .int .i64 1, .string ⟨#[99, 104, 114, 105, 115, 116, 109, 97, 115]⟩, .int .i64 3, .int .i64 6, .int .i64 1, .int .i64 12, .int .i64 25, .int .i64 0, .int .i64 0, .int .i64 0] 33)))
  have OW := Lib.hid (LS.out.on C.out)
  have OT := Lib.hid (LF.out.on C.out)
  have ZW := Lib.hid (Nat.le_trans Z0.out C.out.size)
  have Q0 := Lib.hid (row_on R0.out C.out)
  have BW := Lib.hid (below_on B0.out C.out)
  refine hK.out _ _ (.inr E.out) ?_
  clear hK K C E4
  (try simp only [Act.put, List.setIfInBounds_toArray, List.set_cons_zero, List.set_cons_succ])
  refine till_one (i := 7) (o := { dst := some 37, op := _, type := _, pos := _, after := _, guard := _ }) (by kernel_rfl) rfl (fun K hK => ?_)
  rw [if_pos (by rfl)]
  refine wp_append_lies _ _ _ 23 (by rfl) (W.heap.size + 2) 33 iS (.agg #[.string ⟨#[]⟩, .int .i64 0, .int .i64 0, .int .i64 0, .int .i64 0, .int .i64 0, .int .i64 0, .int .i64 0, .int .i64 0]) 9 80 Try.underlying23 hiS hS0 hS1 hS2 rfl (by decide) (.slice (some ⟨g2, 0, none⟩) 6 c2) 6 (flat9 [bs0, bs1, bs2, bs3, bs4, bs5]) (by rfl) OW.out ⟨w3.heap.size, 0, none⟩ 2 2 (flat9 [bs6, bs7]) (by rfl) (by rfl) NW.out (flat9_one [bs6, bs7]) (by decide) (by unfold maxLen; omega) (by decide) ZW.out _ rfl ?_
  intro g3 c3 wz hown hgrow _ _
  have EZ := Lib.hid (show wz.heap[W.heap.size + 1]? = some (catO 5 (.slice (some ⟨g2, 0, none⟩) 6 c2) (.slice none 0 0)) by
    rw [hgrow.block (W.heap.size + 1) (Array.getElem?_eq_some_iff.1 E.out).1 (fun e => absurd (World.ownsRow.lt OW.out _ e.symm).1 (by omega))]; exact E.out)
  have QZ := Lib.hid (show wz.heap[W.heap.size]? = some (catO 0 (.slice none 0 0) (.slice none 0 0)) by
    rw [hgrow.block W.heap.size (Array.getElem?_eq_some_iff.1 Q0.out).1 (fun e => absurd (World.ownsRow.lt OW.out _ e.symm).1 (by omega))]; exact Q0.out)
  have BZ := Lib.hid (BW.out.grown hgrow (Nat.le_trans (by omega) ZW.out) (fun k e => Nat.le_trans (by omega) (World.ownsRow.lt OW.out k e).1))
  have TZ := Lib.hid (ItsAt.oth OT.out OW.out hgrow (by decide))
  have ZZ := Lib.hid (Nat.le_trans ZW.out hgrow.size)
  have OZ := Lib.hid (show ItsAt 33 (W.heap.size + 2) (.slice (some ⟨g3, 0, none⟩) 8 c3) [bs0, bs1, bs2, bs3, bs4, bs5, bs6, bs7] wz from ItsAt.app (xs := [bs0, bs1, bs2, bs3, bs4, bs5]) (ys := [bs6, bs7]) hown)
  clear hown hgrow OW OT ZW Q0 BW E NW
  refine hK.out _ _ (.inl rfl) ?_
  clear hK K
  (try simp only [Act.put, List.setIfInBounds_toArray, List.set_cons_zero, List.set_cons_succ])
  refine till_take (i := 8) (oi := { dst := some 38, op := _, type := _, pos := _, after := _, guard := _ }) (v := ?v13) rfl (by kernel_rfl) (by kernel_rfl) (by kernel_rfl) (fun _ _ _ h => h) (by decide) (Or.inl ⟨by rfl, ?h13⟩) (.inl rfl) ?_
  case h13 => (intro w _; go_simp; try with_reducible rfl)
  (try simp only [Act.put, List.setIfInBounds_toArray, List.set_cons_zero, List.set_cons_succ])
  obtain ⟨r0, r1, r2, f0, f1, f2, rz⟩ := row3 EZ.out
  refine till_one (i := 9) (o := { dst := none, op := _, type := _, pos := _, after := _, guard := _ }) (by kernel_rfl) rfl (fun K hK => ?_)
  go_simp
  refine hK.out _ _ (.inl rfl) ?_
  clear hK K r0 r1 r2 f0 f1 f2 rz
  refine till_done (by kernel_rfl) ?_ _
  have R1' := Lib.hid (show (wz.setCell ⟨W.heap.size + 1, 1, none⟩ (.slice (some ⟨g3, 0, none⟩) 8 c3)).heap[W.heap.size + 1]? = some (catO 5 (.slice (some ⟨g3, 0, none⟩) 8 c3) (.slice none 0 0)) from heap_setCell_same wz _ 1 _ _ (.slice (some ⟨g3, 0, none⟩) 8 c3) EZ.out)
  have R0' := Lib.hid (show (wz.setCell ⟨W.heap.size + 1, 1, none⟩ (.slice (some ⟨g3, 0, none⟩) 8 c3)).heap[W.heap.size]? = some (catO 0 (.slice none 0 0) (.slice none 0 0)) by rw [heap_setCell_other _ _ _ _ (by simp)]; exact QZ.out)
  have LS' := Lib.hid (OZ.out.put (p := ⟨W.heap.size + 1, 1, none⟩) (show W.heap.size + 1 < W.heap.size + 2 by omega) (.slice (some ⟨g3, 0, none⟩) 8 c3))
  have LF' := Lib.hid (TZ.out.put (p := ⟨W.heap.size + 1, 1, none⟩) (show W.heap.size + 1 < W.heap.size + 2 by omega) (.slice (some ⟨g3, 0, none⟩) 8 c3))
  have B0' := Lib.hid (BZ.out.setCell (p := ⟨W.heap.size + 1, 1, none⟩) (show W.heap.size ≤ W.heap.size + 1 by omega) (.slice (some ⟨g3, 0, none⟩) 8 c3))
  have Z0' := Lib.hid (show W.heap.size + 2 ≤ (wz.setCell ⟨W.heap.size + 1, 1, none⟩ (.slice (some ⟨g3, 0, none⟩) 8 c3)).heap.size by simpa using ZZ.out)
  clear R1 R0 LS LF B0 Z0 EZ QZ BZ TZ ZZ OZ C0 C1 C2 C3 C4
  generalize wz.setCell ⟨W.heap.size + 1, 1, none⟩ (.slice (some ⟨g3, 0, none⟩) 8 c3) = u4 at *
  replace R1 := R1'; replace R0 := R0'; replace LS := LS'; replace LF := LF'; replace B0 := B0'; replace Z0 := Z0'
  go_wp2_with fail
  refine till_start (fun u => u.heap[W.heap.size + 1]? = some (catO 5 (.slice (some ⟨g3, 0, none⟩) 8 c3) (.slice none 0 0))) 9 (by kernel_rfl) ?_
  refine till_take (i := 0) (oi := { dst := some 39, op := _, type := _, pos := _, after := _, guard := _ }) (v := ?v14) rfl (by kernel_rfl) (by kernel_rfl) (by kernel_rfl) (fun _ _ _ h => h) (by decide) (Or.inl ⟨by rfl, ?h14⟩) (.inr R1.out) ?_
  case h14 => (intro w _; go_simp; try with_reducible rfl)
  (try simp only [Act.put, List.setIfInBounds_toArray, List.set_cons_zero, List.set_cons_succ])
  refine till_take_load (i := 1) (oi := { dst := some 40, op := _, type := _, pos := _, after := _, guard := _ }) (v := ?v15) rfl (by kernel_rfl) (by kernel_rfl) (by kernel_rfl) (fun _ _ _ h => h) (by kernel_rfl) (by decide) (by kernel_rfl) (Or.inl ⟨by rfl, ?h15⟩) R1.out ?_
  case h15 => (intro w hSw; (try dsimp only at hSw); obtain ⟨s0, s1, s2, t0, t1, t2, tz⟩ := row3 hSw; go_simp; try with_reducible rfl)
  (try simp only [Act.put, List.setIfInBounds_toArray, List.set_cons_zero, List.set_cons_succ])
  have C0 := Lib.hid (below_dn (Below.refl u4.heap.size u4) 1)
  have E0 := Lib.hid (show u4.drew.heap[W.heap.size + 1]? = _ from R1.out)
  refine till_one (i := 2) (o := { dst := some 41, op := _, type := _, pos := _, after := _, guard := _ }) (by kernel_rfl) rfl (fun K hK => ?_)
  go_simp
  go_at_call 22
  refine (r24fixed 1 1 _).mono ?_
  rintro e0 w0 ⟨rfl, hb0⟩
  have E1 := Lib.hid (row_on E0.out hb0)
  have C1 := Lib.hid (below_on C0.out hb0)
  refine hK.out _ _ (.inr E1.out) ?_
  clear hK K hb0 E0
  (try simp only [Act.put, List.setIfInBounds_toArray, List.set_cons_zero, List.set_cons_succ])
  refine till_one (i := 3) (o := { dst := some 42, op := _, type := _, pos := _, after := _, guard := _ }) (by kernel_rfl) rfl (fun K hK => ?_)
  go_simp
  go_at_call 23
  refine (r24feast ⟨#[109, 97, 114, 121, 45, 109, 111, 116, 104, 101, 114, 45, 111, 102, 45, 103, 111, 100]⟩ 1 2 1 1 1 0 0 0 _).mono ?_
  rintro e1 w1 ⟨rfl, hb1⟩
  have E2 := Lib.hid (row_on E1.out hb1)
  have C2 := Lib.hid (below_on C1.out hb1)
  refine hK.out _ _ (.inr E2.out) ?_
  clear hK K hb1 E1
  (try simp only [Act.put, List.setIfInBounds_toArray, List.set_cons_zero, List.set_cons_succ])
  refine till_one (i := 4) (o := { dst := some 43, op := _, type := _, pos := _, after := _, guard := _ }) (by kernel_rfl) rfl (fun K hK => ?_)
  go_simp
  go_at_call 22
  refine (r24fixed 1 6 _).mono ?_
  rintro e2 w2 ⟨rfl, hb2⟩
  have E3 := Lib.hid (row_on E2.out hb2)
  have C3 := Lib.hid (below_on C2.out hb2)
  refine hK.out _ _ (.inr E3.out) ?_
  clear hK K hb2 E2
  (try simp only [Act.put, List.setIfInBounds_toArray, List.set_cons_zero, List.set_cons_succ])
  refine till_one (i := 5) (o := { dst := some 44, op := _, type := _, pos := _, after := _, guard := _ }) (by kernel_rfl) rfl (fun K hK => ?_)
  go_simp
  go_at_call 23
  refine (r24feast ⟨#[101, 112, 105, 112, 104, 97, 110, 121]⟩ 1 2 1 1 6 0 0 0 _).mono ?_
  rintro e3 w3 ⟨rfl, hb3⟩
  have E4 := Lib.hid (row_on E3.out hb3)
  have C4 := Lib.hid (below_on C3.out hb3)
  refine hK.out _ _ (.inr E4.out) ?_
  clear hK K hb3 E3
  (try simp only [Act.put, List.setIfInBounds_toArray, List.set_cons_zero, List.set_cons_succ])
  refine till_one (i := 6) (o := { dst := some 45, op := _, type := _, pos := _, after := _, guard := _ }) (by kernel_rfl) rfl (fun K hK => ?_)
  go_simp
  go_at_call 21
  refine (r24sunday 1 7 _).mono ?_
  rintro e4 w4 ⟨rfl, hb4⟩
  have E5 := Lib.hid (row_on E4.out hb4)
  have C5 := Lib.hid (below_on C4.out hb4)
  refine hK.out _ _ (.inr E5.out) ?_
  clear hK K hb4 E4
  (try simp only [Act.put, List.setIfInBounds_toArray, List.set_cons_zero, List.set_cons_succ])
  refine till_one (i := 7) (o := { dst := some 46, op := _, type := _, pos := _, after := _, guard := _ }) (by kernel_rfl) rfl (fun K hK => ?_)
  go_simp
  go_at_call 23
  refine (r24feast ⟨#[98, 97, 112, 116, 105, 115, 109, 45, 111, 102, 45, 116, 104, 101, 45, 108, 111, 114, 100]⟩ 2 3 3 1 7 0 0 1 _).mono ?_
  rintro e5 w5 ⟨rfl, hb5⟩
  have E6 := Lib.hid (row_on E5.out hb5)
  have C6 := Lib.hid (below_on C5.out hb5)
  refine hK.out _ _ (.inr E6.out) ?_
  clear hK K hb5 E5
  (try simp only [Act.put, List.setIfInBounds_toArray, List.set_cons_zero, List.set_cons_succ])
  refine till_one (i := 8) (o := { dst := some 47, op := _, type := _, pos := _, after := _, guard := _ }) (by kernel_rfl) rfl (fun K hK => ?_)
  go_simp
  have E := Lib.hid (row_al E6.out (.cells #[.string ⟨#[109, 97, 114, 121, 45, 109, 111, 116, 104, 101, 114, 45, 111, 102, 45, 103, 111, 100]⟩, .int .i64 1, .int .i64 2, .int .i64 1, .int .i64 1, .int .i64 1, .int .i64 0, .int .i64 0, .int .i64 0, .string ⟨#[101, 112, 105, 112, 104, 97, 110, 121]⟩, .int .i64 1, .int .i64 2, .int .i64 1, .int .i64 1, .int .i64 6, .int .i64 0, .int .i64 0, .int .i64 0, .string ⟨#[98, 97, 112, 116, 105, 115, 109, 45, 111, 102, 45, 116, 104, 101, 45, 108, 111, 114, 100]⟩, .int .i64 2, .int .i64 3, .int .i64 3, .int .i64 1, .int .i64 7, .int .i64 0, .int .i64 0, .int .i64 1] 35))
  have C := Lib.hid (C6.out.alloc C6.out.size (.cells #[.string ⟨#[109, 97, 114, 121, 45, 109, 111, 116, 104, 101, 114, 45, 111, 102, 45, 103, 111, 100]⟩, .int .i64 1, .int .i64 2, .int .i64 1, .int .i64 1, .int .i64 1, .int .i64 0, .int .i64 0, .int .i64 0, .string ⟨#[101, 112, 105, 112, 104, 97, 110, 121]⟩, .int .i64 1, .int .i64 2, .int .i64 1, .int .i64 1, .int .i64 6, .int .i64 0, .int .i64 0, .int .i64 0, .string ⟨#[98, 97, 112, 116, 105, 115, 109, 45, 111, 102, 45, 116, 104, 101, 45, 108, 111, 114, 100]⟩, .int .i64 2, .int .i64 3, .int .i64 3, .int .i64 1, .int .i64 7, .int .i64 0, .int .i64 0, .int .i64 1] 35))
  have NW := Lib.hid (World.news_of_block (heap_alloc_new w5 (.cells #[.string ⟨#[109, 97, 114, 121, 45, 109, 111, 116, 104, 101, 114, 45, 111, 102, 45, 103, 111, 100]⟩, .int .i64 1, .int .i64 2, .int .i64 1, .int .i64 1, .int .i64 1, .int .i64 0, .int .i64 0, .int .i64 0, .string ⟨#[101, 112, 105, 112, 104, 97, 110, 121]⟩, .int .i64 1, .int .i64 2, .int .i64 1, .int .i64 1, .int .i64 6, .int .i64 0, .int .i64 0, .int .i64 0, .string ⟨#[98, 97, 112, 116, 105, 115, 109, 45, 111, 102, 45, 116, 104, 101, 45, 108, 111, 114, 100]⟩, .int .i64 2, .int .i64 3, .int .i64 3, .int .i64 1, .int .i64 7, .int .i64 0, .int .i64 0, .int .i64 1] 35)))
  have OW := Lib.hid (LF.out.on C.out)
  have OT := Lib.hid (LS.out.on C.out)
  have ZW := Lib.hid (Nat.le_trans Z0.out C.out.size)
  have Q0 := Lib.hid (row_on R0.out C.out)
  have BW := Lib.hid (below_on B0.out C.out)
  refine hK.out _ _ (.inr E.out) ?_
  clear hK K C E6
  (try simp only [Act.put, List.setIfInBounds_toArray, List.set_cons_zero, List.set_cons_succ])
  refine till_one (i := 9) (o := { dst := some 48, op := _, type := _, pos := _, after := _, guard := _ }) (by kernel_rfl) rfl (fun K hK => ?_)
  rw [if_pos (by rfl)]
  refine wp_append_lies _ _ _ 24 (by rfl) (W.heap.size + 2) 35 iF (.agg #[.string ⟨#[]⟩, .int .i64 0, .int .i64 0, .int .i64 0, .int .i64 0, .int .i64 0, .int .i64 0, .int .i64 0, .int .i64 0]) 9 80 Try.underlying24 hiF hF0 hF1 hF2 rfl (by decide) (.slice none 0 0) 0 (flat9 []) (by rfl) OW.out ⟨w5.heap.size, 0, none⟩ 3 3 (flat9 [bf0, bf1, bf2]) (by rfl) (by rfl) NW.out (flat9_one [bf0, bf1, bf2]) (by decide) (by unfold maxLen; omega) (by decide) ZW.out _ rfl ?_
  intro g4 c4 wz hown hgrow _ _
  have EZ := Lib.hid (show wz.heap[W.heap.size + 1]? = some (catO 5 (.slice (some ⟨g3, 0, none⟩) 8 c3) (.slice none 0 0)) by
    rw [hgrow.block (W.heap.size + 1) (Array.getElem?_eq_some_iff.1 E.out).1 (fun e => absurd (World.ownsRow.lt OW.out _ e.symm).1 (by omega))]; exact E.out)
  have QZ := Lib.hid (show wz.heap[W.heap.size]? = some (catO 0 (.slice none 0 0) (.slice none 0 0)) by
    rw [hgrow.block W.heap.size (Array.getElem?_eq_some_iff.1 Q0.out).1 (fun e => absurd (World.ownsRow.lt OW.out _ e.symm).1 (by omega))]; exact Q0.out)
  have BZ := Lib.hid (BW.out.grown hgrow (Nat.le_trans (by omega) ZW.out) (fun k e => Nat.le_trans (by omega) (World.ownsRow.lt OW.out k e).1))
  have TZ := Lib.hid (ItsAt.oth OT.out OW.out hgrow (by decide))
  have ZZ := Lib.hid (Nat.le_trans ZW.out hgrow.size)
  have OZ := Lib.hid (show ItsAt 35 (W.heap.size + 2) (.slice (some ⟨g4, 0, none⟩) 3 c4) [bf0, bf1, bf2] wz from ItsAt.app (xs := []) (ys := [bf0, bf1, bf2]) hown)
  clear hown hgrow OW OT ZW Q0 BW E NW
  refine hK.out _ _ (.inl rfl) ?_
  clear hK K
  (try simp only [Act.put, List.setIfInBounds_toArray, List.set_cons_zero, List.set_cons_succ])
  refine till_take (i := 10) (oi := { dst := some 49, op := _, type := _, pos := _, after := _, guard := _ }) (v := ?v16) rfl (by kernel_rfl) (by kernel_rfl) (by kernel_rfl) (fun _ _ _ h => h) (by decide) (Or.inl ⟨by rfl, ?h16⟩) (.inl rfl) ?_
  case h16 => (intro w _; go_simp; try with_reducible rfl)
  (try simp only [Act.put, List.setIfInBounds_toArray, List.set_cons_zero, List.set_cons_succ])
  obtain ⟨r0, r1, r2, f0, f1, f2, rz⟩ := row3 EZ.out
  refine till_one (i := 11) (o := { dst := none, op := _, type := _, pos := _, after := _, guard := _ }) (by kernel_rfl) rfl (fun K hK => ?_)
  go_simp
  refine hK.out _ _ (.inl rfl) ?_
  clear hK K r0 r1 r2 f0 f1 f2 rz
  refine till_done (by kernel_rfl) ?_ _
  have R1' := Lib.hid (show (wz.setCell ⟨W.heap.size + 1, 2, none⟩ (.slice (some ⟨g4, 0, none⟩) 3 c4)).heap[W.heap.size + 1]? = some (catO 5 (.slice (some ⟨g3, 0, none⟩) 8 c3) (.slice (some ⟨g4, 0, none⟩) 3 c4)) from heap_setCell_same wz _ 2 _ _ (.slice (some ⟨g4, 0, none⟩) 3 c4) EZ.out)
  have R0' := Lib.hid (show (wz.setCell ⟨W.heap.size + 1, 2, none⟩ (.slice (some ⟨g4, 0, none⟩) 3 c4)).heap[W.heap.size]? = some (catO 0 (.slice none 0 0) (.slice none 0 0)) by rw [heap_setCell_other _ _ _ _ (by simp)]; exact QZ.out)
  have LF' := Lib.hid (OZ.out.put (p := ⟨W.heap.size + 1, 2, none⟩) (show W.heap.size + 1 < W.heap.size + 2 by omega) (.slice (some ⟨g4, 0, none⟩) 3 c4))
  have LS' := Lib.hid (TZ.out.put (p := ⟨W.heap.size + 1, 2, none⟩) (show W.heap.size + 1 < W.heap.size + 2 by omega) (.slice (some ⟨g4, 0, none⟩) 3 c4))
  have B0' := Lib.hid (BZ.out.setCell (p := ⟨W.heap.size + 1, 2, none⟩) (show W.heap.size ≤ W.heap.size + 1 by omega) (.slice (some ⟨g4, 0, none⟩) 3 c4))
  have Z0' := Lib.hid (show W.heap.size + 2 ≤ (wz.setCell ⟨W.heap.size + 1, 2, none⟩ (.slice (some ⟨g4, 0, none⟩) 3 c4)).heap.size by simpa using ZZ.out)
  clear R1 R0 LS LF B0 Z0 EZ QZ BZ TZ ZZ OZ C0 C1 C2 C3 C4 C5 C6
  generalize wz.setCell ⟨W.heap.size + 1, 2, none⟩ (.slice (some ⟨g4, 0, none⟩) 3 c4) = u5 at *
  replace R1 := R1'; replace R0 := R0'; replace LS := LS'; replace LF := LF'; replace B0 := B0'; replace Z0 := Z0'
  go_wp2_with fail
  refine till_start (fun u => u.heap[W.heap.size + 1]? = some (catO 5 (.slice (some ⟨g3, 0, none⟩) 8 c3) (.slice (some ⟨g4, 0, none⟩) 3 c4))) 9 (by kernel_rfl) ?_
  refine till_take (i := 0) (oi := { dst := some 50, op := _, type := _, pos := _, after := _, guard := _ }) (v := ?v17) rfl (by kernel_rfl) (by kernel_rfl) (by kernel_rfl) (fun _ _ _ h => h) (by decide) (Or.inl ⟨by rfl, ?h17⟩) (.inr R1.out) ?_
  case h17 => (intro w _; go_simp; try with_reducible rfl)
  (try simp only [Act.put, List.setIfInBounds_toArray, List.set_cons_zero, List.set_cons_succ])
  refine till_take_load (i := 1) (oi := { dst := some 51, op := _, type := _, pos := _, after := _, guard := _ }) (v := ?v18) rfl (by kernel_rfl) (by kernel_rfl) (by kernel_rfl) (fun _ _ _ h => h) (by kernel_rfl) (by decide) (by kernel_rfl) (Or.inl ⟨by rfl, ?h18⟩) R1.out ?_
  case h18 => (intro w hSw; (try dsimp only at hSw); obtain ⟨s0, s1, s2, t0, t1, t2, tz⟩ := row3 hSw; go_simp; try with_reducible rfl)
  (try simp only [Act.put, List.setIfInBounds_toArray, List.set_cons_zero, List.set_cons_succ])
  have C0 := Lib.hid (below_dn (Below.refl u5.heap.size u5) 1)
  have E0 := Lib.hid (show u5.drew.heap[W.heap.size + 1]? = _ from R1.out)
  refine till_one (i := 2) (o := { dst := some 52, op := _, type := _, pos := _, after := _, guard := _ }) (by kernel_rfl) rfl (fun K hK => ?_)
  go_simp
  go_at_call 22
  refine (r24fixed 1 25 _).mono ?_
  rintro e0 w0 ⟨rfl, hb0⟩
  have E1 := Lib.hid (row_on E0.out hb0)
  have C1 := Lib.hid (below_on C0.out hb0)
  refine hK.out _ _ (.inr E1.out) ?_
  clear hK K hb0 E0
  (try simp only [Act.put, List.setIfInBounds_toArray, List.set_cons_zero, List.set_cons_succ])
  refine till_one (i := 3) (o := { dst := some 53, op := _, type := _, pos := _, after := _, guard := _ }) (by kernel_rfl) rfl (fun K hK => ?_)
  go_simp
  go_at_call 23
  refine (r24feast ⟨#[99, 111, 110, 118, 101, 114, 115, 105, 111, 110, 45, 111, 102, 45, 112, 97, 117, 108]⟩ 4 3 1 1 25 0 0 0 _).mono ?_
  rintro e1 w1 ⟨rfl, hb1⟩
  have E2 := Lib.hid (row_on E1.out hb1)
  have C2 := Lib.hid (below_on C1.out hb1)
  refine hK.out _ _ (.inr E2.out) ?_
  clear hK K hb1 E1
  (try simp only [Act.put, List.setIfInBounds_toArray, List.set_cons_zero, List.set_cons_succ])
  refine till_one (i := 4) (o := { dst := some 54, op := _, type := _, pos := _, after := _, guard := _ }) (by kernel_rfl) rfl (fun K hK => ?_)
  go_simp
  go_at_call 22
  refine (r24fixed 2 2 _).mono ?_
  rintro e2 w2 ⟨rfl, hb2⟩
  have E3 := Lib.hid (row_on E2.out hb2)
  have C3 := Lib.hid (below_on C2.out hb2)
  refine hK.out _ _ (.inr E3.out) ?_
  clear hK K hb2 E2
  (try simp only [Act.put, List.setIfInBounds_toArray, List.set_cons_zero, List.set_cons_succ])
  refine till_one (i := 5) (o := { dst := some 55, op := _, type := _, pos := _, after := _, guard := _ }) (by kernel_rfl) rfl (fun K hK => ?_)
  go_simp
  go_at_call 23
  refine (r24feast ⟨#[112, 114, 101, 115, 101, 110, 116, 97, 116, 105, 111, 110]⟩ 2 3 1 2 2 0 0 0 _).mono ?_
  rintro e3 w3 ⟨rfl, hb3⟩
  have E4 := Lib.hid (row_on E3.out hb3)
  have C4 := Lib.hid (below_on C3.out hb3)
  refine hK.out _ _ (.inr E4.out) ?_
  clear hK K hb3 E3
  (try simp only [Act.put, List.setIfInBounds_toArray, List.set_cons_zero, List.set_cons_succ])
  refine till_one (i := 6) (o := { dst := some 56, op := _, type := _, pos := _, after := _, guard := _ }) (by kernel_rfl) rfl (fun K hK => ?_)
  go_simp
  go_at_call 22
  refine (r24fixed 2 22 _).mono ?_
  rintro e4 w4 ⟨rfl, hb4⟩
  have E5 := Lib.hid (row_on E4.out hb4)
  have C5 := Lib.hid (below_on C4.out hb4)
  refine hK.out _ _ (.inr E5.out) ?_
  clear hK K hb4 E4
  (try simp only [Act.put, List.setIfInBounds_toArray, List.set_cons_zero, List.set_cons_succ])
  refine till_one (i := 7) (o := { dst := some 57, op := _, type := _, pos := _, after := _, guard := _ }) (by kernel_rfl) rfl (fun K hK => ?_)
  go_simp
  go_at_call 23
  refine (r24feast ⟨#[99, 104, 97, 105, 114, 45, 111, 102, 45, 112, 101, 116, 101, 114]⟩ 4 2 1 2 22 0 0 0 _).mono ?_
  rintro e5 w5 ⟨rfl, hb5⟩
  have E6 := Lib.hid (row_on E5.out hb5)
  have C6 := Lib.hid (below_on C5.out hb5)
  refine hK.out _ _ (.inr E6.out) ?_
  clear hK K hb5 E5
  (try simp only [Act.put, List.setIfInBounds_toArray, List.set_cons_zero, List.set_cons_succ])
  refine till_one (i := 8) (o := { dst := some 58, op := _, type := _, pos := _, after := _, guard := _ }) (by kernel_rfl) rfl (fun K hK => ?_)
  go_simp
  have E := Lib.hid (row_al E6.out (.cells #[.string ⟨#[99, 111, 110, 118, 101, 114, 115, 105, 111, 110, 45, 111, 102, 45, 112, 97, 117, 108]⟩, .int .i64 4, .int .i64 3, .int .i64 1, .int .i64 1, .int .i64 25, .int .i64 0, .int .i64 0, .int .i64 0, .string ⟨#[112, 114, 101, 115, 101, 110, 116, 97, 116, 105, 111, 110]⟩, .int .i64 2, .int .i64 3, .int .i64 1, .int .i64 2, .int .i64 2, .int .i64 0, .int .i64 0, .int .i64 0, .string ⟨#[99, 104, 97, 105, 114, 45, 111, 102, 45, 112, 101, 116, 101, 114]⟩, .int .i64 4, .int .i64 2, .int .i64 1, .int .i64 2, .int .i64 22, .int .i64 0, .int .i64 0, .int .i64 0] 35))
  have C := Lib.hid (C6.out.alloc C6.out.size (.cells #[.string ⟨#[99, 111, 110, 118, 101, 114, 115, 105, 111, 110, 45, 111, 102, 45, 112, 97, 117, 108]⟩, .int .i64 4, .int .i64 3, .int .i64 1, .int .i64 1, .int .i64 25, .int .i64 0, .int .i64 0, .int .i64 0, .string ⟨#[112, 114, 101, 115, 101, 110, 116, 97, 116, 105, 111, 110]⟩, .int .i64 2, .int .i64 3, .int .i64 1, .int .i64 2, .int .i64 2, .int .i64 0, .int .i64 0, .int .i64 0, .string ⟨#[99, 104, 97, 105, 114, 45, 111, 102, 45, 112, 101, 116, 101, 114]⟩, .int .i64 4, .int .i64 2, .int .i64 1, .int .i64 2, .int .i64 22, .int .i64 0, .int .i64 0, .int .i64 0] 35))
  have NW := Lib.hid (World.news_of_block (heap_alloc_new w5 (.cells #[.string ⟨#[99, 111, 110, 118, 101, 114, 115, 105, 111, 110, 45, 111, 102, 45, 112, 97, 117, 108]⟩, .int .i64 4, .int .i64 3, .int .i64 1, .int .i64 1, .int .i64 25, .int .i64 0, .int .i64 0, .int .i64 0, .string ⟨#[112, 114, 101, 115, 101, 110, 116, 97, 116, 105, 111, 110]⟩, .int .i64 2, .int .i64 3, .int .i64 1, .int .i64 2, .int .i64 2, .int .i64 0, .int .i64 0, .int .i64 0, .string ⟨#[99, 104, 97, 105, 114, 45, 111, 102, 45, 112, 101, 116, 101, 114]⟩, .int .i64 4, .int .i64 2, .int .i64 1, .int .i64 2, .int .i64 22, .int .i64 0, .int .i64 0, .int .i64 0] 35)))
  have OW := Lib.hid (LF.out.on C.out)
  have OT := Lib.hid (LS.out.on C.out)
  have ZW := Lib.hid (Nat.le_trans Z0.out C.out.size)
  have Q0 := Lib.hid (row_on R0.out C.out)
  have BW := Lib.hid (below_on B0.out C.out)
  refine hK.out _ _ (.inr E.out) ?_
  clear hK K C E6
  (try simp only [Act.put, List.setIfInBounds_toArray, List.set_cons_zero, List.set_cons_succ])
  refine till_one (i := 9) (o := { dst := some 59, op := _, type := _, pos := _, after := _, guard := _ }) (by kernel_rfl) rfl (fun K hK => ?_)
  rw [if_pos (by rfl)]
  refine wp_append_lies _ _ _ 24 (by rfl) (W.heap.size + 2) 35 iF (.agg #[.string ⟨#[]⟩, .int .i64 0, .int .i64 0, .int .i64 0, .int .i64 0, .int .i64 0, .int .i64 0, .int .i64 0, .int .i64 0]) 9 80 Try.underlying24 hiF hF0 hF1 hF2 rfl (by decide) (.slice (some ⟨g4, 0, none⟩) 3 c4) 3 (flat9 [bf0, bf1, bf2]) (by rfl) OW.out ⟨w5.heap.size, 0, none⟩ 3 3 (flat9 [bf3, bf4, bf5]) (by rfl) (by rfl) NW.out (flat9_one [bf3, bf4, bf5]) (by decide) (by unfold maxLen; omega) (by decide) ZW.out _ rfl ?_
  intro g5 c5 wz hown hgrow _ _
  have EZ := Lib.hid (show wz.heap[W.heap.size + 1]? = some (catO 5 (.slice (some ⟨g3, 0, none⟩) 8 c3) (.slice (some ⟨g4, 0, none⟩) 3 c4)) by
    rw [hgrow.block (W.heap.size + 1) (Array.getElem?_eq_some_iff.1 E.out).1 (fun e => absurd (World.ownsRow.lt OW.out _ e.symm).1 (by omega))]; exact E.out)
  have QZ := Lib.hid (show wz.heap[W.heap.size]? = some (catO 0 (.slice none 0 0) (.slice none 0 0)) by
    rw [hgrow.block W.heap.size (Array.getElem?_eq_some_iff.1 Q0.out).1 (fun e => absurd (World.ownsRow.lt OW.out _ e.symm).1 (by omega))]; exact Q0.out)
  have BZ := Lib.hid (BW.out.grown hgrow (Nat.le_trans (by omega) ZW.out) (fun k e => Nat.le_trans (by omega) (World.ownsRow.lt OW.out k e).1))
  have TZ := Lib.hid (ItsAt.oth OT.out OW.out hgrow (by decide))
  have ZZ := Lib.hid (Nat.le_trans ZW.out hgrow.size)
  have OZ := Lib.hid (show ItsAt 35 (W.heap.size + 2) (.slice (some ⟨g5, 0, none⟩) 6 c5) [bf0, bf1, bf2, bf3, bf4, bf5] wz from ItsAt.app (xs := [bf0, bf1, bf2]) (ys := [bf3, bf4, bf5]) hown)
  clear hown hgrow OW OT ZW Q0 BW E NW
  refine hK.out _ _ (.inl rfl) ?_
  clear hK K
  (try simp only [Act.put, List.setIfInBounds_toArray, List.set_cons_zero, List.set_cons_succ])
  refine till_take (i := 10) (oi := { dst := some 60, op := _, type := _, pos := _, after := _, guard := _ }) (v := ?v19) rfl (by kernel_rfl) (by kernel_rfl) (by kernel_rfl) (fun _ _ _ h => h) (by decide) (Or.inl ⟨by rfl, ?h19⟩) (.inl rfl) ?_
  case h19 => (intro w _; go_simp; try with_reducible rfl)
  (try simp only [Act.put, List.setIfInBounds_toArray, List.set_cons_zero, List.set_cons_succ])
  obtain ⟨r0, r1, r2, f0, f1, f2, rz⟩ := row3 EZ.out
  refine till_one (i := 11) (o := { dst := none, op := _, type := _, pos := _, after := _, guard := _ }) (by kernel_rfl) rfl (fun K hK => ?_)
  go_simp
  refine hK.out _ _ (.inl rfl) ?_
  clear hK K r0 r1 r2 f0 f1 f2 rz
  refine till_done (by kernel_rfl) ?_ _
  have R1' := Lib.hid (show (wz.setCell ⟨W.heap.size + 1, 2, none⟩ (.slice (some ⟨g5, 0, none⟩) 6 c5)).heap[W.heap.size + 1]? = some (catO 5 (.slice (some ⟨g3, 0, none⟩) 8 c3) (.slice (some ⟨g5, 0, none⟩) 6 c5)) from heap_setCell_same wz _ 2 _ _ (.slice (some ⟨g5, 0, none⟩) 6 c5) EZ.out)
  have R0' := Lib.hid (show (wz.setCell ⟨W.heap.size + 1, 2, none⟩ (.slice (some ⟨g5, 0, none⟩) 6 c5)).heap[W.heap.size]? = some (catO 0 (.slice none 0 0) (.slice none 0 0)) by rw [heap_setCell_other _ _ _ _ (by simp)]; exact QZ.out)
  have LF' := Lib.hid (OZ.out.put (p := ⟨W.heap.size + 1, 2, none⟩) (show W.heap.size + 1 < W.heap.size + 2 by omega) (.slice (some ⟨g5, 0, none⟩) 6 c5))
  have LS' := Lib.hid (TZ.out.put (p := ⟨W.heap.size + 1, 2, none⟩) (show W.heap.size + 1 < W.heap.size + 2 by omega) (.slice (some ⟨g5, 0, none⟩) 6 c5))
  have B0' := Lib.hid (BZ.out.setCell (p := ⟨W.heap.size + 1, 2, none⟩) (show W.heap.size ≤ W.heap.size + 1 by omega) (.slice (some ⟨g5, 0, none⟩) 6 c5))
  have Z0' := Lib.hid (show W.heap.size + 2 ≤ (wz.setCell ⟨W.heap.size + 1, 2, none⟩ (.slice (some ⟨g5, 0, none⟩) 6 c5)).heap.size by simpa using ZZ.out)
  clear R1 R0 LS LF B0 Z0 EZ QZ BZ TZ ZZ OZ C0 C1 C2 C3 C4 C5 C6
  generalize wz.setCell ⟨W.heap.size + 1, 2, none⟩ (.slice (some ⟨g5, 0, none⟩) 6 c5) = u6 at *
  replace R1 := R1'; replace R0 := R0'; replace LS := LS'; replace LF := LF'; replace B0 := B0'; replace Z0 := Z0'
  go_wp2_with fail
  refine till_start (fun u => u.heap[W.heap.size + 1]? = some (catO 5 (.slice (some ⟨g3, 0, none⟩) 8 c3) (.slice (some ⟨g5, 0, none⟩) 6 c5))) 7 (by kernel_rfl) ?_
  refine till_take (i := 0) (oi := { dst := some 61, op := _, type := _, pos := _, after := _, guard := _ }) (v := ?v20) rfl (by kernel_rfl) (by kernel_rfl) (by kernel_rfl) (fun _ _ _ h => h) (by decide) (Or.inl ⟨by rfl, ?h20⟩) (.inr R1.out) ?_
  case h20 => (intro w _; go_simp; try with_reducible rfl)
  (try simp only [Act.put, List.setIfInBounds_toArray, List.set_cons_zero, List.set_cons_succ])
  refine till_take_load (i := 1) (oi := { dst := some 62, op := _, type := _, pos := _, after := _, guard := _ }) (v := ?v21) rfl (by kernel_rfl) (by kernel_rfl) (by kernel_rfl) (fun _ _ _ h => h) (by kernel_rfl) (by decide) (by kernel_rfl) (Or.inl ⟨by rfl, ?h21⟩) R1.out ?_
  case h21 => (intro w hSw; (try dsimp only at hSw); obtain ⟨s0, s1, s2, t0, t1, t2, tz⟩ := row3 hSw; go_simp; try with_reducible rfl)
  (try simp only [Act.put, List.setIfInBounds_toArray, List.set_cons_zero, List.set_cons_succ])
  have C0 := Lib.hid (below_dn (Below.refl u6.heap.size u6) 1)
  have E0 := Lib.hid (show u6.drew.heap[W.heap.size + 1]? = _ from R1.out)
  refine till_one (i := 2) (o := { dst := some 63, op := _, type := _, pos := _, after := _, guard := _ }) (by kernel_rfl) rfl (fun K hK => ?_)
  go_simp
  go_at_call 22
  refine (r24fixed 3 19 _).mono ?_
  rintro e0 w0 ⟨rfl, hb0⟩
  have E1 := Lib.hid (row_on E0.out hb0)
  have C1 := Lib.hid (below_on C0.out hb0)
  refine hK.out _ _ (.inr E1.out) ?_
  clear hK K hb0 E0
  (try simp only [Act.put, List.setIfInBounds_toArray, List.set_cons_zero, List.set_cons_succ])
  refine till_one (i := 3) (o := { dst := some 64, op := _, type := _, pos := _, after := _, guard := _ }) (by kernel_rfl) rfl (fun K hK => ?_)
  go_simp
  go_at_call 23
  refine (r24feast ⟨#[106, 111, 115, 101, 112, 104]⟩ 1 1 1 3 19 0 0 0 _).mono ?_
  rintro e1 w1 ⟨rfl, hb1⟩
  have E2 := Lib.hid (row_on E1.out hb1)
  have C2 := Lib.hid (below_on C1.out hb1)
  refine hK.out _ _ (.inr E2.out) ?_
  clear hK K hb1 E1
  (try simp only [Act.put, List.setIfInBounds_toArray, List.set_cons_zero, List.set_cons_succ])
  refine till_one (i := 4) (o := { dst := some 65, op := _, type := _, pos := _, after := _, guard := _ }) (by kernel_rfl) rfl (fun K hK => ?_)
  go_simp
  go_at_call 22
  refine (r24fixed 3 25 _).mono ?_
  rintro e2 w2 ⟨rfl, hb2⟩
  have E3 := Lib.hid (row_on E2.out hb2)
  have C3 := Lib.hid (below_on C2.out hb2)
  refine hK.out _ _ (.inr E3.out) ?_
  clear hK K hb2 E2
  (try simp only [Act.put, List.setIfInBounds_toArray, List.set_cons_zero, List.set_cons_succ])
  refine till_one (i := 5) (o := { dst := some 66, op := _, type := _, pos := _, after := _, guard := _ }) (by kernel_rfl) rfl (fun K hK => ?_)
  go_simp
  go_at_call 23
  refine (r24feast ⟨#[97, 110, 110, 117, 110, 99, 105, 97, 116, 105, 111, 110]⟩ 1 1 1 3 25 0 0 0 _).mono ?_
  rintro e3 w3 ⟨rfl, hb3⟩
  have E4 := Lib.hid (row_on E3.out hb3)
  have C4 := Lib.hid (below_on C3.out hb3)
  refine hK.out _ _ (.inr E4.out) ?_
  clear hK K hb3 E3
  (try simp only [Act.put, List.setIfInBounds_toArray, List.set_cons_zero, List.set_cons_succ])
  refine till_one (i := 6) (o := { dst := some 67, op := _, type := _, pos := _, after := _, guard := _ }) (by kernel_rfl) rfl (fun K hK => ?_)
  go_simp
  have E := Lib.hid (row_al E4.out (.cells #[.string ⟨#[106, 111, 115, 101, 112, 104]⟩, .int .i64 1, .int .i64 1, .int .i64 1, .int .i64 3, .int .i64 19, .int .i64 0, .int .i64 0, .int .i64 0, .string ⟨#[97, 110, 110, 117, 110, 99, 105, 97, 116, 105, 111, 110]⟩, .int .i64 1, .int .i64 1, .int .i64 1, .int .i64 3, .int .i64 25, .int .i64 0, .int .i64 0, .int .i64 0] 35))
  have C := Lib.hid (C4.out.alloc C4.out.size (.cells #[.string ⟨#[106, 111, 115, 101, 112, 104]⟩, .int .i64 1, .int .i64 1, .int .i64 1, .int .i64 3, .int .i64 19, .int .i64 0, .int .i64 0, .int .i64 0, .string ⟨#[97, 110, 110, 117, 110, 99, 105, 97, 116, 105, 111, 110]⟩, .int .i64 1, .int .i64 1, .int .i64 1, .int .i64 3, .int .i64 25, .int .i64 0, .int .i64 0, .int .i64 0] 35))
  have NW := Lib.hid (World.news_of_block (heap_alloc_new w3 (.cells #[.string ⟨#[106, 111, 115, 101, 112, 104]⟩, .int .i64 1, .int .i64 1, .int .i64 1, .int .i64 3, .int .i64 19, .int .i64 0, .int .i64 0, .int .i64 0, .string ⟨#[97, 110, 110, 117, 110, 99, 105, 97, 116, 105, 111, 110]⟩, .int .i64 1, .int .i64 1, .int .i64 1, .int .i64 3, .int .i64 25, .int .i64 0, .int .i64 0, .int .i64 0] 35)))
  have OW := Lib.hid (LF.out.on C.out)
  have OT := Lib.hid (LS.out.on C.out)
  have ZW := Lib.hid (Nat.le_trans Z0.out C.out.size)
  have Q0 := Lib.hid (row_on R0.out C.out)
  have BW := Lib.hid (below_on B0.out C.out)
  refine hK.out _ _ (.inr E.out) ?_
  clear hK K C E4
  (try simp only [Act.put, List.setIfInBounds_toArray, List.set_cons_zero, List.set_cons_succ])
  refine till_one (i := 7) (o := { dst := some 68, op := _, type := _, pos := _, after := _, guard := _ }) (by kernel_rfl) rfl (fun K hK => ?_)
  rw [if_pos (by rfl)]
  refine wp_append_lies _ _ _ 24 (by rfl) (W.heap.size + 2) 35 iF (.agg #[.string ⟨#[]⟩, .int .i64 0, .int .i64 0, .int .i64 0, .int .i64 0, .int .i64 0, .int .i64 0, .int .i64 0, .int .i64 0]) 9 80 Try.underlying24 hiF hF0 hF1 hF2 rfl (by decide) (.slice (some ⟨g5, 0, none⟩) 6 c5) 6 (flat9 [bf0, bf1, bf2, bf3, bf4, bf5]) (by rfl) OW.out ⟨w3.heap.size, 0, none⟩ 2 2 (flat9 [bf6, bf7]) (by rfl) (by rfl) NW.out (flat9_one [bf6, bf7]) (by decide) (by unfold maxLen; omega) (by decide) ZW.out _ rfl ?_
  intro g6 c6 wz hown hgrow _ _
  have EZ := Lib.hid (show wz.heap[W.heap.size + 1]? = some (catO 5 (.slice (some ⟨g3, 0, none⟩) 8 c3) (.slice (some ⟨g5, 0, none⟩) 6 c5)) by
    rw [hgrow.block (W.heap.size + 1) (Array.getElem?_eq_some_iff.1 E.out).1 (fun e => absurd (World.ownsRow.lt OW.out _ e.symm).1 (by omega))]; exact E.out)
  have QZ := Lib.hid (show wz.heap[W.heap.size]? = some (catO 0 (.slice none 0 0) (.slice none 0 0)) by
    rw [hgrow.block W.heap.size (Array.getElem?_eq_some_iff.1 Q0.out).1 (fun e => absurd (World.ownsRow.lt OW.out _ e.symm).1 (by omega))]; exact Q0.out)
  have BZ := Lib.hid (BW.out.grown hgrow (Nat.le_trans (by omega) ZW.out) (fun k e => Nat.le_trans (by omega) (World.ownsRow.lt OW.out k e).1))
  have TZ := Lib.hid (ItsAt.oth OT.out OW.out hgrow (by decide))
  have ZZ := Lib.hid (Nat.le_trans ZW.out hgrow.size)
  have OZ := Lib.hid (show ItsAt 35 (W.heap.size + 2) (.slice (some ⟨g6, 0, none⟩) 8 c6) [bf0, bf1, bf2, bf3, bf4, bf5, bf6, bf7] wz from ItsAt.app (xs := [bf0, bf1, bf2, bf3, bf4, bf5]) (ys := [bf6, bf7]) hown)
  clear hown hgrow OW OT ZW Q0 BW E NW
  refine hK.out _ _ (.inl rfl) ?_
  clear hK K
  (try simp only [Act.put, List.setIfInBounds_toArray, List.set_cons_zero, List.set_cons_succ])
  refine till_take (i := 8) (oi := { dst := some 69, op := _, type := _, pos := _, after := _, guard := _ }) (v := ?v22) rfl (by kernel_rfl) (by kernel_rfl) (by kernel_rfl) (fun _ _ _ h => h) (by decide) (Or.inl ⟨by rfl, ?h22⟩) (.inl rfl) ?_
  case h22 => (intro w _; go_simp; try with_reducible rfl)
  (try simp only [Act.put, List.setIfInBounds_toArray, List.set_cons_zero, List.set_cons_succ])
  obtain ⟨r0, r1, r2, f0, f1, f2, rz⟩ := row3 EZ.out
  refine till_one (i := 9) (o := { dst := none, op := _, type := _, pos := _, after := _, guard := _ }) (by kernel_rfl) rfl (fun K hK => ?_)
  go_simp
  refine hK.out _ _ (.inl rfl) ?_
  clear hK K r0 r1 r2 f0 f1 f2 rz
  refine till_done (by kernel_rfl) ?_ _
  have R1' := Lib.hid (show (wz.setCell ⟨W.heap.size + 1, 2, none⟩ (.slice (some ⟨g6, 0, none⟩) 8 c6)).heap[W.heap.size + 1]? = some (catO 5 (.slice (some ⟨g3, 0, none⟩) 8 c3) (.slice (some ⟨g6, 0, none⟩) 8 c6)) from heap_setCell_same wz _ 2 _ _ (.slice (some ⟨g6, 0, none⟩) 8 c6) EZ.out)
  have R0' := Lib.hid (show (wz.setCell ⟨W.heap.size + 1, 2, none⟩ (.slice (some ⟨g6, 0, none⟩) 8 c6)).heap[W.heap.size]? = some (catO 0 (.slice none 0 0) (.slice none 0 0)) by rw [heap_setCell_other _ _ _ _ (by simp)]; exact QZ.out)
  have LF' := Lib.hid (OZ.out.put (p := ⟨W.heap.size + 1, 2, none⟩) (show W.heap.size + 1 < W.heap.size + 2 by omega) (.slice (some ⟨g6, 0, none⟩) 8 c6))
  have LS' := Lib.hid (TZ.out.put (p := ⟨W.heap.size + 1, 2, none⟩) (show W.heap.size + 1 < W.heap.size + 2 by omega) (.slice (some ⟨g6, 0, none⟩) 8 c6))
  have B0' := Lib.hid (BZ.out.setCell (p := ⟨W.heap.size + 1, 2, none⟩) (show W.heap.size ≤ W.heap.size + 1 by omega) (.slice (some ⟨g6, 0, none⟩) 8 c6))
  have Z0' := Lib.hid (show W.heap.size + 2 ≤ (wz.setCell ⟨W.heap.size + 1, 2, none⟩ (.slice (some ⟨g6, 0, none⟩) 8 c6)).heap.size by simpa using ZZ.out)
  clear R1 R0 LS LF B0 Z0 EZ QZ BZ TZ ZZ OZ C0 C1 C2 C3 C4
  generalize wz.setCell ⟨W.heap.size + 1, 2, none⟩ (.slice (some ⟨g6, 0, none⟩) 8 c6) = u7 at *
  replace R1 := R1'; replace R0 := R0'; replace LS := LS'; replace LF := LF'; replace B0 := B0'; replace Z0 := Z0'
  go_wp2_with fail
  refine till_start (fun u => u.heap[W.heap.size + 1]? = some (catO 5 (.slice (some ⟨g3, 0, none⟩) 8 c3) (.slice (some ⟨g6, 0, none⟩) 8 c6))) 9 (by kernel_rfl) ?_
  refine till_take (i := 0) (oi := { dst := some 70, op := _, type := _, pos := _, after := _, guard := _ }) (v := ?v23) rfl (by kernel_rfl) (by kernel_rfl) (by kernel_rfl) (fun _ _ _ h => h) (by decide) (Or.inl ⟨by rfl, ?h23⟩) (.inr R1.out) ?_
  case h23 => (intro w _; go_simp; try with_reducible rfl)
  (try simp only [Act.put, List.setIfInBounds_toArray, List.set_cons_zero, List.set_cons_succ])
  refine till_take_load (i := 1) (oi := { dst := some 71, op := _, type := _, pos := _, after := _, guard := _ }) (v := ?v24) rfl (by kernel_rfl) (by kernel_rfl) (by kernel_rfl) (fun _ _ _ h => h) (by kernel_rfl) (by decide) (by kernel_rfl) (Or.inl ⟨by rfl, ?h24⟩) R1.out ?_
  case h24 => (intro w hSw; (try dsimp only at hSw); obtain ⟨s0, s1, s2, t0, t1, t2, tz⟩ := row3 hSw; go_simp; try with_reducible rfl)
  (try simp only [Act.put, List.setIfInBounds_toArray, List.set_cons_zero, List.set_cons_succ])
  have C0 := Lib.hid (below_dn (Below.refl u7.heap.size u7) 1)
  have E0 := Lib.hid (show u7.drew.heap[W.heap.size + 1]? = _ from R1.out)
  refine till_one (i := 2) (o := { dst := some 72, op := _, type := _, pos := _, after := _, guard := _ }) (by kernel_rfl) rfl (fun K hK => ?_)
  go_simp
  go_at_call 20
  refine (r24paschal 39 _).mono ?_
  rintro e0 w0 ⟨rfl, hb0⟩
  have E1 := Lib.hid (row_on E0.out hb0)
  have C1 := Lib.hid (below_on C0.out hb0)
  refine hK.out _ _ (.inr E1.out) ?_
  clear hK K hb0 E0
  (try simp only [Act.put, List.setIfInBounds_toArray, List.set_cons_zero, List.set_cons_succ])
  refine till_one (i := 3) (o := { dst := some 73, op := _, type := _, pos := _, after := _, guard := _ }) (by kernel_rfl) rfl (fun K hK => ?_)
  go_simp
  go_at_call 23
  refine (r24feast ⟨#[97, 115, 99, 101, 110, 115, 105, 111, 110]⟩ 1 2 2 0 0 39 0 0 _).mono ?_
  rintro e1 w1 ⟨rfl, hb1⟩
  have E2 := Lib.hid (row_on E1.out hb1)
  have C2 := Lib.hid (below_on C1.out hb1)
  refine hK.out _ _ (.inr E2.out) ?_
  clear hK K hb1 E1
  (try simp only [Act.put, List.setIfInBounds_toArray, List.set_cons_zero, List.set_cons_succ])
  refine till_one (i := 4) (o := { dst := some 74, op := _, type := _, pos := _, after := _, guard := _ }) (by kernel_rfl) rfl (fun K hK => ?_)
  go_simp
  go_at_call 20
  refine (r24paschal 49 _).mono ?_
  rintro e2 w2 ⟨rfl, hb2⟩
  have E3 := Lib.hid (row_on E2.out hb2)
  have C3 := Lib.hid (below_on C2.out hb2)
  refine hK.out _ _ (.inr E3.out) ?_
  clear hK K hb2 E2
  (try simp only [Act.put, List.setIfInBounds_toArray, List.set_cons_zero, List.set_cons_succ])
  refine till_one (i := 5) (o := { dst := some 75, op := _, type := _, pos := _, after := _, guard := _ }) (by kernel_rfl) rfl (fun K hK => ?_)
  go_simp
  go_at_call 23
  refine (r24feast ⟨#[112, 101, 110, 116, 101, 99, 111, 115, 116]⟩ 1 2 2 0 0 49 0 0 _).mono ?_
  rintro e3 w3 ⟨rfl, hb3⟩
  have E4 := Lib.hid (row_on E3.out hb3)
  have C4 := Lib.hid (below_on C3.out hb3)
  refine hK.out _ _ (.inr E4.out) ?_
  clear hK K hb3 E3
  (try simp only [Act.put, List.setIfInBounds_toArray, List.set_cons_zero, List.set_cons_succ])
  refine till_one (i := 6) (o := { dst := some 76, op := _, type := _, pos := _, after := _, guard := _ }) (by kernel_rfl) rfl (fun K hK => ?_)
  go_simp
  go_at_call 20
  refine (r24paschal 56 _).mono ?_
  rintro e4 w4 ⟨rfl, hb4⟩
  have E5 := Lib.hid (row_on E4.out hb4)
  have C5 := Lib.hid (below_on C4.out hb4)
  refine hK.out _ _ (.inr E5.out) ?_
  clear hK K hb4 E4
  (try simp only [Act.put, List.setIfInBounds_toArray, List.set_cons_zero, List.set_cons_succ])
  refine till_one (i := 7) (o := { dst := some 77, op := _, type := _, pos := _, after := _, guard := _ }) (by kernel_rfl) rfl (fun K hK => ?_)
  go_simp
  go_at_call 23
  refine (r24feast ⟨#[116, 114, 105, 110, 105, 116, 121]⟩ 1 2 2 0 0 56 0 0 _).mono ?_
  rintro e5 w5 ⟨rfl, hb5⟩
  have E6 := Lib.hid (row_on E5.out hb5)
  have C6 := Lib.hid (below_on C5.out hb5)
  refine hK.out _ _ (.inr E6.out) ?_
  clear hK K hb5 E5
  (try simp only [Act.put, List.setIfInBounds_toArray, List.set_cons_zero, List.set_cons_succ])
  refine till_one (i := 8) (o := { dst := some 78, op := _, type := _, pos := _, after := _, guard := _ }) (by kernel_rfl) rfl (fun K hK => ?_)
  go_simp
  have E := Lib.hid (row_al E6.out (.cells #[.string ⟨#[97, 115, 99, 101, 110, 115, 105, 111, 110]⟩, .int .i64 1, .int .i64 2, .int .i64 2, .int .i64 0, .int .i64 0, .int .i64 39, .int .i64 0, .int .i64 0, .string ⟨#[112, 101, 110, 116, 101, 99, 111, 115, 116]⟩, .int .i64 1, .int .i64 2, .int .i64 2, .int .i64 0, .int .i64 0, .int .i64 49, .int .i64 0, .int .i64 0, .string ⟨#[116, 114, 105, 110, 105, 116, 121]⟩, .int .i64 1, .int .i64 2, .int .i64 2, .int .i64 0, .int .i64 0, .int .i64 56, .int .i64 0, .int .i64 0] 35))
  have C := Lib.hid (C6.out.alloc C6.out.size (.cells #[.string ⟨#[97, 115, 99, 101, 110, 115, 105, 111, 110]⟩, .int .i64 1, .int .i64 2, .int .i64 2, .int .i64 0, .int .i64 0, .int .i64 39, .int .i64 0, .int .i64 0, .string ⟨#[112, 101, 110, 116, 101, 99, 111, 115, 116]⟩, .int .i64 1, .int .i64 2, .int .i64 2, .int .i64 0, .int .i64 0, .int .i64 49, .int .i64 0, .int .i64 0, .string ⟨#[116, 114, 105, 110, 105, 116, 121]⟩, .int .i64 1, .int .i64 2, .int .i64 2, .int .i64 0, .int .i64 0, .int .i64 56, .int .i64 0, .int .i64 0] 35))
  have NW := Lib.hid (World.news_of_block (heap_alloc_new w5 (.cells #[.string ⟨#[97, 115, 99, 101, 110, 115, 105, 111, 110]⟩, .int .i64 1, .int .i64 2, .int .i64 2, .int .i64 0, .int .i64 0, .int .i64 39, .int .i64 0, .int .i64 0, .string ⟨#[112, 101, 110, 116, 101, 99, 111, 115, 116]⟩, .int .i64 1, .int .i64 2, .int .i64 2, .int .i64 0, .int .i64 0, .int .i64 49, .int .i64 0, .int .i64 0, .string ⟨#[116, 114, 105, 110, 105, 116, 121]⟩, .int .i64 1, .int .i64 2, .int .i64 2, .int .i64 0, .int .i64 0, .int .i64 56, .int .i64 0, .int .i64 0] 35)))
  have OW := Lib.hid (LF.out.on C.out)
  have OT := Lib.hid (LS.out.on C.out)
  have ZW := Lib.hid (Nat.le_trans Z0.out C.out.size)
  have Q0 := Lib.hid (row_on R0.out C.out)
  have BW := Lib.hid (below_on B0.out C.out)
  refine hK.out _ _ (.inr E.out) ?_
  clear hK K C E6
  (try simp only [Act.put, List.setIfInBounds_toArray, List.set_cons_zero, List.set_cons_succ])
  refine till_one (i := 9) (o := { dst := some 79, op := _, type := _, pos := _, after := _, guard := _ }) (by kernel_rfl) rfl (fun K hK => ?_)
  rw [if_pos (by rfl)]
  refine wp_append_lies _ _ _ 24 (by rfl) (W.heap.size + 2) 35 iF (.agg #[.string ⟨#[]⟩, .int .i64 0, .int .i64 0, .int .i64 0, .int .i64 0, .int .i64 0, .int .i64 0, .int .i64 0, .int .i64 0]) 9 80 Try.underlying24 hiF hF0 hF1 hF2 rfl (by decide) (.slice (some ⟨g6, 0, none⟩) 8 c6) 8 (flat9 [bf0, bf1, bf2, bf3, bf4, bf5, bf6, bf7]) (by rfl) OW.out ⟨w5.heap.size, 0, none⟩ 3 3 (flat9 [bf8, bf9, bf10]) (by rfl) (by rfl) NW.out (flat9_one [bf8, bf9, bf10]) (by decide) (by unfold maxLen; omega) (by decide) ZW.out _ rfl ?_
  intro g7 c7 wz hown hgrow _ _
  have EZ := Lib.hid (show wz.heap[W.heap.size + 1]? = some (catO 5 (.slice (some ⟨g3, 0, none⟩) 8 c3) (.slice (some ⟨g6, 0, none⟩) 8 c6)) by
    rw [hgrow.block (W.heap.size + 1) (Array.getElem?_eq_some_iff.1 E.out).1 (fun e => absurd (World.ownsRow.lt OW.out _ e.symm).1 (by omega))]; exact E.out)
  have QZ := Lib.hid (show wz.heap[W.heap.size]? = some (catO 0 (.slice none 0 0) (.slice none 0 0)) by
    rw [hgrow.block W.heap.size (Array.getElem?_eq_some_iff.1 Q0.out).1 (fun e => absurd (World.ownsRow.lt OW.out _ e.symm).1 (by omega))]; exact Q0.out)
  have BZ := Lib.hid (BW.out.grown hgrow (Nat.le_trans (by omega) ZW.out) (fun k e => Nat.le_trans (by omega) (World.ownsRow.lt OW.out k e).1))
  have TZ := Lib.hid (ItsAt.oth OT.out OW.out hgrow (by decide))
  have ZZ := Lib.hid (Nat.le_trans ZW.out hgrow.size)
  have OZ := Lib.hid (show ItsAt 35 (W.heap.size + 2) (.slice (some ⟨g7, 0, none⟩) 11 c7) [bf0, bf1, bf2, bf3, bf4, bf5, bf6, bf7, bf8, bf9, bf10] wz from ItsAt.app (xs := [bf0, bf1, bf2, bf3, bf4, bf5, bf6, bf7]) (ys := [bf8, bf9, bf10]) hown)
  clear hown hgrow OW OT ZW Q0 BW E NW
  refine hK.out _ _ (.inl rfl) ?_
  clear hK K
  (try simp only [Act.put, List.setIfInBounds_toArray, List.set_cons_zero, List.set_cons_succ])
  refine till_take (i := 10) (oi := { dst := some 80, op := _, type := _, pos := _, after := _, guard := _ }) (v := ?v25) rfl (by kernel_rfl) (by kernel_rfl) (by kernel_rfl) (fun _ _ _ h => h) (by decide) (Or.inl ⟨by rfl, ?h25⟩) (.inl rfl) ?_
  case h25 => (intro w _; go_simp; try with_reducible rfl)
  (try simp only [Act.put, List.setIfInBounds_toArray, List.set_cons_zero, List.set_cons_succ])
  obtain ⟨r0, r1, r2, f0, f1, f2, rz⟩ := row3 EZ.out
  refine till_one (i := 11) (o := { dst := none, op := _, type := _, pos := _, after := _, guard := _ }) (by kernel_rfl) rfl (fun K hK => ?_)
  go_simp
  refine hK.out _ _ (.inl rfl) ?_
  clear hK K r0 r1 r2 f0 f1 f2 rz
  refine till_done (by kernel_rfl) ?_ _
  have R1' := Lib.hid (show (wz.setCell ⟨W.heap.size + 1, 2, none⟩ (.slice (some ⟨g7, 0, none⟩) 11 c7)).heap[W.heap.size + 1]? = some (catO 5 (.slice (some ⟨g3, 0, none⟩) 8 c3) (.slice (some ⟨g7, 0, none⟩) 11 c7)) from heap_setCell_same wz _ 2 _ _ (.slice (some ⟨g7, 0, none⟩) 11 c7) EZ.out)
  have R0' := Lib.hid (show (wz.setCell ⟨W.heap.size + 1, 2, none⟩ (.slice (some ⟨g7, 0, none⟩) 11 c7)).heap[W.heap.size]? = some (catO 0 (.slice none 0 0) (.slice none 0 0)) by rw [heap_setCell_other _ _ _ _ (by simp)]; exact QZ.out)
  have LF' := Lib.hid (OZ.out.put (p := ⟨W.heap.size + 1, 2, none⟩) (show W.heap.size + 1 < W.heap.size + 2 by omega) (.slice (some ⟨g7, 0, none⟩) 11 c7))
  have LS' := Lib.hid (TZ.out.put (p := ⟨W.heap.size + 1, 2, none⟩) (show W.heap.size + 1 < W.heap.size + 2 by omega) (.slice (some ⟨g7, 0, none⟩) 11 c7))
  have B0' := Lib.hid (BZ.out.setCell (p := ⟨W.heap.size + 1, 2, none⟩) (show W.heap.size ≤ W.heap.size + 1 by omega) (.slice (some ⟨g7, 0, none⟩) 11 c7))
  have Z0' := Lib.hid (show W.heap.size + 2 ≤ (wz.setCell ⟨W.heap.size + 1, 2, none⟩ (.slice (some ⟨g7, 0, none⟩) 11 c7)).heap.size by simpa using ZZ.out)
  clear R1 R0 LS LF B0 Z0 EZ QZ BZ TZ ZZ OZ C0 C1 C2 C3 C4 C5 C6
  generalize wz.setCell ⟨W.heap.size + 1, 2, none⟩ (.slice (some ⟨g7, 0, none⟩) 11 c7) = u8 at *
  replace R1 := R1'; replace R0 := R0'; replace LS := LS'; replace LF := LF'; replace B0 := B0'; replace Z0 := Z0'
  go_wp2_with fail
  refine till_start (fun u => u.heap[W.heap.size + 1]? = some (catO 5 (.slice (some ⟨g3, 0, none⟩) 8 c3) (.slice (some ⟨g7, 0, none⟩) 11 c7))) 7 (by kernel_rfl) ?_
  refine till_take (i := 0) (oi := { dst := some 81, op := _, type := _, pos := _, after := _, guard := _ }) (v := ?v26) rfl (by kernel_rfl) (by kernel_rfl) (by kernel_rfl) (fun _ _ _ h => h) (by decide) (Or.inl ⟨by rfl, ?h26⟩) (.inr R1.out) ?_
  case h26 => (intro w _; go_simp; try with_reducible rfl)
  (try simp only [Act.put, List.setIfInBounds_toArray, List.set_cons_zero, List.set_cons_succ])
  refine till_take_load (i := 1) (oi := { dst := some 82, op := _, type := _, pos := _, after := _, guard := _ }) (v := ?v27) rfl (by kernel_rfl) (by kernel_rfl) (by kernel_rfl) (fun _ _ _ h => h) (by kernel_rfl) (by decide) (by kernel_rfl) (Or.inl ⟨by rfl, ?h27⟩) R1.out ?_
  case h27 => (intro w hSw; (try dsimp only at hSw); obtain ⟨s0, s1, s2, t0, t1, t2, tz⟩ := row3 hSw; go_simp; try with_reducible rfl)
  (try simp only [Act.put, List.setIfInBounds_toArray, List.set_cons_zero, List.set_cons_succ])
  have C0 := Lib.hid (below_dn (Below.refl u8.heap.size u8) 1)
  have E0 := Lib.hid (show u8.drew.heap[W.heap.size + 1]? = _ from R1.out)
  refine till_one (i := 2) (o := { dst := some 83, op := _, type := _, pos := _, after := _, guard := _ }) (by kernel_rfl) rfl (fun K hK => ?_)
  go_simp
  go_at_call 20
  refine (r24paschal 60 _).mono ?_
  rintro e0 w0 ⟨rfl, hb0⟩
  have E1 := Lib.hid (row_on E0.out hb0)
  have C1 := Lib.hid (below_on C0.out hb0)
  refine hK.out _ _ (.inr E1.out) ?_
  clear hK K hb0 E0
  (try simp only [Act.put, List.setIfInBounds_toArray, List.set_cons_zero, List.set_cons_succ])
  refine till_one (i := 3) (o := { dst := some 84, op := _, type := _, pos := _, after := _, guard := _ }) (by kernel_rfl) rfl (fun K hK => ?_)
  go_simp
  go_at_call 23
  refine (r24feast ⟨#[99, 111, 114, 112, 117, 115, 45, 99, 104, 114, 105, 115, 116, 105]⟩ 1 2 2 0 0 60 0 0 _).mono ?_
  rintro e1 w1 ⟨rfl, hb1⟩
  have E2 := Lib.hid (row_on E1.out hb1)
  have C2 := Lib.hid (below_on C1.out hb1)
  refine hK.out _ _ (.inr E2.out) ?_
  clear hK K hb1 E1
  (try simp only [Act.put, List.setIfInBounds_toArray, List.set_cons_zero, List.set_cons_succ])
  refine till_one (i := 4) (o := { dst := some 85, op := _, type := _, pos := _, after := _, guard := _ }) (by kernel_rfl) rfl (fun K hK => ?_)
  go_simp
  go_at_call 20
  refine (r24paschal 68 _).mono ?_
  rintro e2 w2 ⟨rfl, hb2⟩
  have E3 := Lib.hid (row_on E2.out hb2)
  have C3 := Lib.hid (below_on C2.out hb2)
  refine hK.out _ _ (.inr E3.out) ?_
  clear hK K hb2 E2
  (try simp only [Act.put, List.setIfInBounds_toArray, List.set_cons_zero, List.set_cons_succ])
  refine till_one (i := 5) (o := { dst := some 86, op := _, type := _, pos := _, after := _, guard := _ }) (by kernel_rfl) rfl (fun K hK => ?_)
  go_simp
  go_at_call 23
  refine (r24feast ⟨#[115, 97, 99, 114, 101, 100, 45, 104, 101, 97, 114, 116]⟩ 1 2 2 0 0 68 0 0 _).mono ?_
  rintro e3 w3 ⟨rfl, hb3⟩
  have E4 := Lib.hid (row_on E3.out hb3)
  have C4 := Lib.hid (below_on C3.out hb3)
  refine hK.out _ _ (.inr E4.out) ?_
  clear hK K hb3 E3
  (try simp only [Act.put, List.setIfInBounds_toArray, List.set_cons_zero, List.set_cons_succ])
  refine till_one (i := 6) (o := { dst := some 87, op := _, type := _, pos := _, after := _, guard := _ }) (by kernel_rfl) rfl (fun K hK => ?_)
  go_simp
  have E := Lib.hid (row_al E4.out (.cells #[.string ⟨#[99, 111, 114, 112, 117, 115, 45, 99, 104, 114, 105, 115, 116, 105]⟩, .int .i64 1, .int .i64 2, .int .i64 2, .int .i64 0, .int .i64 0, .int .i64 60, .int .i64 0, .int .i64 0, .string ⟨#[115, 97, 99, 114, 101, 100, 45, 104, 101, 97, 114, 116]⟩, .int .i64 1, .int .i64 2, .int .i64 2, .int .i64 0, .int .i64 0, .int .i64 68, .int .i64 0, .int .i64 0] 35))
  have C := Lib.hid (C4.out.alloc C4.out.size (.cells #[.string ⟨#[99, 111, 114, 112, 117, 115, 45, 99, 104, 114, 105, 115, 116, 105]⟩, .int .i64 1, .int .i64 2, .int .i64 2, .int .i64 0, .int .i64 0, .int .i64 60, .int .i64 0, .int .i64 0, .string ⟨#[115, 97, 99, 114, 101, 100, 45, 104, 101, 97, 114, 116]⟩, .int .i64 1, .int .i64 2, .int .i64 2, .int .i64 0, .int .i64 0, .int .i64 68, .int .i64 0, .int .i64 0] 35))
  have NW := Lib.hid (World.news_of_block (heap_alloc_new w3 (.cells #[.string ⟨#[99, 111, 114, 112, 117, 115, 45, 99, 104, 114, 105, 115, 116, 105]⟩, .int .i64 1, .int .i64 2, .int .i64 2, .int .i64 0, .int .i64 0, .int .i64 60, .int .i64 0, .int .i64 0, .string ⟨#[115, 97, 99, 114, 101, 100, 45, 104, 101, 97, 114, 116]⟩, .int .i64 1, .int .i64 2, .int .i64 2, .int .i64 0, .int .i64 0, .int .i64 68, .int .i64 0, .int .i64 0] 35)))
  have OW := Lib.hid (LF.out.on C.out)
  have OT := Lib.hid (LS.out.on C.out)
  have ZW := Lib.hid (Nat.le_trans Z0.out C.out.size)
  have Q0 := Lib.hid (row_on R0.out C.out)
  have BW := Lib.hid (below_on B0.out C.out)
  refine hK.out _ _ (.inr E.out) ?_
  clear hK K C E4
  (try simp only [Act.put, List.setIfInBounds_toArray, List.set_cons_zero, List.set_cons_succ])
  refine till_one (i := 7) (o := { dst := some 88, op := _, type := _, pos := _, after := _, guard := _ }) (by kernel_rfl) rfl (fun K hK => ?_)
  rw [if_pos (by rfl)]
  refine wp_append_lies _ _ _ 24 (by rfl) (W.heap.size + 2) 35 iF (.agg #[.string ⟨#[]⟩, .int .i64 0, .int .i64 0, .int .i64 0, .int .i64 0, .int .i64 0, .int .i64 0, .int .i64 0, .int .i64 0]) 9 80 Try.underlying24 hiF hF0 hF1 hF2 rfl (by decide) (.slice (some ⟨g7, 0, none⟩) 11 c7) 11 (flat9 [bf0, bf1, bf2, bf3, bf4, bf5, bf6, bf7, bf8, bf9, bf10]) (by rfl) OW.out ⟨w3.heap.size, 0, none⟩ 2 2 (flat9 [bf11, bf12]) (by rfl) (by rfl) NW.out (flat9_one [bf11, bf12]) (by decide) (by unfold maxLen; omega) (by decide) ZW.out _ rfl ?_
  intro g8 c8 wz hown hgrow _ _
  have EZ := Lib.hid (show wz.heap[W.heap.size + 1]? = some (catO 5 (.slice (some ⟨g3, 0, none⟩) 8 c3) (.slice (some ⟨g7, 0, none⟩) 11 c7)) by
    rw [hgrow.block (W.heap.size + 1) (Array.getElem?_eq_some_iff.1 E.out).1 (fun e => absurd (World.ownsRow.lt OW.out _ e.symm).1 (by omega))]; exact E.out)
  have QZ := Lib.hid (show wz.heap[W.heap.size]? = some (catO 0 (.slice none 0 0) (.slice none 0 0)) by
    rw [hgrow.block W.heap.size (Array.getElem?_eq_some_iff.1 Q0.out).1 (fun e => absurd (World.ownsRow.lt OW.out _ e.symm).1 (by omega))]; exact Q0.out)
  have BZ := Lib.hid (BW.out.grown hgrow (Nat.le_trans (by omega) ZW.out) (fun k e => Nat.le_trans (by omega) (World.ownsRow.lt OW.out k e).1))
  have TZ := Lib.hid (ItsAt.oth OT.out OW.out hgrow (by decide))
  have ZZ := Lib.hid (Nat.le_trans ZW.out hgrow.size)
  have OZ := Lib.hid (show ItsAt 35 (W.heap.size + 2) (.slice (some ⟨g8, 0, none⟩) 13 c8) [bf0, bf1, bf2, bf3, bf4, bf5, bf6, bf7, bf8, bf9, bf10, bf11, bf12] wz from ItsAt.app (xs := [bf0, bf1, bf2, bf3, bf4, bf5, bf6, bf7, bf8, bf9, bf10]) (ys := [bf11, bf12]) hown)
  clear hown hgrow OW OT ZW Q0 BW E NW
  refine hK.out _ _ (.inl rfl) ?_
  clear hK K
  (try simp only [Act.put, List.setIfInBounds_toArray, List.set_cons_zero, List.set_cons_succ])
  refine till_take (i := 8) (oi := { dst := some 89, op := _, type := _, pos := _, after := _, guard := _ }) (v := ?v28) rfl (by kernel_rfl) (by kernel_rfl) (by kernel_rfl) (fun _ _ _ h => h) (by decide) (Or.inl ⟨by rfl, ?h28⟩) (.inl rfl) ?_
  case h28 => (intro w _; go_simp; try with_reducible rfl)
  (try simp only [Act.put, List.setIfInBounds_toArray, List.set_cons_zero, List.set_cons_succ])
  obtain ⟨r0, r1, r2, f0, f1, f2, rz⟩ := row3 EZ.out
  refine till_one (i := 9) (o := { dst := none, op := _, type := _, pos := _, after := _, guard := _ }) (by kernel_rfl) rfl (fun K hK => ?_)
  go_simp
  refine hK.out _ _ (.inl rfl) ?_
  clear hK K r0 r1 r2 f0 f1 f2 rz
  refine till_done (by kernel_rfl) ?_ _
  have R1' := Lib.hid (show (wz.setCell ⟨W.heap.size + 1, 2, none⟩ (.slice (some ⟨g8, 0, none⟩) 13 c8)).heap[W.heap.size + 1]? = some (catO 5 (.slice (some ⟨g3, 0, none⟩) 8 c3) (.slice (some ⟨g8, 0, none⟩) 13 c8)) from heap_setCell_same wz _ 2 _ _ (.slice (some ⟨g8, 0, none⟩) 13 c8) EZ.out)
  have R0' := Lib.hid (show (wz.setCell ⟨W.heap.size + 1, 2, none⟩ (.slice (some ⟨g8, 0, none⟩) 13 c8)).heap[W.heap.size]? = some (catO 0 (.slice none 0 0) (.slice none 0 0)) by rw [heap_setCell_other _ _ _ _ (by simp)]; exact QZ.out)
  have LF' := Lib.hid (OZ.out.put (p := ⟨W.heap.size + 1, 2, none⟩) (show W.heap.size + 1 < W.heap.size + 2 by omega) (.slice (some ⟨g8, 0, none⟩) 13 c8))
  have LS' := Lib.hid (TZ.out.put (p := ⟨W.heap.size + 1, 2, none⟩) (show W.heap.size + 1 < W.heap.size + 2 by omega) (.slice (some ⟨g8, 0, none⟩) 13 c8))
  have B0' := Lib.hid (BZ.out.setCell (p := ⟨W.heap.size + 1, 2, none⟩) (show W.heap.size ≤ W.heap.size + 1 by omega) (.slice (some ⟨g8, 0, none⟩) 13 c8))
  have Z0' := Lib.hid (show W.heap.size + 2 ≤ (wz.setCell ⟨W.heap.size + 1, 2, none⟩ (.slice (some ⟨g8, 0, none⟩) 13 c8)).heap.size by simpa using ZZ.out)
  clear R1 R0 LS LF B0 Z0 EZ QZ BZ TZ ZZ OZ C0 C1 C2 C3 C4
  generalize wz.setCell ⟨W.heap.size + 1, 2, none⟩ (.slice (some ⟨g8, 0, none⟩) 13 c8) = u9 at *
  replace R1 := R1'; replace R0 := R0'; replace LS := LS'; replace LF := LF'; replace B0 := B0'; replace Z0 := Z0'
  go_wp2_with fail
  refine till_start (fun u => u.heap[W.heap.size + 1]? = some (catO 5 (.slice (some ⟨g3, 0, none⟩) 8 c3) (.slice (some ⟨g8, 0, none⟩) 13 c8))) 7 (by kernel_rfl) ?_
  refine till_take (i := 0) (oi := { dst := some 90, op := _, type := _, pos := _, after := _, guard := _ }) (v := ?v29) rfl (by kernel_rfl) (by kernel_rfl) (by kernel_rfl) (fun _ _ _ h => h) (by decide) (Or.inl ⟨by rfl, ?h29⟩) (.inr R1.out) ?_
  case h29 => (intro w _; go_simp; try with_reducible rfl)
  (try simp only [Act.put, List.setIfInBounds_toArray, List.set_cons_zero, List.set_cons_succ])
  refine till_take_load (i := 1) (oi := { dst := some 91, op := _, type := _, pos := _, after := _, guard := _ }) (v := ?v30) rfl (by kernel_rfl) (by kernel_rfl) (by kernel_rfl) (fun _ _ _ h => h) (by kernel_rfl) (by decide) (by kernel_rfl) (Or.inl ⟨by rfl, ?h30⟩) R1.out ?_
  case h30 => (intro w hSw; (try dsimp only at hSw); obtain ⟨s0, s1, s2, t0, t1, t2, tz⟩ := row3 hSw; go_simp; try with_reducible rfl)
  (try simp only [Act.put, List.setIfInBounds_toArray, List.set_cons_zero, List.set_cons_succ])
  have C0 := Lib.hid (below_dn (Below.refl u9.heap.size u9) 1)
  have E0 := Lib.hid (show u9.drew.heap[W.heap.size + 1]? = _ from R1.out)
  refine till_one (i := 2) (o := { dst := some 92, op := _, type := _, pos := _, after := _, guard := _ }) (by kernel_rfl) rfl (fun K hK => ?_)
  go_simp
  go_at_call 22
  refine (r24fixed 6 24 _).mono ?_
  rintro e0 w0 ⟨rfl, hb0⟩
  have E1 := Lib.hid (row_on E0.out hb0)
  have C1 := Lib.hid (below_on C0.out hb0)
  refine hK.out _ _ (.inr E1.out) ?_
  clear hK K hb0 E0
  (try simp only [Act.put, List.setIfInBounds_toArray, List.set_cons_zero, List.set_cons_succ])
  refine till_one (i := 3) (o := { dst := some 93, op := _, type := _, pos := _, after := _, guard := _ }) (by kernel_rfl) rfl (fun K hK => ?_)
  go_simp
  go_at_call 23
  refine (r24feast ⟨#[106, 111, 104, 110, 45, 98, 97, 112, 116, 105, 115, 116]⟩ 1 1 1 6 24 0 0 0 _).mono ?_
  rintro e1 w1 ⟨rfl, hb1⟩
  have E2 := Lib.hid (row_on E1.out hb1)
  have C2 := Lib.hid (below_on C1.out hb1)
  refine hK.out _ _ (.inr E2.out) ?_
  clear hK K hb1 E1
  (try simp only [Act.put, List.setIfInBounds_toArray, List.set_cons_zero, List.set_cons_succ])
  refine till_one (i := 4) (o := { dst := some 94, op := _, type := _, pos := _, after := _, guard := _ }) (by kernel_rfl) rfl (fun K hK => ?_)
  go_simp
  go_at_call 22
  refine (r24fixed 6 29 _).mono ?_
  rintro e2 w2 ⟨rfl, hb2⟩
  have E3 := Lib.hid (row_on E2.out hb2)
  have C3 := Lib.hid (below_on C2.out hb2)
  refine hK.out _ _ (.inr E3.out) ?_
  clear hK K hb2 E2
  (try simp only [Act.put, List.setIfInBounds_toArray, List.set_cons_zero, List.set_cons_succ])
  refine till_one (i := 5) (o := { dst := some 95, op := _, type := _, pos := _, after := _, guard := _ }) (by kernel_rfl) rfl (fun K hK => ?_)
  go_simp
  go_at_call 23
  refine (r24feast ⟨#[112, 101, 116, 101, 114, 45, 97, 110, 100, 45, 112, 97, 117, 108]⟩ 1 1 1 6 29 0 0 0 _).mono ?_
  rintro e3 w3 ⟨rfl, hb3⟩
  have E4 := Lib.hid (row_on E3.out hb3)
  have C4 := Lib.hid (below_on C3.out hb3)
  refine hK.out _ _ (.inr E4.out) ?_
  clear hK K hb3 E3
  (try simp only [Act.put, List.setIfInBounds_toArray, List.set_cons_zero, List.set_cons_succ])
  refine till_one (i := 6) (o := { dst := some 96, op := _, type := _, pos := _, after := _, guard := _ }) (by kernel_rfl) rfl (fun K hK => ?_)
  go_simp
  have E := Lib.hid (row_al E4.out (.cells #[.string ⟨#[106, 111, 104, 110, 45, 98, 97, 112, 116, 105, 115, 116]⟩, .int .i64 1, .int .i64 1, .int .i64 1, .int .i64 6, .int .i64 24, .int .i64 0, .int .i64 0, .int .i64 0, .string ⟨#[112, 101, 116, 101, 114, 45, 97, 110, 100, 45, 112, 97, 117, 108]⟩, .int .i64 1, .int .i64 1, .int .i64 1, .int .i64 6, .int .i64 29, .int .i64 0, .int .i64 0, .int .i64 0] 35))
  have C := Lib.hid (C4.out.alloc C4.out.size (.cells #[.string ⟨#[106, 111, 104, 110, 45, 98, 97, 112, 116, 105, 115, 116]⟩, .int .i64 1, .int .i64 1, .int .i64 1, .int .i64 6, .int .i64 24, .int .i64 0, .int .i64 0, .int .i64 0, .string ⟨#[112, 101, 116, 101, 114, 45, 97, 110, 100, 45, 112, 97, 117, 108]⟩, .int .i64 1, .int .i64 1, .int .i64 1, .int .i64 6, .int .i64 29, .int .i64 0, .int .i64 0, .int .i64 0] 35))
  have NW := Lib.hid (World.news_of_block (heap_alloc_new w3 (.cells #[.string ⟨#[106, 111, 104, 110, 45, 98, 97, 112, 116, 105, 115, 116]⟩, .int .i64 1, .int .i64 1, .int .i64 1, .int .i64 6, .int .i64 24, .int .i64 0, .int .i64 0, .int .i64 0, .string ⟨#[112, 101, 116, 101, 114, 45, 97, 110, 100, 45, 112, 97, 117, 108]⟩, .int .i64 1, .int .i64 1, .int .i64 1, .int .i64 6, .int .i64 29, .int .i64 0, .int .i64 0, .int .i64 0] 35)))
  have OW := Lib.hid (LF.out.on C.out)
  have OT := Lib.hid (LS.out.on C.out)
  have ZW := Lib.hid (Nat.le_trans Z0.out C.out.size)
  have Q0 := Lib.hid (row_on R0.out C.out)
  have BW := Lib.hid (below_on B0.out C.out)
  refine hK.out _ _ (.inr E.out) ?_
  clear hK K C E4
  (try simp only [Act.put, List.setIfInBounds_toArray, List.set_cons_zero, List.set_cons_succ])
  refine till_one (i := 7) (o := { dst := some 97, op := _, type := _, pos := _, after := _, guard := _ }) (by kernel_rfl) rfl (fun K hK => ?_)
  rw [if_pos (by rfl)]
  refine wp_append_lies _ _ _ 24 (by rfl) (W.heap.size + 2) 35 iF (.agg #[.string ⟨#[]⟩, .int .i64 0, .int .i64 0, .int .i64 0, .int .i64 0, .int .i64 0, .int .i64 0, .int .i64 0, .int .i64 0]) 9 80 Try.underlying24 hiF hF0 hF1 hF2 rfl (by decide) (.slice (some ⟨g8, 0, none⟩) 13 c8) 13 (flat9 [bf0, bf1, bf2, bf3, bf4, bf5, bf6, bf7, bf8, bf9, bf10, bf11, bf12]) (by rfl) OW.out ⟨w3.heap.size, 0, none⟩ 2 2 (flat9 [bf13, bf14]) (by rfl) (by rfl) NW.out (flat9_one [bf13, bf14]) (by decide) (by unfold maxLen; omega) (by decide) ZW.out _ rfl ?_
  intro g9 c9 wz hown hgrow _ _
  have EZ := Lib.hid (show wz.heap[W.heap.size + 1]? = some (catO 5 (.slice (some ⟨g3, 0, none⟩) 8 c3) (.slice (some ⟨g8, 0, none⟩) 13 c8)) by
    rw [hgrow.block (W.heap.size + 1) (Array.getElem?_eq_some_iff.1 E.out).1 (fun e => absurd (World.ownsRow.lt OW.out _ e.symm).1 (by omega))]; exact E.out)
  have QZ := Lib.hid (show wz.heap[W.heap.size]? = some (catO 0 (.slice none 0 0) (.slice none 0 0)) by
    rw [hgrow.block W.heap.size (Array.getElem?_eq_some_iff.1 Q0.out).1 (fun e => absurd (World.ownsRow.lt OW.out _ e.symm).1 (by omega))]; exact Q0.out)
  have BZ := Lib.hid (BW.out.grown hgrow (Nat.le_trans (by omega) ZW.out) (fun k e => Nat.le_trans (by omega) (World.ownsRow.lt OW.out k e).1))
  have TZ := Lib.hid (ItsAt.oth OT.out OW.out hgrow (by decide))
  have ZZ := Lib.hid (Nat.le_trans ZW.out hgrow.size)
  have OZ := Lib.hid (show ItsAt 35 (W.heap.size + 2) (.slice (some ⟨g9, 0, none⟩) 15 c9) [bf0, bf1, bf2, bf3, bf4, bf5, bf6, bf7, bf8, bf9, bf10, bf11, bf12, bf13, bf14] wz from ItsAt.app (xs := [bf0, bf1, bf2, bf3, bf4, bf5, bf6, bf7, bf8, bf9, bf10, bf11, bf12]) (ys := [bf13, bf14]) hown)
  clear hown hgrow OW OT ZW Q0 BW E NW
  refine hK.out _ _ (.inl rfl) ?_
  clear hK K
  (try simp only [Act.put, List.setIfInBounds_toArray, List.set_cons_zero, List.set_cons_succ])
  refine till_take (i := 8) (oi := { dst := some 98, op := _, type := _, pos := _, after := _, guard := _ }) (v := ?v31) rfl (by kernel_rfl) (by kernel_rfl) (by kernel_rfl) (fun _ _ _ h => h) (by decide) (Or.inl ⟨by rfl, ?h31⟩) (.inl rfl) ?_
  case h31 => (intro w _; go_simp; try with_reducible rfl)
  (try simp only [Act.put, List.setIfInBounds_toArray, List.set_cons_zero, List.set_cons_succ])
  obtain ⟨r0, r1, r2, f0, f1, f2, rz⟩ := row3 EZ.out
  refine till_one (i := 9) (o := { dst := none, op := _, type := _, pos := _, after := _, guard := _ }) (by kernel_rfl) rfl (fun K hK => ?_)
  go_simp
  refine hK.out _ _ (.inl rfl) ?_
  clear hK K r0 r1 r2 f0 f1 f2 rz
  refine till_done (by kernel_rfl) ?_ _
  have R1' := Lib.hid (show (wz.setCell ⟨W.heap.size + 1, 2, none⟩ (.slice (some ⟨g9, 0, none⟩) 15 c9)).heap[W.heap.size + 1]? = some (catO 5 (.slice (some ⟨g3, 0, none⟩) 8 c3) (.slice (some ⟨g9, 0, none⟩) 15 c9)) from heap_setCell_same wz _ 2 _ _ (.slice (some ⟨g9, 0, none⟩) 15 c9) EZ.out)
  have R0' := Lib.hid (show (wz.setCell ⟨W.heap.size + 1, 2, none⟩ (.slice (some ⟨g9, 0, none⟩) 15 c9)).heap[W.heap.size]? = some (catO 0 (.slice none 0 0) (.slice none 0 0)) by rw [heap_setCell_other _ _ _ _ (by simp)]; exact QZ.out)
  have LF' := Lib.hid (OZ.out.put (p := ⟨W.heap.size + 1, 2, none⟩) (show W.heap.size + 1 < W.heap.size + 2 by omega) (.slice (some ⟨g9, 0, none⟩) 15 c9))
  have LS' := Lib.hid (TZ.out.put (p := ⟨W.heap.size + 1, 2, none⟩) (show W.heap.size + 1 < W.heap.size + 2 by omega) (.slice (some ⟨g9, 0, none⟩) 15 c9))
  have B0' := Lib.hid (BZ.out.setCell (p := ⟨W.heap.size + 1, 2, none⟩) (show W.heap.size ≤ W.heap.size + 1 by omega) (.slice (some ⟨g9, 0, none⟩) 15 c9))
  have Z0' := Lib.hid (show W.heap.size + 2 ≤ (wz.setCell ⟨W.heap.size + 1, 2, none⟩ (.slice (some ⟨g9, 0, none⟩) 15 c9)).heap.size by simpa using ZZ.out)
  clear R1 R0 LS LF B0 Z0 EZ QZ BZ TZ ZZ OZ C0 C1 C2 C3 C4
  generalize wz.setCell ⟨W.heap.size + 1, 2, none⟩ (.slice (some ⟨g9, 0, none⟩) 15 c9) = u10 at *
  replace R1 := R1'; replace R0 := R0'; replace LS := LS'; replace LF := LF'; replace B0 := B0'; replace Z0 := Z0'
  go_wp2_with fail
  refine till_start (fun u => u.heap[W.heap.size + 1]? = some (catO 5 (.slice (some ⟨g3, 0, none⟩) 8 c3) (.slice (some ⟨g9, 0, none⟩) 15 c9))) 9 (by kernel_rfl) ?_
  refine till_take (i := 0) (oi := { dst := some 99, op := _, type := _, pos := _, after := _, guard := _ }) (v := ?v32) rfl (by kernel_rfl) (by kernel_rfl) (by kernel_rfl) (fun _ _ _ h => h) (by decide) (Or.inl ⟨by rfl, ?h32⟩) (.inr R1.out) ?_
  case h32 => (intro w _; go_simp; try with_reducible rfl)
  (try simp only [Act.put, List.setIfInBounds_toArray, List.set_cons_zero, List.set_cons_succ])
  refine till_take_load (i := 1) (oi := { dst := some 100, op := _, type := _, pos := _, after := _, guard := _ }) (v := ?v33) rfl (by kernel_rfl) (by kernel_rfl) (by kernel_rfl) (fun _ _ _ h => h) (by kernel_rfl) (by decide) (by kernel_rfl) (Or.inl ⟨by rfl, ?h33⟩) R1.out ?_
  case h33 => (intro w hSw; (try dsimp only at hSw); obtain ⟨s0, s1, s2, t0, t1, t2, tz⟩ := row3 hSw; go_simp; try with_reducible rfl)
  (try simp only [Act.put, List.setIfInBounds_toArray, List.set_cons_zero, List.set_cons_succ])
  have C0 := Lib.hid (below_dn (Below.refl u10.heap.size u10) 1)
  have E0 := Lib.hid (show u10.drew.heap[W.heap.size + 1]? = _ from R1.out)
  refine till_one (i := 2) (o := { dst := some 101, op := _, type := _, pos := _, after := _, guard := _ }) (by kernel_rfl) rfl (fun K hK => ?_)
  go_simp
  go_at_call 22
  refine (r24fixed 8 6 _).mono ?_
  rintro e0 w0 ⟨rfl, hb0⟩
  have E1 := Lib.hid (row_on E0.out hb0)
  have C1 := Lib.hid (below_on C0.out hb0)
  refine hK.out _ _ (.inr E1.out) ?_
  clear hK K hb0 E0
  (try simp only [Act.put, List.setIfInBounds_toArray, List.set_cons_zero, List.set_cons_succ])
  refine till_one (i := 3) (o := { dst := some 102, op := _, type := _, pos := _, after := _, guard := _ }) (by kernel_rfl) rfl (fun K hK => ?_)
  go_simp
  go_at_call 23
  refine (r24feast ⟨#[116, 114, 97, 110, 115, 102, 105, 103, 117, 114, 97, 116, 105, 111, 110]⟩ 2 3 1 8 6 0 0 0 _).mono ?_
  rintro e1 w1 ⟨rfl, hb1⟩
  have E2 := Lib.hid (row_on E1.out hb1)
  have C2 := Lib.hid (below_on C1.out hb1)
  refine hK.out _ _ (.inr E2.out) ?_
  clear hK K hb1 E1
  (try simp only [Act.put, List.setIfInBounds_toArray, List.set_cons_zero, List.set_cons_succ])
  refine till_one (i := 4) (o := { dst := some 103, op := _, type := _, pos := _, after := _, guard := _ }) (by kernel_rfl) rfl (fun K hK => ?_)
  go_simp
  go_at_call 22
  refine (r24fixed 8 15 _).mono ?_
  rintro e2 w2 ⟨rfl, hb2⟩
  have E3 := Lib.hid (row_on E2.out hb2)
  have C3 := Lib.hid (below_on C2.out hb2)
  refine hK.out _ _ (.inr E3.out) ?_
  clear hK K hb2 E2
  (try simp only [Act.put, List.setIfInBounds_toArray, List.set_cons_zero, List.set_cons_succ])
  refine till_one (i := 5) (o := { dst := some 104, op := _, type := _, pos := _, after := _, guard := _ }) (by kernel_rfl) rfl (fun K hK => ?_)
  go_simp
  go_at_call 23
  refine (r24feast ⟨#[97, 115, 115, 117, 109, 112, 116, 105, 111, 110]⟩ 1 2 1 8 15 0 0 0 _).mono ?_
  rintro e3 w3 ⟨rfl, hb3⟩
  have E4 := Lib.hid (row_on E3.out hb3)
  have C4 := Lib.hid (below_on C3.out hb3)
  refine hK.out _ _ (.inr E4.out) ?_
  clear hK K hb3 E3
  (try simp only [Act.put, List.setIfInBounds_toArray, List.set_cons_zero, List.set_cons_succ])
  refine till_one (i := 6) (o := { dst := some 105, op := _, type := _, pos := _, after := _, guard := _ }) (by kernel_rfl) rfl (fun K hK => ?_)
  go_simp
  go_at_call 22
  refine (r24fixed 9 14 _).mono ?_
  rintro e4 w4 ⟨rfl, hb4⟩
  have E5 := Lib.hid (row_on E4.out hb4)
  have C5 := Lib.hid (below_on C4.out hb4)
  refine hK.out _ _ (.inr E5.out) ?_
  clear hK K hb4 E4
  (try simp only [Act.put, List.setIfInBounds_toArray, List.set_cons_zero, List.set_cons_succ])
  refine till_one (i := 7) (o := { dst := some 106, op := _, type := _, pos := _, after := _, guard := _ }) (by kernel_rfl) rfl (fun K hK => ?_)
  go_simp
  go_at_call 23
  refine (r24feast ⟨#[101, 120, 97, 108, 116, 97, 116, 105, 111, 110, 45, 111, 102, 45, 116, 104, 101, 45, 99, 114, 111, 115, 115]⟩ 2 3 1 9 14 0 0 0 _).mono ?_
  rintro e5 w5 ⟨rfl, hb5⟩
  have E6 := Lib.hid (row_on E5.out hb5)
  have C6 := Lib.hid (below_on C5.out hb5)
  refine hK.out _ _ (.inr E6.out) ?_
  clear hK K hb5 E5
  (try simp only [Act.put, List.setIfInBounds_toArray, List.set_cons_zero, List.set_cons_succ])
  refine till_one (i := 8) (o := { dst := some 107, op := _, type := _, pos := _, after := _, guard := _ }) (by kernel_rfl) rfl (fun K hK => ?_)
  go_simp
  have E := Lib.hid (row_al E6.out (.cells #[.string ⟨#[116, 114, 97, 110, 115, 102, 105, 103, 117, 114, 97, 116, 105, 111, 110]⟩, .int .i64 2, .int .i64 3, .int .i64 1, .int .i64 8, .int .i64 6, .int .i64 0, .int .i64 0, .int .i64 0, .string ⟨#[97, 115, 115, 117, 109, 112, 116, 105, 111, 110]⟩, .int .i64 1, .int .i64 2, .int .i64 1, .int .i64 8, .int .i64 15, .int .i64 0, .int .i64 0, .int .i64 0, .string ⟨#[101, 120, 97, 108, 116, 97, 116, 105, 111, 110, 45, 111, 102, 45, 116, 104, 101, 45, 99, 114, 111, 115, 115]⟩, .int .i64 2, .int .i64 3, .int .i64 1, .int .i64 9, .int .i64 14, .int .i64 0, .int .i64 0, .int .i64 0] 35))
  have C := Lib.hid (C6.out.alloc C6.out.size (.cells #[.string ⟨#[116, 114, 97, 110, 115, 102, 105, 103, 117, 114, 97, 116, 105, 111, 110]⟩, .int .i64 2, .int .i64 3, .int .i64 1, .int .i64 8, .int .i64 6, .int .i64 0, .int .i64 0, .int .i64 0, .string ⟨#[97, 115, 115, 117, 109, 112, 116, 105, 111, 110]⟩, .int .i64 1, .int .i64 2, .int .i64 1, .int .i64 8, .int .i64 15, .int .i64 0, .int .i64 0, .int .i64 0, .string ⟨#[101, 120, 97, 108, 116, 97, 116, 105, 111, 110, 45, 111, 102, 45, 116, 104, 101, 45, 99, 114, 111, 115, 115]⟩, .int .i64 2, .int .i64 3, .int .i64 1, .int .i64 9, .int .i64 14, .int .i64 0, .int .i64 0, .int .i64 0] 35))
  have NW := Lib.hid (World.news_of_block (heap_alloc_new w5 (.cells #[.string ⟨#[116, 114, 97, 110, 115, 102, 105, 103, 117, 114, 97, 116, 105, 111, 110]⟩, .int .i64 2, .int .i64 3, .int .i64 1, .int .i64 8, .int .i64 6, .int .i64 0, .int .i64 0, .int .i64 0, .string ⟨#[97, 115, 115, 117, 109, 112, 116, 105, 111, 110]⟩, .int .i64 1, .int .i64 2, .int .i64 1, .int .i64 8, .int .i64 15, .int .i64 0, .int .i64 0, .int .i64 0, .string ⟨#[101, 120, 97, 108, 116, 97, 116, 105, 111, 110, 45, 111, 102, 45, 116, 104, 101, 45, 99, 114, 111, 115, 115]⟩, .int .i64 2, .int .i64 3, .int .i64 1, .int .i64 9, .int .i64 14, .int .i64 0, .int .i64 0, .int .i64 0] 35)))
  have OW := Lib.hid (LF.out.on C.out)
  have OT := Lib.hid (LS.out.on C.out)
  have ZW := Lib.hid (Nat.le_trans Z0.out C.out.size)
  have Q0 := Lib.hid (row_on R0.out C.out)
  have BW := Lib.hid (below_on B0.out C.out)
  refine hK.out _ _ (.inr E.out) ?_
  clear hK K C E6
  (try simp only [Act.put, List.setIfInBounds_toArray, List.set_cons_zero, List.set_cons_succ])
  refine till_one (i := 9) (o := { dst := some 108, op := _, type := _, pos := _, after := _, guard := _ }) (by kernel_rfl) rfl (fun K hK => ?_)
  rw [if_pos (by rfl)]
  refine wp_append_lies _ _ _ 24 (by rfl) (W.heap.size + 2) 35 iF (.agg #[.string ⟨#[]⟩, .int .i64 0, .int .i64 0, .int .i64 0, .int .i64 0, .int .i64 0, .int .i64 0, .int .i64 0, .int .i64 0]) 9 80 Try.underlying24 hiF hF0 hF1 hF2 rfl (by decide) (.slice (some ⟨g9, 0, none⟩) 15 c9) 15 (flat9 [bf0, bf1, bf2, bf3, bf4, bf5, bf6, bf7, bf8, bf9, bf10, bf11, bf12, bf13, bf14]) (by rfl) OW.out ⟨w5.heap.size, 0, none⟩ 3 3 (flat9 [bf15, bf16, bf17]) (by rfl) (by rfl) NW.out (flat9_one [bf15, bf16, bf17]) (by decide) (by unfold maxLen; omega) (by decide) ZW.out _ rfl ?_
  intro g10 c10 wz hown hgrow _ _
  have EZ := Lib.hid (show wz.heap[W.heap.size + 1]? = some (catO 5 (.slice (some ⟨g3, 0, none⟩) 8 c3) (.slice (some ⟨g9, 0, none⟩) 15 c9)) by
    rw [hgrow.block (W.heap.size + 1) (Array.getElem?_eq_some_iff.1 E.out).1 (fun e => absurd (World.ownsRow.lt OW.out _ e.symm).1 (by omega))]; exact E.out)
  have QZ := Lib.hid (show wz.heap[W.heap.size]? = some (catO 0 (.slice none 0 0) (.slice none 0 0)) by
    rw [hgrow.block W.heap.size (Array.getElem?_eq_some_iff.1 Q0.out).1 (fun e => absurd (World.ownsRow.lt OW.out _ e.symm).1 (by omega))]; exact Q0.out)
  have BZ := Lib.hid (BW.out.grown hgrow (Nat.le_trans (by omega) ZW.out) (fun k e => Nat.le_trans (by omega) (World.ownsRow.lt OW.out k e).1))
  have TZ := Lib.hid (ItsAt.oth OT.out OW.out hgrow (by decide))
  have ZZ := Lib.hid (Nat.le_trans ZW.out hgrow.size)
  have OZ := Lib.hid (show ItsAt 35 (W.heap.size + 2) (.slice (some ⟨g10, 0, none⟩) 18 c10) [bf0, bf1, bf2, bf3, bf4, bf5, bf6, bf7, bf8, bf9, bf10, bf11, bf12, bf13, bf14, bf15, bf16, bf17] wz from ItsAt.app (xs := [bf0, bf1, bf2, bf3, bf4, bf5, bf6, bf7, bf8, bf9, bf10, bf11, bf12, bf13, bf14]) (ys := [bf15, bf16, bf17]) hown)
  clear hown hgrow OW OT ZW Q0 BW E NW
  refine hK.out _ _ (.inl rfl) ?_
  clear hK K
  (try simp only [Act.put, List.setIfInBounds_toArray, List.set_cons_zero, List.set_cons_succ])
  refine till_take (i := 10) (oi := { dst := some 109, op := _, type := _, pos := _, after := _, guard := _ }) (v := ?v34) rfl (by kernel_rfl) (by kernel_rfl) (by kernel_rfl) (fun _ _ _ h => h) (by decide) (Or.inl ⟨by rfl, ?h34⟩) (.inl rfl) ?_
  case h34 => (intro w _; go_simp; try with_reducible rfl)
  (try simp only [Act.put, List.setIfInBounds_toArray, List.set_cons_zero, List.set_cons_succ])
  obtain ⟨r0, r1, r2, f0, f1, f2, rz⟩ := row3 EZ.out
  refine till_one (i := 11) (o := { dst := none, op := _, type := _, pos := _, after := _, guard := _ }) (by kernel_rfl) rfl (fun K hK => ?_)
  go_simp
  refine hK.out _ _ (.inl rfl) ?_
  clear hK K r0 r1 r2 f0 f1 f2 rz
  refine till_done (by kernel_rfl) ?_ _
  have R1' := Lib.hid (show (wz.setCell ⟨W.heap.size + 1, 2, none⟩ (.slice (some ⟨g10, 0, none⟩) 18 c10)).heap[W.heap.size + 1]? = some (catO 5 (.slice (some ⟨g3, 0, none⟩) 8 c3) (.slice (some ⟨g10, 0, none⟩) 18 c10)) from heap_setCell_same wz _ 2 _ _ (.slice (some ⟨g10, 0, none⟩) 18 c10) EZ.out)
  have R0' := Lib.hid (show (wz.setCell ⟨W.heap.size + 1, 2, none⟩ (.slice (some ⟨g10, 0, none⟩) 18 c10)).heap[W.heap.size]? = some (catO 0 (.slice none 0 0) (.slice none 0 0)) by rw [heap_setCell_other _ _ _ _ (by simp)]; exact QZ.out)
  have LF' := Lib.hid (OZ.out.put (p := ⟨W.heap.size + 1, 2, none⟩) (show W.heap.size + 1 < W.heap.size + 2 by omega) (.slice (some ⟨g10, 0, none⟩) 18 c10))
  have LS' := Lib.hid (TZ.out.put (p := ⟨W.heap.size + 1, 2, none⟩) (show W.heap.size + 1 < W.heap.size + 2 by omega) (.slice (some ⟨g10, 0, none⟩) 18 c10))
  have B0' := Lib.hid (BZ.out.setCell (p := ⟨W.heap.size + 1, 2, none⟩) (show W.heap.size ≤ W.heap.size + 1 by omega) (.slice (some ⟨g10, 0, none⟩) 18 c10))
  have Z0' := Lib.hid (show W.heap.size + 2 ≤ (wz.setCell ⟨W.heap.size + 1, 2, none⟩ (.slice (some ⟨g10, 0, none⟩) 18 c10)).heap.size by simpa using ZZ.out)
  clear R1 R0 LS LF B0 Z0 EZ QZ BZ TZ ZZ OZ C0 C1 C2 C3 C4 C5 C6
  generalize wz.setCell ⟨W.heap.size + 1, 2, none⟩ (.slice (some ⟨g10, 0, none⟩) 18 c10) = u11 at *
  replace R1 := R1'; replace R0 := R0'; replace LS := LS'; replace LF := LF'; replace B0 := B0'; replace Z0 := Z0'
  go_wp2_with fail
  refine till_start (fun u => u.heap[W.heap.size + 1]? = some (catO 5 (.slice (some ⟨g3, 0, none⟩) 8 c3) (.slice (some ⟨g10, 0, none⟩) 18 c10))) 9 (by kernel_rfl) ?_
  refine till_take (i := 0) (oi := { dst := some 110, op := _, type := _, pos := _, after := _, guard := _ }) (v := ?v35) rfl (by kernel_rfl) (by kernel_rfl) (by kernel_rfl) (fun _ _ _ h => h) (by decide) (Or.inl ⟨by rfl, ?h35⟩) (.inr R1.out) ?_
  case h35 => (intro w _; go_simp; try with_reducible rfl)
  (try simp only [Act.put, List.setIfInBounds_toArray, List.set_cons_zero, List.set_cons_succ])
  refine till_take_load (i := 1) (oi := { dst := some 111, op := _, type := _, pos := _, after := _, guard := _ }) (v := ?v36) rfl (by kernel_rfl) (by kernel_rfl) (by kernel_rfl) (fun _ _ _ h => h) (by kernel_rfl) (by decide) (by kernel_rfl) (Or.inl ⟨by rfl, ?h36⟩) R1.out ?_
  case h36 => (intro w hSw; (try dsimp only at hSw); obtain ⟨s0, s1, s2, t0, t1, t2, tz⟩ := row3 hSw; go_simp; try with_reducible rfl)
  (try simp only [Act.put, List.setIfInBounds_toArray, List.set_cons_zero, List.set_cons_succ])
  have C0 := Lib.hid (below_dn (Below.refl u11.heap.size u11) 1)
  have E0 := Lib.hid (show u11.drew.heap[W.heap.size + 1]? = _ from R1.out)
  refine till_one (i := 2) (o := { dst := some 112, op := _, type := _, pos := _, after := _, guard := _ }) (by kernel_rfl) rfl (fun K hK => ?_)
  go_simp
  go_at_call 22
  refine (r24fixed 11 1 _).mono ?_
  rintro e0 w0 ⟨rfl, hb0⟩
  have E1 := Lib.hid (row_on E0.out hb0)
  have C1 := Lib.hid (below_on C0.out hb0)
  refine hK.out _ _ (.inr E1.out) ?_
  clear hK K hb0 E0
  (try simp only [Act.put, List.setIfInBounds_toArray, List.set_cons_zero, List.set_cons_succ])
  refine till_one (i := 3) (o := { dst := some 113, op := _, type := _, pos := _, after := _, guard := _ }) (by kernel_rfl) rfl (fun K hK => ?_)
  go_simp
  go_at_call 23
  refine (r24feast ⟨#[97, 108, 108, 45, 115, 97, 105, 110, 116, 115]⟩ 1 2 1 11 1 0 0 0 _).mono ?_
  rintro e1 w1 ⟨rfl, hb1⟩
  have E2 := Lib.hid (row_on E1.out hb1)
  have C2 := Lib.hid (below_on C1.out hb1)
  refine hK.out _ _ (.inr E2.out) ?_
  clear hK K hb1 E1
  (try simp only [Act.put, List.setIfInBounds_toArray, List.set_cons_zero, List.set_cons_succ])
  refine till_one (i := 4) (o := { dst := some 114, op := _, type := _, pos := _, after := _, guard := _ }) (by kernel_rfl) rfl (fun K hK => ?_)
  go_simp
  go_at_call 22
  refine (r24fixed 11 2 _).mono ?_
  rintro e2 w2 ⟨rfl, hb2⟩
  have E3 := Lib.hid (row_on E2.out hb2)
  have C3 := Lib.hid (below_on C2.out hb2)
  refine hK.out _ _ (.inr E3.out) ?_
  clear hK K hb2 E2
  (try simp only [Act.put, List.setIfInBounds_toArray, List.set_cons_zero, List.set_cons_succ])
  refine till_one (i := 5) (o := { dst := some 115, op := _, type := _, pos := _, after := _, guard := _ }) (by kernel_rfl) rfl (fun K hK => ?_)
  go_simp
  go_at_call 23
  refine (r24feast ⟨#[97, 108, 108, 45, 115, 111, 117, 108, 115]⟩ 3 3 1 11 2 0 0 0 _).mono ?_
  rintro e3 w3 ⟨rfl, hb3⟩
  have E4 := Lib.hid (row_on E3.out hb3)
  have C4 := Lib.hid (below_on C3.out hb3)
  refine hK.out _ _ (.inr E4.out) ?_
  clear hK K hb3 E3
  (try simp only [Act.put, List.setIfInBounds_toArray, List.set_cons_zero, List.set_cons_succ])
  refine till_one (i := 6) (o := { dst := some 116, op := _, type := _, pos := _, after := _, guard := _ }) (by kernel_rfl) rfl (fun K hK => ?_)
  go_simp
  go_at_call 21
  refine (r24sunday 11 20 _).mono ?_
  rintro e4 w4 ⟨rfl, hb4⟩
  have E5 := Lib.hid (row_on E4.out hb4)
  have C5 := Lib.hid (below_on C4.out hb4)
  refine hK.out _ _ (.inr E5.out) ?_
  clear hK K hb4 E4
  (try simp only [Act.put, List.setIfInBounds_toArray, List.set_cons_zero, List.set_cons_succ])
  refine till_one (i := 7) (o := { dst := some 117, op := _, type := _, pos := _, after := _, guard := _ }) (by kernel_rfl) rfl (fun K hK => ?_)
  go_simp
  go_at_call 23
  refine (r24feast ⟨#[99, 104, 114, 105, 115, 116, 45, 116, 104, 101, 45, 107, 105, 110, 103]⟩ 1 3 3 11 20 0 0 1 _).mono ?_
  rintro e5 w5 ⟨rfl, hb5⟩
  have E6 := Lib.hid (row_on E5.out hb5)
  have C6 := Lib.hid (below_on C5.out hb5)
  refine hK.out _ _ (.inr E6.out) ?_
  clear hK K hb5 E5
  (try simp only [Act.put, List.setIfInBounds_toArray, List.set_cons_zero, List.set_cons_succ])
  refine till_one (i := 8) (o := { dst := some 118, op := _, type := _, pos := _, after := _, guard := _ }) (by kernel_rfl) rfl (fun K hK => ?_)
  go_simp
  have E := Lib.hid (row_al E6.out (.cells #[.string ⟨#[97, 108, 108, 45, 115, 97, 105, 110, 116, 115]⟩, .int .i64 1, .int .i64 2, .int .i64 1, .int .i64 11, .int .i64 1, .int .i64 0, .int .i64 0, .int .i64 0, .string ⟨#[97, 108, 108, 45, 115, 111, 117, 108, 115]⟩, .int .i64 3, .int .i64 3, .int .i64 1, .int .i64 11, .int .i64 2, .int .i64 0, .int .i64 0, .int .i64 0, .string ⟨#[99, 104, 114, 105, 115, 116, 45, 116, 104, 101, 45, 107, 105, 110, 103]⟩, .int .i64 1, .int .i64 3, .int .i64 3, .int .i64 11, .int .i64 20, .int .i64 0, .int .i64 0, .int .i64 1] 35))
  have C := Lib.hid (C6.out.alloc C6.out.size (.cells #[.string ⟨#[97, 108, 108, 45, 115, 97, 105, 110, 116, 115]⟩, .int .i64 1, .int .i64 2, .int .i64 1, .int .i64 11, .int .i64 1, .int .i64 0, .int .i64 0, .int .i64 0, .string ⟨#[97, 108, 108, 45, 115, 111, 117, 108, 115]⟩, .int .i64 3, .int .i64 3, .int .i64 1, .int .i64 11, .int .i64 2, .int .i64 0, .int .i64 0, .int .i64 0, .string ⟨#[99, 104, 114, 105, 115, 116, 45, 116, 104, 101, 45, 107, 105, 110, 103]⟩, .int .i64 1, .int .i64 3, .int .i64 3, .int .i64 11, .int .i64 20, .int .i64 0, .int .i64 0, .int .i64 1] 35))
  have NW := Lib.hid (World.news_of_block (heap_alloc_new w5 (.cells #[.string ⟨#[97, 108, 108, 45, 115, 97, 105, 110, 116, 115]⟩, .int .i64 1, .int .i64 2, .int .i64 1, .int .i64 11, .int .i64 1, .int .i64 0, .int .i64 0, .int .i64 0, .string ⟨#[97, 108, 108, 45, 115, 111, 117, 108, 115]⟩, .int .i64 3, .int .i64 3, .int .i64 1, .int .i64 11, .int .i64 2, .int .i64 0, .int .i64 0, .int .i64 0, .string ⟨#[99, 104, 114, 105, 115, 116, 45, 116, 104, 101, 45, 107, 105, 110, 103]⟩, .int .i64 1, .int .i64 3, .int .i64 3, .int .i64 11, .int .i64 20, .int .i64 0, .int .i64 0, .int .i64 1] 35)))
  have OW := Lib.hid (LF.out.on C.out)
  have OT := Lib.hid (LS.out.on C.out)
  have ZW := Lib.hid (Nat.le_trans Z0.out C.out.size)
  have Q0 := Lib.hid (row_on R0.out C.out)
  have BW := Lib.hid (below_on B0.out C.out)
  refine hK.out _ _ (.inr E.out) ?_
  clear hK K C E6
  (try simp only [Act.put, List.setIfInBounds_toArray, List.set_cons_zero, List.set_cons_succ])
  refine till_one (i := 9) (o := { dst := some 119, op := _, type := _, pos := _, after := _, guard := _ }) (by kernel_rfl) rfl (fun K hK => ?_)
  rw [if_pos (by rfl)]
  refine wp_append_lies _ _ _ 24 (by rfl) (W.heap.size + 2) 35 iF (.agg #[.string ⟨#[]⟩, .int .i64 0, .int .i64 0, .int .i64 0, .int .i64 0, .int .i64 0, .int .i64 0, .int .i64 0, .int .i64 0]) 9 80 Try.underlying24 hiF hF0 hF1 hF2 rfl (by decide) (.slice (some ⟨g10, 0, none⟩) 18 c10) 18 (flat9 [bf0, bf1, bf2, bf3, bf4, bf5, bf6, bf7, bf8, bf9, bf10, bf11, bf12, bf13, bf14, bf15, bf16, bf17]) (by rfl) OW.out ⟨w5.heap.size, 0, none⟩ 3 3 (flat9 [bf18, bf19, bf20]) (by rfl) (by rfl) NW.out (flat9_one [bf18, bf19, bf20]) (by decide) (by unfold maxLen; omega) (by decide) ZW.out _ rfl ?_
  intro g11 c11 wz hown hgrow _ _
  have EZ := Lib.hid (show wz.heap[W.heap.size + 1]? = some (catO 5 (.slice (some ⟨g3, 0, none⟩) 8 c3) (.slice (some ⟨g10, 0, none⟩) 18 c10)) by
    rw [hgrow.block (W.heap.size + 1) (Array.getElem?_eq_some_iff.1 E.out).1 (fun e => absurd (World.ownsRow.lt OW.out _ e.symm).1 (by omega))]; exact E.out)
  have QZ := Lib.hid (show wz.heap[W.heap.size]? = some (catO 0 (.slice none 0 0) (.slice none 0 0)) by
    rw [hgrow.block W.heap.size (Array.getElem?_eq_some_iff.1 Q0.out).1 (fun e => absurd (World.ownsRow.lt OW.out _ e.symm).1 (by omega))]; exact Q0.out)
  have BZ := Lib.hid (BW.out.grown hgrow (Nat.le_trans (by omega) ZW.out) (fun k e => Nat.le_trans (by omega) (World.ownsRow.lt OW.out k e).1))
  have TZ := Lib.hid (ItsAt.oth OT.out OW.out hgrow (by decide))
  have ZZ := Lib.hid (Nat.le_trans ZW.out hgrow.size)
  have OZ := Lib.hid (show ItsAt 35 (W.heap.size + 2) (.slice (some ⟨g11, 0, none⟩) 21 c11) [bf0, bf1, bf2, bf3, bf4, bf5, bf6, bf7, bf8, bf9, bf10, bf11, bf12, bf13, bf14, bf15, bf16, bf17, bf18, bf19, bf20] wz from ItsAt.app (xs := [bf0, bf1, bf2, bf3, bf4, bf5, bf6, bf7, bf8, bf9, bf10, bf11, bf12, bf13, bf14, bf15, bf16, bf17]) (ys := [bf18, bf19, bf20]) hown)
  clear hown hgrow OW OT ZW Q0 BW E NW
  refine hK.out _ _ (.inl rfl) ?_
  clear hK K
  (try simp only [Act.put, List.setIfInBounds_toArray, List.set_cons_zero, List.set_cons_succ])
  refine till_take (i := 10) (oi := { dst := some 120, op := _, type := _, pos := _, after := _, guard := _ }) (v := ?v37) rfl (by kernel_rfl) (by kernel_rfl) (by kernel_rfl) (fun _ _ _ h => h) (by decide) (Or.inl ⟨by rfl, ?h37⟩) (.inl rfl) ?_
  case h37 => (intro w _; go_simp; try with_reducible rfl)
  (try simp only [Act.put, List.setIfInBounds_toArray, List.set_cons_zero, List.set_cons_succ])
  obtain ⟨r0, r1, r2, f0, f1, f2, rz⟩ := row3 EZ.out
  refine till_one (i := 11) (o := { dst := none, op := _, type := _, pos := _, after := _, guard := _ }) (by kernel_rfl) rfl (fun K hK => ?_)
  go_simp
  refine hK.out _ _ (.inl rfl) ?_
  clear hK K r0 r1 r2 f0 f1 f2 rz
  refine till_done (by kernel_rfl) ?_ _
  have R1' := Lib.hid (show (wz.setCell ⟨W.heap.size + 1, 2, none⟩ (.slice (some ⟨g11, 0, none⟩) 21 c11)).heap[W.heap.size + 1]? = some (catO 5 (.slice (some ⟨g3, 0, none⟩) 8 c3) (.slice (some ⟨g11, 0, none⟩) 21 c11)) from heap_setCell_same wz _ 2 _ _ (.slice (some ⟨g11, 0, none⟩) 21 c11) EZ.out)
  have R0' := Lib.hid (show (wz.setCell ⟨W.heap.size + 1, 2, none⟩ (.slice (some ⟨g11, 0, none⟩) 21 c11)).heap[W.heap.size]? = some (catO 0 (.slice none 0 0) (.slice none 0 0)) by rw [heap_setCell_other _ _ _ _ (by simp)]; exact QZ.out)
  have LF' := Lib.hid (OZ.out.put (p := ⟨W.heap.size + 1, 2, none⟩) (show W.heap.size + 1 < W.heap.size + 2 by omega) (.slice (some ⟨g11, 0, none⟩) 21 c11))
  have LS' := Lib.hid (TZ.out.put (p := ⟨W.heap.size + 1, 2, none⟩) (show W.heap.size + 1 < W.heap.size + 2 by omega) (.slice (some ⟨g11, 0, none⟩) 21 c11))
  have B0' := Lib.hid (BZ.out.setCell (p := ⟨W.heap.size + 1, 2, none⟩) (show W.heap.size ≤ W.heap.size + 1 by omega) (.slice (some ⟨g11, 0, none⟩) 21 c11))
  have Z0' := Lib.hid (show W.heap.size + 2 ≤ (wz.setCell ⟨W.heap.size + 1, 2, none⟩ (.slice (some ⟨g11, 0, none⟩) 21 c11)).heap.size by simpa using ZZ.out)
  clear R1 R0 LS LF B0 Z0 EZ QZ BZ TZ ZZ OZ C0 C1 C2 C3 C4 C5 C6
  generalize wz.setCell ⟨W.heap.size + 1, 2, none⟩ (.slice (some ⟨g11, 0, none⟩) 21 c11) = u12 at *
  replace R1 := R1'; replace R0 := R0'; replace LS := LS'; replace LF := LF'; replace B0 := B0'; replace Z0 := Z0'
  go_wp2_with fail
  refine till_start (fun u => u.heap[W.heap.size + 1]? = some (catO 5 (.slice (some ⟨g3, 0, none⟩) 8 c3) (.slice (some ⟨g11, 0, none⟩) 21 c11))) 7 (by kernel_rfl) ?_
  refine till_take (i := 0) (oi := { dst := some 121, op := _, type := _, pos := _, after := _, guard := _ }) (v := ?v38) rfl (by kernel_rfl) (by kernel_rfl) (by kernel_rfl) (fun _ _ _ h => h) (by decide) (Or.inl ⟨by rfl, ?h38⟩) (.inr R1.out) ?_
  case h38 => (intro w _; go_simp; try with_reducible rfl)
  (try simp only [Act.put, List.setIfInBounds_toArray, List.set_cons_zero, List.set_cons_succ])
  refine till_take_load (i := 1) (oi := { dst := some 122, op := _, type := _, pos := _, after := _, guard := _ }) (v := ?v39) rfl (by kernel_rfl) (by kernel_rfl) (by kernel_rfl) (fun _ _ _ h => h) (by kernel_rfl) (by decide) (by kernel_rfl) (Or.inl ⟨by rfl, ?h39⟩) R1.out ?_
  case h39 => (intro w hSw; (try dsimp only at hSw); obtain ⟨s0, s1, s2, t0, t1, t2, tz⟩ := row3 hSw; go_simp; try with_reducible rfl)
  (try simp only [Act.put, List.setIfInBounds_toArray, List.set_cons_zero, List.set_cons_succ])
  have C0 := Lib.hid (below_dn (Below.refl u12.heap.size u12) 1)
  have E0 := Lib.hid (show u12.drew.heap[W.heap.size + 1]? = _ from R1.out)
  refine till_one (i := 2) (o := { dst := some 123, op := _, type := _, pos := _, after := _, guard := _ }) (by kernel_rfl) rfl (fun K hK => ?_)
  go_simp
  go_at_call 22
  refine (r24fixed 11 30 _).mono ?_
  rintro e0 w0 ⟨rfl, hb0⟩
  have E1 := Lib.hid (row_on E0.out hb0)
  have C1 := Lib.hid (below_on C0.out hb0)
  refine hK.out _ _ (.inr E1.out) ?_
  clear hK K hb0 E0
  (try simp only [Act.put, List.setIfInBounds_toArray, List.set_cons_zero, List.set_cons_succ])
  refine till_one (i := 3) (o := { dst := some 124, op := _, type := _, pos := _, after := _, guard := _ }) (by kernel_rfl) rfl (fun K hK => ?_)
  go_simp
  go_at_call 23
  refine (r24feast ⟨#[97, 110, 100, 114, 101, 119]⟩ 4 2 1 11 30 0 0 0 _).mono ?_
  rintro e1 w1 ⟨rfl, hb1⟩
  have E2 := Lib.hid (row_on E1.out hb1)
  have C2 := Lib.hid (below_on C1.out hb1)
  refine hK.out _ _ (.inr E2.out) ?_
  clear hK K hb1 E1
  (try simp only [Act.put, List.setIfInBounds_toArray, List.set_cons_zero, List.set_cons_succ])
  refine till_one (i := 4) (o := { dst := some 125, op := _, type := _, pos := _, after := _, guard := _ }) (by kernel_rfl) rfl (fun K hK => ?_)
  go_simp
  go_at_call 22
  refine (r24fixed 12 8 _).mono ?_
  rintro e2 w2 ⟨rfl, hb2⟩
  have E3 := Lib.hid (row_on E2.out hb2)
  have C3 := Lib.hid (below_on C2.out hb2)
  refine hK.out _ _ (.inr E3.out) ?_
  clear hK K hb2 E2
  (try simp only [Act.put, List.setIfInBounds_toArray, List.set_cons_zero, List.set_cons_succ])
  refine till_one (i := 5) (o := { dst := some 126, op := _, type := _, pos := _, after := _, guard := _ }) (by kernel_rfl) rfl (fun K hK => ?_)
  go_simp
  go_at_call 23
  refine (r24feast ⟨#[105, 109, 109, 97, 99, 117, 108, 97, 116, 101, 45, 99, 111, 110, 99, 101, 112, 116, 105, 111, 110]⟩ 1 1 1 12 8 0 0 0 _).mono ?_
  rintro e3 w3 ⟨rfl, hb3⟩
  have E4 := Lib.hid (row_on E3.out hb3)
  have C4 := Lib.hid (below_on C3.out hb3)
  refine hK.out _ _ (.inr E4.out) ?_
  clear hK K hb3 E3
  (try simp only [Act.put, List.setIfInBounds_toArray, List.set_cons_zero, List.set_cons_succ])
  refine till_one (i := 6) (o := { dst := some 127, op := _, type := _, pos := _, after := _, guard := _ }) (by kernel_rfl) rfl (fun K hK => ?_)
  go_simp
  have E := Lib.hid (row_al E4.out (.cells #[.string ⟨#[97, 110, 100, 114, 101, 119]⟩, .int .i64 4, .int .i64 2, .int .i64 1, .int .i64 11, .int .i64 30, .int .i64 0, .int .i64 0, .int .i64 0, .string ⟨#[105, 109, 109, 97, 99, 117, 108, 97, 116, 101, 45, 99, 111, 110, 99, 101, 112, 116, 105, 111, 110]⟩, .int .i64 1, .int .i64 1, .int .i64 1, .int .i64 12, .int .i64 8, .int .i64 0, .int .i64 0, .int .i64 0] 35))
  have C := Lib.hid (C4.out.alloc C4.out.size (.cells #[.string ⟨#[97, 110, 100, 114, 101, 119]⟩, .int .i64 4, .int .i64 2, .int .i64 1, .int .i64 11, .int .i64 30, .int .i64 0, .int .i64 0, .int .i64 0, .string ⟨#[105, 109, 109, 97, 99, 117, 108, 97, 116, 101, 45, 99, 111, 110, 99, 101, 112, 116, 105, 111, 110]⟩, .int .i64 1, .int .i64 1, .int .i64 1, .int .i64 12, .int .i64 8, .int .i64 0, .int .i64 0, .int .i64 0] 35))
  have NW := Lib.hid (World.news_of_block (heap_alloc_new w3 (.cells #[.string ⟨#[97, 110, 100, 114, 101, 119]⟩, .int .i64 4, .int .i64 2, .int .i64 1, .int .i64 11, .int .i64 30, .int .i64 0, .int .i64 0, .int .i64 0, .string ⟨#[105, 109, 109, 97, 99, 117, 108, 97, 116, 101, 45, 99, 111, 110, 99, 101, 112, 116, 105, 111, 110]⟩, .int .i64 1, .int .i64 1, .int .i64 1, .int .i64 12, .int .i64 8, .int .i64 0, .int .i64 0, .int .i64 0] 35)))
  have OW := Lib.hid (LF.out.on C.out)
  have OT := Lib.hid (LS.out.on C.out)
  have ZW := Lib.hid (Nat.le_trans Z0.out C.out.size)
  have Q0 := Lib.hid (row_on R0.out C.out)
  have BW := Lib.hid (below_on B0.out C.out)
  refine hK.out _ _ (.inr E.out) ?_
  clear hK K C E4
  (try simp only [Act.put, List.setIfInBounds_toArray, List.set_cons_zero, List.set_cons_succ])
  refine till_one (i := 7) (o := { dst := some 128, op := _, type := _, pos := _, after := _, guard := _ }) (by kernel_rfl) rfl (fun K hK => ?_)
  rw [if_pos (by rfl)]
  refine wp_append_lies _ _ _ 24 (by rfl) (W.heap.size + 2) 35 iF (.agg #[.string ⟨#[]⟩, .int .i64 0, .int .i64 0, .int .i64 0, .int .i64 0, .int .i64 0, .int .i64 0, .int .i64 0, .int .i64 0]) 9 80 Try.underlying24 hiF hF0 hF1 hF2 rfl (by decide) (.slice (some ⟨g11, 0, none⟩) 21 c11) 21 (flat9 [bf0, bf1, bf2, bf3, bf4, bf5, bf6, bf7, bf8, bf9, bf10, bf11, bf12, bf13, bf14, bf15, bf16, bf17, bf18, bf19, bf20]) (by rfl) OW.out ⟨w3.heap.size, 0, none⟩ 2 2 (flat9 [bf21, bf22]) (by rfl) (by rfl) NW.out (flat9_one [bf21, bf22]) (by decide) (by unfold maxLen; omega) (by decide) ZW.out _ rfl ?_
  intro g12 c12 wz hown hgrow _ _
  have EZ := Lib.hid (show wz.heap[W.heap.size + 1]? = some (catO 5 (.slice (some ⟨g3, 0, none⟩) 8 c3) (.slice (some ⟨g11, 0, none⟩) 21 c11)) by
    rw [hgrow.block (W.heap.size + 1) (Array.getElem?_eq_some_iff.1 E.out).1 (fun e => absurd (World.ownsRow.lt OW.out _ e.symm).1 (by omega))]; exact E.out)
  have QZ := Lib.hid (show wz.heap[W.heap.size]? = some (catO 0 (.slice none 0 0) (.slice none 0 0)) by
    rw [hgrow.block W.heap.size (Array.getElem?_eq_some_iff.1 Q0.out).1 (fun e => absurd (World.ownsRow.lt OW.out _ e.symm).1 (by omega))]; exact Q0.out)
  have BZ := Lib.hid (BW.out.grown hgrow (Nat.le_trans (by omega) ZW.out) (fun k e => Nat.le_trans (by omega) (World.ownsRow.lt OW.out k e).1))
  have TZ := Lib.hid (ItsAt.oth OT.out OW.out hgrow (by decide))
  have ZZ := Lib.hid (Nat.le_trans ZW.out hgrow.size)
  have OZ := Lib.hid (show ItsAt 35 (W.heap.size + 2) (.slice (some ⟨g12, 0, none⟩) 23 c12) [bf0, bf1, bf2, bf3, bf4, bf5, bf6, bf7, bf8, bf9, bf10, bf11, bf12, bf13, bf14, bf15, bf16, bf17, bf18, bf19, bf20, bf21, bf22] wz from ItsAt.app (xs := [bf0, bf1, bf2, bf3, bf4, bf5, bf6, bf7, bf8, bf9, bf10, bf11, bf12, bf13, bf14, bf15, bf16, bf17, bf18, bf19, bf20]) (ys := [bf21, bf22]) hown)
  clear hown hgrow OW OT ZW Q0 BW E NW
  refine hK.out _ _ (.inl rfl) ?_
  clear hK K
  (try simp only [Act.put, List.setIfInBounds_toArray, List.set_cons_zero, List.set_cons_succ])
  refine till_take (i := 8) (oi := { dst := some 129, op := _, type := _, pos := _, after := _, guard := _ }) (v := ?v40) rfl (by kernel_rfl) (by kernel_rfl) (by kernel_rfl) (fun _ _ _ h => h) (by decide) (Or.inl ⟨by rfl, ?h40⟩) (.inl rfl) ?_
  case h40 => (intro w _; go_simp; try with_reducible rfl)
  (try simp only [Act.put, List.setIfInBounds_toArray, List.set_cons_zero, List.set_cons_succ])
  obtain ⟨r0, r1, r2, f0, f1, f2, rz⟩ := row3 EZ.out
  refine till_one (i := 9) (o := { dst := none, op := _, type := _, pos := _, after := _, guard := _ }) (by kernel_rfl) rfl (fun K hK => ?_)
  go_simp
  refine hK.out _ _ (.inl rfl) ?_
  clear hK K r0 r1 r2 f0 f1 f2 rz
  refine till_done (by kernel_rfl) ?_ _
  have R1' := Lib.hid (show (wz.setCell ⟨W.heap.size + 1, 2, none⟩ (.slice (some ⟨g12, 0, none⟩) 23 c12)).heap[W.heap.size + 1]? = some (catO 5 (.slice (some ⟨g3, 0, none⟩) 8 c3) (.slice (some ⟨g12, 0, none⟩) 23 c12)) from heap_setCell_same wz _ 2 _ _ (.slice (some ⟨g12, 0, none⟩) 23 c12) EZ.out)
  have R0' := Lib.hid (show (wz.setCell ⟨W.heap.size + 1, 2, none⟩ (.slice (some ⟨g12, 0, none⟩) 23 c12)).heap[W.heap.size]? = some (catO 0 (.slice none 0 0) (.slice none 0 0)) by rw [heap_setCell_other _ _ _ _ (by simp)]; exact QZ.out)
  have LF' := Lib.hid (OZ.out.put (p := ⟨W.heap.size + 1, 2, none⟩) (show W.heap.size + 1 < W.heap.size + 2 by omega) (.slice (some ⟨g12, 0, none⟩) 23 c12))
  have LS' := Lib.hid (TZ.out.put (p := ⟨W.heap.size + 1, 2, none⟩) (show W.heap.size + 1 < W.heap.size + 2 by omega) (.slice (some ⟨g12, 0, none⟩) 23 c12))
  have B0' := Lib.hid (BZ.out.setCell (p := ⟨W.heap.size + 1, 2, none⟩) (show W.heap.size ≤ W.heap.size + 1 by omega) (.slice (some ⟨g12, 0, none⟩) 23 c12))
  have Z0' := Lib.hid (show W.heap.size + 2 ≤ (wz.setCell ⟨W.heap.size + 1, 2, none⟩ (.slice (some ⟨g12, 0, none⟩) 23 c12)).heap.size by simpa using ZZ.out)
  clear R1 R0 LS LF B0 Z0 EZ QZ BZ TZ ZZ OZ C0 C1 C2 C3 C4
  generalize wz.setCell ⟨W.heap.size + 1, 2, none⟩ (.slice (some ⟨g12, 0, none⟩) 23 c12) = u13 at *
  replace R1 := R1'; replace R0 := R0'; replace LS := LS'; replace LF := LF'; replace B0 := B0'; replace Z0 := Z0'
  go_wp2_with fail
  refine till_start (fun u => u.heap[W.heap.size + 1]? = some (catO 5 (.slice (some ⟨g3, 0, none⟩) 8 c3) (.slice (some ⟨g12, 0, none⟩) 23 c12))) 7 (by kernel_rfl) ?_
  refine till_take (i := 0) (oi := { dst := some 130, op := _, type := _, pos := _, after := _, guard := _ }) (v := ?v41) rfl (by kernel_rfl) (by kernel_rfl) (by kernel_rfl) (fun _ _ _ h => h) (by decide) (Or.inl ⟨by rfl, ?h41⟩) (.inr R1.out) ?_
  case h41 => (intro w _; go_simp; try with_reducible rfl)
  (try simp only [Act.put, List.setIfInBounds_toArray, List.set_cons_zero, List.set_cons_succ])
  refine till_take_load (i := 1) (oi := { dst := some 131, op := _, type := _, pos := _, after := _, guard := _ }) (v := ?v42) rfl (by kernel_rfl) (by kernel_rfl) (by kernel_rfl) (fun _ _ _ h => h) (by kernel_rfl) (by decide) (by kernel_rfl) (Or.inl ⟨by rfl, ?h42⟩) R1.out ?_
  case h42 => (intro w hSw; (try dsimp only at hSw); obtain ⟨s0, s1, s2, t0, t1, t2, tz⟩ := row3 hSw; go_simp; try with_reducible rfl)
  (try simp only [Act.put, List.setIfInBounds_toArray, List.set_cons_zero, List.set_cons_succ])
  have C0 := Lib.hid (below_dn (Below.refl u13.heap.size u13) 1)
  have E0 := Lib.hid (show u13.drew.heap[W.heap.size + 1]? = _ from R1.out)
  refine till_one (i := 2) (o := { dst := some 132, op := _, type := _, pos := _, after := _, guard := _ }) (by kernel_rfl) rfl (fun K hK => ?_)
  go_simp
  go_at_call 22
  refine (r24fixed 12 25 _).mono ?_
  rintro e0 w0 ⟨rfl, hb0⟩
  have E1 := Lib.hid (row_on E0.out hb0)
  have C1 := Lib.hid (below_on C0.out hb0)
  refine hK.out _ _ (.inr E1.out) ?_
  clear hK K hb0 E0
  (try simp only [Act.put, List.setIfInBounds_toArray, List.set_cons_zero, List.set_cons_succ])
  refine till_one (i := 3) (o := { dst := some 133, op := _, type := _, pos := _, after := _, guard := _ }) (by kernel_rfl) rfl (fun K hK => ?_)
  go_simp
  go_at_call 23
  refine (r24feast ⟨#[110, 97, 116, 105, 118, 105, 116, 121]⟩ 1 2 1 12 25 0 0 0 _).mono ?_
  rintro e1 w1 ⟨rfl, hb1⟩
  have E2 := Lib.hid (row_on E1.out hb1)
  have C2 := Lib.hid (below_on C1.out hb1)
  refine hK.out _ _ (.inr E2.out) ?_
  clear hK K hb1 E1
  (try simp only [Act.put, List.setIfInBounds_toArray, List.set_cons_zero, List.set_cons_succ])
  refine till_one (i := 4) (o := { dst := some 134, op := _, type := _, pos := _, after := _, guard := _ }) (by kernel_rfl) rfl (fun K hK => ?_)
  go_simp
  go_at_call 22
  refine (r24fixed 12 26 _).mono ?_
  rintro e2 w2 ⟨rfl, hb2⟩
  have E3 := Lib.hid (row_on E2.out hb2)
  have C3 := Lib.hid (below_on C2.out hb2)
  refine hK.out _ _ (.inr E3.out) ?_
  clear hK K hb2 E2
  (try simp only [Act.put, List.setIfInBounds_toArray, List.set_cons_zero, List.set_cons_succ])
  refine till_one (i := 5) (o := { dst := some 135, op := _, type := _, pos := _, after := _, guard := _ }) (by kernel_rfl) rfl (fun K hK => ?_)
  go_simp
  go_at_call 23
  refine (r24feast ⟨#[115, 116, 101, 112, 104, 101, 110]⟩ 4 2 1 12 26 0 0 0 _).mono ?_
  rintro e3 w3 ⟨rfl, hb3⟩
  have E4 := Lib.hid (row_on E3.out hb3)
  have C4 := Lib.hid (below_on C3.out hb3)
  refine hK.out _ _ (.inr E4.out) ?_
  clear hK K hb3 E3
  (try simp only [Act.put, List.setIfInBounds_toArray, List.set_cons_zero, List.set_cons_succ])
  refine till_one (i := 6) (o := { dst := some 136, op := _, type := _, pos := _, after := _, guard := _ }) (by kernel_rfl) rfl (fun K hK => ?_)
  go_simp
  have E := Lib.hid (row_al E4.out (.cells #[.string ⟨#[110, 97, 116, 105, 118, 105, 116, 121]⟩, .int .i64 1, .int .i64 2, .int .i64 1, .int .i64 12, .int .i64 25, .int .i64 0, .int .i64 0, .int .i64 0, .string ⟨#[115, 116, 101, 112, 104, 101, 110]⟩, .int .i64 4, .int .i64 2, .int .i64 1, .int .i64 12, .int .i64 26, .int .i64 0, .int .i64 0, .int .i64 0] 35))
  have C := Lib.hid (C4.out.alloc C4.out.size (.cells #[.string ⟨#[110, 97, 116, 105, 118, 105, 116, 121]⟩, .int .i64 1, .int .i64 2, .int .i64 1, .int .i64 12, .int .i64 25, .int .i64 0, .int .i64 0, .int .i64 0, .string ⟨#[115, 116, 101, 112, 104, 101, 110]⟩, .int .i64 4, .int .i64 2, .int .i64 1, .int .i64 12, .int .i64 26, .int .i64 0, .int .i64 0, .int .i64 0] 35))
  have NW := Lib.hid (World.news_of_block (heap_alloc_new w3 (.cells #[.string ⟨#[110, 97, 116, 105, 118, 105, 116, 121]⟩, .int .i64 1, .int .i64 2, .int .i64 1, .int .i64 12, .int .i64 25, .int .i64 0, .int .i64 0, .int .i64 0, .string ⟨#[115, 116, 101, 112, 104, 101, 110]⟩, .int .i64 4, .int .i64 2, .int .i64 1, .int .i64 12, .int .i64 26, .int .i64 0, .int .i64 0, .int .i64 0] 35)))
  have OW := Lib.hid (LF.out.on C.out)
  have OT := Lib.hid (LS.out.on C.out)
  have ZW := Lib.hid (Nat.le_trans Z0.out C.out.size)
  have Q0 := Lib.hid (row_on R0.out C.out)
  have BW := Lib.hid (below_on B0.out C.out)
  refine hK.out _ _ (.inr E.out) ?_
  clear hK K C E4
  (try simp only [Act.put, List.setIfInBounds_toArray, List.set_cons_zero, List.set_cons_succ])
  refine till_one (i := 7) (o := { dst := some 137, op := _, type := _, pos := _, after := _, guard := _ }) (by kernel_rfl) rfl (fun K hK => ?_)
  rw [if_pos (by rfl)]
  refine wp_append_lies _ _ _ 24 (by rfl) (W.heap.size + 2) 35 iF (.agg #[.string ⟨#[]⟩, .int .i64 0, .int .i64 0, .int .i64 0, .int .i64 0, .int .i64 0, .int .i64 0, .int .i64 0, .int .i64 0]) 9 80 Try.underlying24 hiF hF0 hF1 hF2 rfl (by decide) (.slice (some ⟨g12, 0, none⟩) 23 c12) 23 (flat9 [bf0, bf1, bf2, bf3, bf4, bf5, bf6, bf7, bf8, bf9, bf10, bf11, bf12, bf13, bf14, bf15, bf16, bf17, bf18, bf19, bf20, bf21, bf22]) (by rfl) OW.out ⟨w3.heap.size, 0, none⟩ 2 2 (flat9 [bf23, bf24]) (by rfl) (by rfl) NW.out (flat9_one [bf23, bf24]) (by decide) (by unfold maxLen; omega) (by decide) ZW.out _ rfl ?_
  intro g13 c13 wz hown hgrow _ _
  have EZ := Lib.hid (show wz.heap[W.heap.size + 1]? = some (catO 5 (.slice (some ⟨g3, 0, none⟩) 8 c3) (.slice (some ⟨g12, 0, none⟩) 23 c12)) by
    rw [hgrow.block (W.heap.size + 1) (Array.getElem?_eq_some_iff.1 E.out).1 (fun e => absurd (World.ownsRow.lt OW.out _ e.symm).1 (by omega))]; exact E.out)
  have QZ := Lib.hid (show wz.heap[W.heap.size]? = some (catO 0 (.slice none 0 0) (.slice none 0 0)) by
    rw [hgrow.block W.heap.size (Array.getElem?_eq_some_iff.1 Q0.out).1 (fun e => absurd (World.ownsRow.lt OW.out _ e.symm).1 (by omega))]; exact Q0.out)
  have BZ := Lib.hid (BW.out.grown hgrow (Nat.le_trans (by omega) ZW.out) (fun k e => Nat.le_trans (by omega) (World.ownsRow.lt OW.out k e).1))
  have TZ := Lib.hid (ItsAt.oth OT.out OW.out hgrow (by decide))
  have ZZ := Lib.hid (Nat.le_trans ZW.out hgrow.size)
  have OZ := Lib.hid (show ItsAt 35 (W.heap.size + 2) (.slice (some ⟨g13, 0, none⟩) 25 c13) [bf0, bf1, bf2, bf3, bf4, bf5, bf6, bf7, bf8, bf9, bf10, bf11, bf12, bf13, bf14, bf15, bf16, bf17, bf18, bf19, bf20, bf21, bf22, bf23, bf24] wz from ItsAt.app (xs := [bf0, bf1, bf2, bf3, bf4, bf5, bf6, bf7, bf8, bf9, bf10, bf11, bf12, bf13, bf14, bf15, bf16, bf17, bf18, bf19, bf20, bf21, bf22]) (ys := [bf23, bf24]) hown)
  clear hown hgrow OW OT ZW Q0 BW E NW
  refine hK.out _ _ (.inl rfl) ?_
  clear hK K
  (try simp only [Act.put, List.setIfInBounds_toArray, List.set_cons_zero, List.set_cons_succ])
  refine till_take (i := 8) (oi := { dst := some 138, op := _, type := _, pos := _, after := _, guard := _ }) (v := ?v43) rfl (by kernel_rfl) (by kernel_rfl) (by kernel_rfl) (fun _ _ _ h => h) (by decide) (Or.inl ⟨by rfl, ?h43⟩) (.inl rfl) ?_
  case h43 => (intro w _; go_simp; try with_reducible rfl)
  (try simp only [Act.put, List.setIfInBounds_toArray, List.set_cons_zero, List.set_cons_succ])
  obtain ⟨r0, r1, r2, f0, f1, f2, rz⟩ := row3 EZ.out
  refine till_one (i := 9) (o := { dst := none, op := _, type := _, pos := _, after := _, guard := _ }) (by kernel_rfl) rfl (fun K hK => ?_)
  go_simp
  refine hK.out _ _ (.inl rfl) ?_
  clear hK K r0 r1 r2 f0 f1 f2 rz
  refine till_done (by kernel_rfl) ?_ _
  have R1' := Lib.hid (show (wz.setCell ⟨W.heap.size + 1, 2, none⟩ (.slice (some ⟨g13, 0, none⟩) 25 c13)).heap[W.heap.size + 1]? = some (catO 5 (.slice (some ⟨g3, 0, none⟩) 8 c3) (.slice (some ⟨g13, 0, none⟩) 25 c13)) from heap_setCell_same wz _ 2 _ _ (.slice (some ⟨g13, 0, none⟩) 25 c13) EZ.out)
  have R0' := Lib.hid (show (wz.setCell ⟨W.heap.size + 1, 2, none⟩ (.slice (some ⟨g13, 0, none⟩) 25 c13)).heap[W.heap.size]? = some (catO 0 (.slice none 0 0) (.slice none 0 0)) by rw [heap_setCell_other _ _ _ _ (by simp)]; exact QZ.out)
  have LF' := Lib.hid (OZ.out.put (p := ⟨W.heap.size + 1, 2, none⟩) (show W.heap.size + 1 < W.heap.size + 2 by omega) (.slice (some ⟨g13, 0, none⟩) 25 c13))
  have LS' := Lib.hid (TZ.out.put (p := ⟨W.heap.size + 1, 2, none⟩) (show W.heap.size + 1 < W.heap.size + 2 by omega) (.slice (some ⟨g13, 0, none⟩) 25 c13))
  have B0' := Lib.hid (BZ.out.setCell (p := ⟨W.heap.size + 1, 2, none⟩) (show W.heap.size ≤ W.heap.size + 1 by omega) (.slice (some ⟨g13, 0, none⟩) 25 c13))
  have Z0' := Lib.hid (show W.heap.size + 2 ≤ (wz.setCell ⟨W.heap.size + 1, 2, none⟩ (.slice (some ⟨g13, 0, none⟩) 25 c13)).heap.size by simpa using ZZ.out)
  clear R1 R0 LS LF B0 Z0 EZ QZ BZ TZ ZZ OZ C0 C1 C2 C3 C4
  generalize wz.setCell ⟨W.heap.size + 1, 2, none⟩ (.slice (some ⟨g13, 0, none⟩) 25 c13) = u14 at *
  replace R1 := R1'; replace R0 := R0'; replace LS := LS'; replace LF := LF'; replace B0 := B0'; replace Z0 := Z0'
  obtain ⟨r0, r1, r2, f0, f1, f2, rz⟩ := row3 R1.out
  obtain ⟨k0, k1, k2, h0, h1, h2, kz⟩ := row3 R0.out
  go_wp2_with fail
  generalize hX : ((u14.setCell ⟨W.heap.size, 0, none⟩ (.int .i64 5)).setCell ⟨W.heap.size, 1, none⟩ (.slice (some ⟨g3, 0, none⟩) 8 c3)).setCell ⟨W.heap.size, 2, none⟩ (.slice (some ⟨g13, 0, none⟩) 25 c13) = X
  obtain ⟨m0, m1, m2⟩ := three_set _ _ _ R0.out hX
  have SX : ItsAt 33 (W.heap.size + 2) (.slice (some ⟨g3, 0, none⟩) 8 c3) bSs X := by
    rw [← hX]; exact ((LS.out.put (p := ⟨W.heap.size, 0, none⟩) (show W.heap.size < W.heap.size + 2 by omega) _).put (p := ⟨W.heap.size, 1, none⟩) (show W.heap.size < W.heap.size + 2 by omega) _).put (p := ⟨W.heap.size, 2, none⟩) (show W.heap.size < W.heap.size + 2 by omega) _
  have FX : ItsAt 35 (W.heap.size + 2) (.slice (some ⟨g13, 0, none⟩) 25 c13) bFs X := by
    rw [← hX]; exact ((LF.out.put (p := ⟨W.heap.size, 0, none⟩) (show W.heap.size < W.heap.size + 2 by omega) _).put (p := ⟨W.heap.size, 1, none⟩) (show W.heap.size < W.heap.size + 2 by omega) _).put (p := ⟨W.heap.size, 2, none⟩) (show W.heap.size < W.heap.size + 2 by omega) _
  have BX := below_set3 B0.out (Nat.le_refl _) _ _ _ hX
  refine bodyPost_ret (v := .agg #[.int .i64 5, (.slice (some ⟨g3, 0, none⟩) 8 c3), (.slice (some ⟨g13, 0, none⟩) 25 c13)]) (by simp [results, Try.results8, go_sem, m0, m1, m2]) rfl ⟨_, _, rfl, SX.sl, FX.sl, BX⟩
end Go.Proofs.Ytiegddohgjofbaa
