/- What earlier stages proved: Xa Xb Xc. -/
import Derived.Test.YtkhicgafhbecfaaGreatDoorRows
import Derived.OrdersHeld
import Derived.Deep.RegionHeld3
import Derived.Test.YtkhicgafhbecfaaGreatDoorKz
import Derived.Maps.AppendAt
import Derived.Deep.AppendLies
namespace Go.Proofs.YtkhicgafhbecfaaGreatDoor

section
variable {P : Program} {ops : Array Oper} {Q : Exit → Act → World → Prop} {md : Region.Mode} {S : World → Prop} {u : Nat}
/-- What is asked of a world while it matters: until u has come up. -/
abbrev till (u : Nat) (S : World → Prop) (l : Array Bool) (w : World) : Prop := l.getD u true = true ∨ S w
/-- Every order from here on ends as Q asks, and S is kept until u has come up. -/
def anyTill (P : Program) (md : Region.Mode) (ops : Array Oper) (Q : Exit → Act → World → Prop) (S : World → Prop) (u : Nat) : Nat → Array Bool → Act → World → Prop
  | 0, l, a, w => Region.ready md ops l = [] ∧ Q .normal a w
  | n + 1, l, a, w => (Region.ready md ops l = [] → Q .normal a w) ∧
      ∀ i ∈ Region.ready md ops l, wpOp P ops Q i (fun b v => till u S (l.setIfInBounds i true) v ∧ anyTill P md ops Q S u n (l.setIfInBounds i true) b v) a w
theorem any_of_till : ∀ (n : Nat) (l : Array Bool) (a : Act) (w : World), anyTill P md ops Q S u n l a w → wpAny P md ops Q n l a w
  | 0, _, _, _, h => h
  | n + 1, _, _, _, h => ⟨h.1, fun i hi => wpOp_mono (fun b v hb => any_of_till n _ b v hb.2) (h.2 i hi)⟩
/-- Number u waits for number i. -/
def waitsFor (md : Region.Mode) (ops : Array Oper) (u i : Nat) : Bool := match ops[u]? with
  | some o => o.after.toList.any fun e => Region.binds md e && decide (e.on = i)
  | none => false
theorem not_ready {i : Nat} {l : Array Bool} (hw : waitsFor md ops u i = true) (hl : l.getD i true = false) : u ∉ Region.ready md ops l := by
  intro h
  obtain ⟨_, o, ho, hall⟩ := mem_ready.1 h
  unfold waitsFor at hw
  rw [ho] at hw
  simp only [List.any_eq_true, Bool.and_eq_true, decide_eq_true_eq] at hw
  obtain ⟨e, he, hb, rfl⟩ := hw
  have h1 := hall e (Array.mem_toList_iff.1 he) hb
  rcases Nat.lt_or_ge e.on l.size with g | g
  · simp [g] at hl h1; rw [hl] at h1; cases h1
  · simp [Array.getElem?_eq_none g] at h1
theorem free_set {i j : Nat} {oi : Oper} {l : Array Bool} (hfree : ∀ k ok, ops[k]? = some ok → k ≠ i → l.getD k true = false → (∀ e ∈ ok.after, Region.binds md e = true → e.on ≠ i) → oi.apart ops ok = true) (hl : l.getD j true = false) :
    ∀ k ok, ops[k]? = some ok → k ≠ i → (l.setIfInBounds j true).getD k true = false → (∀ e ∈ ok.after, Region.binds md e = true → e.on ≠ i) → oi.apart ops ok = true := fun k ok hk hki hun hno => by
  refine hfree k ok hk hki ?_ hno
  by_cases e : j = k
  · subst e; exact hl
  · rwa [getD_set_ne true e] at hun
theorem not_on {i j : Nat} {l : Array Bool} (hr : i ∈ Region.ready md ops l) (hj : j ∈ Region.ready md ops l) : ∃ oj, ops[j]? = some oj ∧ l.getD j true = false ∧ ∀ e ∈ oj.after, Region.binds md e = true → e.on ≠ i := by
  obtain ⟨hjn, oj, hoj, hall⟩ := mem_ready.1 hj
  refine ⟨oj, hoj, hjn, fun e he hb heq => ?_⟩
  have h1 := hall e he hb
  have h0 := (mem_ready.1 hr).1
  rw [heq] at h1
  rcases Nat.lt_or_ge i l.size with g | g
  · simp [g] at h0 h1; rw [h0] at h1; cases h1
  · simp [Array.getElem?_eq_none g] at h1
/-- A load that number u waits for. -/
theorem till_load {i : Nat} {oi : Oper} {v : Value} (hi : ops[i]? = some oi) (hsel : ∀ (j : Nat) (o : Oper) cs b, ops[j]? = some o → o.op ≠ .select cs b)
    (hQ : ∀ c a w, Q (.panic c) (a.put oi.dst v) w → Q (.panic c) a w) (hu : waitsFor md ops u i = true) (hiu : i ≠ u) :
    ∀ (n : Nat) (l : Array Bool) (a : Act) (w : World), l.getD u true = false →
      (∀ j oj, ops[j]? = some oj → j ≠ i → l.getD j true = false → (∀ e ∈ oj.after, Region.binds md e = true → e.on ≠ i) → oi.apart ops oj = true) →
      i ∈ Region.ready md ops l → YieldsIf P ops S oi v a → S w →
      anyTill P md ops Q S u n (l.setIfInBounds i true) (a.put oi.dst v) w → anyTill P md ops Q S u (n + 1) l a w := by
  intro n
  induction n with
  | zero =>
    intro l a w _ _ hr hy hS H
    refine ⟨fun h => absurd hr (by rw [h]; simp), fun j hj => ?_⟩
    by_cases hji : j = i
    · subst hji; exact hy.wpOp hi hS ⟨.inr hS, H⟩
    · have hk := ready_mono hj hji
      rw [H.1] at hk; cases hk
  | succ n ih =>
    intro l a w hlu hfree hr hy hS H
    refine ⟨fun h => absurd hr (by rw [h]; simp), fun j hj => ?_⟩
    by_cases hji : j = i
    · subst hji; exact hy.wpOp hi hS ⟨.inr hS, H⟩
    · have hju : j ≠ u := fun e => not_ready hu (mem_ready.1 hr).1 (e ▸ hj)
      obtain ⟨oj, hoj, hjn, hno⟩ := not_on hr hj
      have hp := wpOp_putIf hoj (hfree j oj hoj hji hjn hno) (fun cs b => hsel i oi cs b hi) (fun cs b => hsel j oj cs b hoj) hQ hy (H.2 j (ready_mono hj hji))
      refine wpOp_mono (fun b v' h3 => ?_) hp
      obtain ⟨h3a, h3b, h3c⟩ := h3
      have e0 : (l.setIfInBounds j true).getD u true = false := by rw [getD_set_ne true hju]; exact hlu
      have e1 : ((l.setIfInBounds i true).setIfInBounds j true).getD u true = false := by rw [getD_set_ne true hju, getD_set_ne true hiu]; exact hlu
      have hSv : S v' := by
        rcases h3b with h3b | h3b
        · rw [e1] at h3b; cases h3b
        · exact h3b
      refine ⟨.inr hSv, ih (l.setIfInBounds j true) b v' e0 (free_set hfree hjn) (ready_mono hr (Ne.symm hji)) h3a hSv ?_⟩
      rw [Array.setIfInBounds_comm _ _ hji]
      exact h3c
/-- An operation that yields its value in whatever world. -/
theorem till_any {i : Nat} {oi : Oper} {v : Value} (hi : ops[i]? = some oi) (hsel : ∀ (j : Nat) (o : Oper) cs b, ops[j]? = some o → o.op ≠ .select cs b)
    (hQ : ∀ c a w, Q (.panic c) (a.put oi.dst v) w → Q (.panic c) a w) (hiu : i ≠ u) :
    ∀ (n : Nat) (l : Array Bool) (a : Act) (w : World),
      (∀ j oj, ops[j]? = some oj → j ≠ i → l.getD j true = false → (∀ e ∈ oj.after, Region.binds md e = true → e.on ≠ i) → oi.apart ops oj = true) →
      i ∈ Region.ready md ops l → YieldsIf P ops (fun _ => True) oi v a → till u S l w →
      anyTill P md ops Q S u n (l.setIfInBounds i true) (a.put oi.dst v) w → anyTill P md ops Q S u (n + 1) l a w := by
  have same : ∀ (l : Array Bool) (w : World), till u S l w → till u S (l.setIfInBounds i true) w := fun l w h => by unfold till; rw [getD_set_ne true hiu]; exact h
  intro n
  induction n with
  | zero =>
    intro l a w _ hr hy hS H
    refine ⟨fun h => absurd hr (by rw [h]; simp), fun j hj => ?_⟩
    by_cases hji : j = i
    · subst hji; exact hy.wpOp hi trivial ⟨same l w hS, H⟩
    · have hk := ready_mono hj hji
      rw [H.1] at hk; cases hk
  | succ n ih =>
    intro l a w hfree hr hy hS H
    refine ⟨fun h => absurd hr (by rw [h]; simp), fun j hj => ?_⟩
    by_cases hji : j = i
    · subst hji; exact hy.wpOp hi trivial ⟨same l w hS, H⟩
    · obtain ⟨oj, hoj, hjn, hno⟩ := not_on hr hj
      have hp := wpOp_putIf hoj (hfree j oj hoj hji hjn hno) (fun cs b => hsel i oi cs b hi) (fun cs b => hsel j oj cs b hoj) hQ hy (H.2 j (ready_mono hj hji))
      refine wpOp_mono (fun b v' h3 => ?_) hp
      obtain ⟨h3a, h3b, h3c⟩ := h3
      rw [Array.setIfInBounds_comm _ _ (Ne.symm hji)] at h3b
      have hSv : till u S (l.setIfInBounds j true) v' := by unfold till at *; rwa [getD_set_ne true hiu] at h3b
      refine ⟨hSv, ih (l.setIfInBounds j true) b v' (free_set hfree hjn) (ready_mono hr (Ne.symm hji)) h3a hSv ?_⟩
      rw [Array.setIfInBounds_comm _ _ hji]
      exact h3c
theorem till_take_load {i : Nat} {oi : Oper} {v : Value} {n : Nat} {l : Array Bool} {a : Act} {w : World} (hi : ops[i]? = some oi) (hs : Region.noSelect ops = true) (hf : Region.free md ops l i = true)
    (hr : (Region.ready md ops l).contains i = true) (hQ : ∀ c a w, Q (.panic c) (a.put oi.dst v) w → Q (.panic c) a w) (hu : waitsFor md ops u i = true) (hiu : i ≠ u) (hlu : l.getD u true = false) (hy : YieldsIf P ops S oi v a) (hS : S w)
    (h : anyTill P md ops Q S u n (l.setIfInBounds i true) (a.put oi.dst v) w) : anyTill P md ops Q S u (n + 1) l a w :=
  till_load hi (Region.noSelect_spec hs) hQ hu hiu n l a w hlu (Region.free_spec hi hf) (by simpa using hr) hy hS h
theorem till_take {i : Nat} {oi : Oper} {v : Value} {n : Nat} {l : Array Bool} {a : Act} {w : World} (hi : ops[i]? = some oi) (hs : Region.noSelect ops = true) (hf : Region.free md ops l i = true)
    (hr : (Region.ready md ops l).contains i = true) (hQ : ∀ c a w, Q (.panic c) (a.put oi.dst v) w → Q (.panic c) a w) (hiu : i ≠ u) (hy : YieldsIf P ops (fun _ => True) oi v a) (hS : till u S l w)
    (h : anyTill P md ops Q S u n (l.setIfInBounds i true) (a.put oi.dst v) w) : anyTill P md ops Q S u (n + 1) l a w :=
  till_any hi (Region.noSelect_spec hs) hQ hiu n l a w (Region.free_spec hi hf) (by simpa using hr) hy hS h
/-- Number i alone may come up. -/
theorem till_one {i : Nat} {o : Oper} {n : Nat} {l : Array Bool} {a : Act} {w : World} (hr : Region.ready md ops l = [i]) (ho : ops[i]? = some o)
    (h : ∀ K' : Act → World → Prop, Shut (∀ b v, till u S (l.setIfInBounds i true) v → anyTill P md ops Q S u n (l.setIfInBounds i true) b v → K' b v) → if Region.wanted o (yielded ops a.tmps) = true then Oper.wp P o a w K' Q else K' (a.put o.dst undef) w) :
    anyTill P md ops Q S u (n + 1) l a w := by
  refine ⟨fun e => (by rw [hr] at e; cases e), fun j hj => ?_⟩
  rw [hr, List.mem_singleton] at hj
  subst hj
  exact wpOp_step ho (fun K' hK => h K' (fun b v h1 h2 => hK b v ⟨h1, h2⟩))
theorem till_done {l : Array Bool} {a : Act} {w : World} (hr : Region.ready md ops l = []) (h : Q .normal a w) : ∀ n, anyTill P md ops Q S u n l a w
  | 0 => ⟨hr, h⟩
  | _ + 1 => ⟨fun _ => h, by rw [hr]; simp⟩
theorem till_start {id : Nat} {a : Act} {w : World} (S : World → Prop) (u : Nat) (hm : P.follows .mixedOrders = true) (h : anyTill P .any ops Q S u ops.size (Array.replicate ops.size false) a w.drew) : (Code.region id ops true).wp P Q a w :=
  wp_region_any hm (any_of_till _ _ _ _ h)
end
end Go.Proofs.YtkhicgafhbecfaaGreatDoor

namespace Go.Proofs.YtkhicgafhbecfaaGreatDoor
open Go.RowKit

def flat9 : List Itm → List Value
  | [] => []
  | t :: ts => .string t.id :: .int .i64 t.x :: .int .i64 t.y :: .int .i64 t.k :: .int .i64 t.m :: .int .i64 t.d :: .int .i64 t.o :: .int .i64 t.w :: .int .i64 t.c :: flat9 ts
theorem flat9_app : ∀ xs ys : List Itm, flat9 (xs ++ ys) = flat9 xs ++ flat9 ys
  | [], _ => rfl
  | x :: xs, ys => by simp [flat9, flat9_app xs ys]
theorem flat9_len : ∀ xs : List Itm, (flat9 xs).length = xs.length * 9
  | [] => rfl
  | x :: xs => by simp [flat9, flat9_len xs]; omega
theorem flat9_one : ∀ l : List Itm, ∀ u ∈ flat9 l, u.oneCell' = true
  | [], u, h => by cases h
  | c :: cs, u, h => by
    simp only [flat9, List.mem_cons] at h
    rcases h with rfl | rfl | rfl | rfl | rfl | rfl | rfl | rfl | rfl | h
    · rfl
    · rfl
    · rfl
    · rfl
    · rfl
    · rfl
    · rfl
    · rfl
    · rfl
    · exact flat9_one cs u h
theorem flat9_at : ∀ (l : List Itm) (i : Nat) (c : Itm), l[i]? = some c → ∀ j, j < 9 → (flat9 l)[i * 9 + j]? = c.vals[j]?
  | [], i, x, h, _, _ => by simp at h
  | p :: ps, 0, x, h, j, hj => by
    simp at h; subst h
    match j, hj with
    | 0, _ => rfl
    | 1, _ => rfl
    | 2, _ => rfl
    | 3, _ => rfl
    | 4, _ => rfl
    | 5, _ => rfl
    | 6, _ => rfl
    | 7, _ => rfl
    | 8, _ => rfl
  | p :: ps, i + 1, x, h, j, hj => by
    have := flat9_at ps i x (by simpa using h) j hj
    rw [show (i + 1) * 9 + j = (i * 9 + j) + 1 + 1 + 1 + 1 + 1 + 1 + 1 + 1 + 1 by omega]
    simpa [flat9] using this
/-- An array of items, read as a slice. -/
theorem SlAt.row {w : World} {b : Nat} {l : List Itm} {cs : Array Value} {t : TypeId} {fr : Nat × Nat} (h : w.heap[b]? = some (.cells cs t fr)) (hcs : cs.toList = flat9 l) (hl : l.length ≤ maxLen) : SlAt w (.slice (some ⟨b, 0, none⟩) l.length l.length) l := by
  refine ⟨_, _, rfl, Nat.le_refl _, hl, fun i t hi => ⟨b, 0, rfl, (Array.getElem?_eq_some_iff.1 h).1, fun j hj => ?_⟩⟩
  rw [cell_of_row _ _ _ _ _ _ h, Nat.zero_add, ← flat9_at l i t hi j hj, ← hcs, Array.getElem?_toList]
/-- A slice of items of the call's own. -/
def ItsAt (t : TypeId) (B : Nat) (v : Value) (l : List Itm) (w : World) : Prop := w.ownsRow B t 9 v l.length (flat9 l)
theorem ItsAt.on {t : TypeId} {B : Nat} {v : Value} {xs : List Itm} {w w' : World} (h : ItsAt t B v xs w) (hb : Below w.heap.size w w') : ItsAt t B v xs w' :=
  World.ownsRow.kept h (grown_of_below hb none) (by cases hv : v.ownBlock <;> simp)
theorem ItsAt.al {t : TypeId} {B : Nat} {v : Value} {xs : List Itm} {w : World} (h : ItsAt t B v xs w) (o : Obj) : ItsAt t B v xs (w.alloc o) := h.on ((Below.refl _ _).alloc (Nat.le_refl _) o)
theorem ItsAt.emp (t : TypeId) (B : Nat) (w : World) : ItsAt t B (.slice none 0 0) [] w := World.ownsRow_nil w B _ 9
theorem ItsAt.put {t : TypeId} {B : Nat} {v : Value} {xs : List Itm} {w : World} (h : ItsAt t B v xs w) {p : Addr} (hp : p.block < B) (x : Value) : ItsAt t B v xs (w.setCell p x) := by
  refine World.ownsRow.kept h ⟨rfl, rfl, rfl, by simp, fun k _ hne => heap_setCell_other _ _ _ _ (fun e => hne (by rw [e]))⟩ (row := some p.block) ?_
  rcases h.2 with ⟨rfl, _⟩ | ⟨g, cap, cur, rfl, hb, _⟩
  · exact .inl rfl
  · right; simp [Value.ownBlock]; omega
theorem ItsAt.oth {t1 t2 : TypeId} {B : Nat} {v1 v2 : Value} {xs ys : List Itm} {w w' : World} (h1 : ItsAt t1 B v1 xs w) (h2 : ItsAt t2 B v2 ys w) (hg : w.grownBy w' v2.ownBlock) (ht : t1 ≠ t2) : ItsAt t1 B v1 xs w' := by
  refine World.ownsRow.kept h1 hg ?_
  rcases h1.2 with ⟨rfl, _⟩ | ⟨g, cap, cur, rfl, _, hg1, _⟩
  · exact .inl rfl
  · refine .inr fun e => ?_
    rcases h2.2 with ⟨rfl, _⟩ | ⟨g', cap', cur', rfl, _, hg2, _⟩
    · cases e
    · obtain rfl : g = g' := by simpa [Value.ownBlock] using e
      rw [hg1] at hg2
      injection hg2 with hg2
      injection hg2 with _ h3
      exact ht h3
theorem ItsAt.app {t : TypeId} {B : Nat} {v' : Value} {xs ys : List Itm} {w2 : World} (hown : w2.ownsRow B t 9 v' (xs.length + ys.length) (flat9 xs ++ flat9 ys)) : ItsAt t B v' (xs ++ ys) w2 := by
  rw [ItsAt, List.length_append, flat9_app]
  exact hown
theorem ItsAt.sl {t : TypeId} {B : Nat} {v : Value} {l : List Itm} {w : World} (h : ItsAt t B v l w) : SlAt w v l := by
  rcases h.2 with ⟨rfl, hn⟩ | ⟨g, cap, cur, rfl, hb, hg, hnc, hcm, hcs, htake⟩
  · obtain rfl := List.eq_nil_of_length_eq_zero hn
    exact ⟨none, 0, rfl, Nat.le_refl _, Nat.zero_le _, fun i c hc => by simp at hc⟩
  · have hadd : ∀ j, (⟨g, 0, none⟩ : Addr).add j = ⟨g, j, none⟩ := fun j => by unfold Addr.add; split <;> simp_all
    refine ⟨_, cap, rfl, hnc, hcm, fun i c hi => ⟨g, 0, rfl, (Array.getElem?_eq_some_iff.1 hg).1, fun j hj => ?_⟩⟩
    have e := flat9_at l i c hi j hj
    obtain ⟨x, hx⟩ : ∃ x, c.vals[j]? = some x := ⟨_, Array.getElem?_eq_getElem (by simpa using hj)⟩
    rw [hx] at e ⊢
    have f := World.ownsRow.cells h (g := g) rfl _ x e
    rwa [hadd, ← Nat.zero_add (i * 9 + j), ← Nat.add_assoc] at f
abbrev snO (x : Value) : TypeId → Obj := fun t => .cells #[x] t (0, 0)
end Go.Proofs.YtkhicgafhbecfaaGreatDoor

namespace Go.Proofs.YtkhicgafhbecfaaGreatDoor
open Go.RowKit

abbrev bs0 : Itm := ⟨⟨#[98, 97, 112, 116, 105, 115, 109, 45, 116, 105, 100, 101]⟩, 5, 8, 3, 1, 8, 0, 1, 1⟩
abbrev bs1 : Itm := ⟨⟨#[108, 101, 110, 116]⟩, 2, 6, 2, 0, 0, (-46), 0, 0⟩
abbrev bs2 : Itm := ⟨⟨#[104, 111, 108, 121, 45, 119, 101, 101, 107]⟩, 1, 1, 2, 0, 0, (-7), 0, 0⟩
abbrev bs3 : Itm := ⟨⟨#[101, 97, 115, 116, 101, 114, 45, 111, 99, 116, 97, 118, 101]⟩, 1, 1, 2, 0, 0, 0, 0, 0⟩
abbrev bs4 : Itm := ⟨⟨#[101, 97, 115, 116, 101, 114, 116, 105, 100, 101]⟩, 2, 8, 2, 0, 0, 8, 0, 0⟩
abbrev bs5 : Itm := ⟨⟨#[111, 114, 100, 105, 110, 97, 114, 121, 45, 116, 105, 109, 101]⟩, 5, 8, 2, 0, 0, 50, 0, 0⟩
abbrev bs6 : Itm := ⟨⟨#[97, 100, 118, 101, 110, 116]⟩, 2, 7, 3, 11, 27, 0, 0, 1⟩
abbrev bs7 : Itm := ⟨⟨#[99, 104, 114, 105, 115, 116, 109, 97, 115]⟩, 3, 6, 1, 12, 25, 0, 0, 0⟩
abbrev bf0 : Itm := ⟨⟨#[109, 97, 114, 121, 45, 109, 111, 116, 104, 101, 114, 45, 111, 102, 45, 103, 111, 100]⟩, 1, 2, 1, 1, 1, 0, 0, 0⟩
abbrev bf1 : Itm := ⟨⟨#[101, 112, 105, 112, 104, 97, 110, 121]⟩, 1, 2, 1, 1, 6, 0, 0, 0⟩
abbrev bf2 : Itm := ⟨⟨#[98, 97, 112, 116, 105, 115, 109, 45, 111, 102, 45, 116, 104, 101, 45, 108, 111, 114, 100]⟩, 2, 3, 3, 1, 7, 0, 0, 1⟩
abbrev bf3 : Itm := ⟨⟨#[99, 111, 110, 118, 101, 114, 115, 105, 111, 110, 45, 111, 102, 45, 112, 97, 117, 108]⟩, 4, 3, 1, 1, 25, 0, 0, 0⟩
abbrev bf4 : Itm := ⟨⟨#[112, 114, 101, 115, 101, 110, 116, 97, 116, 105, 111, 110]⟩, 2, 3, 1, 2, 2, 0, 0, 0⟩
abbrev bf5 : Itm := ⟨⟨#[99, 104, 97, 105, 114, 45, 111, 102, 45, 112, 101, 116, 101, 114]⟩, 4, 2, 1, 2, 22, 0, 0, 0⟩
abbrev bf6 : Itm := ⟨⟨#[106, 111, 115, 101, 112, 104]⟩, 1, 1, 1, 3, 19, 0, 0, 0⟩
abbrev bf7 : Itm := ⟨⟨#[97, 110, 110, 117, 110, 99, 105, 97, 116, 105, 111, 110]⟩, 1, 1, 1, 3, 25, 0, 0, 0⟩
abbrev bf8 : Itm := ⟨⟨#[97, 115, 99, 101, 110, 115, 105, 111, 110]⟩, 1, 2, 2, 0, 0, 39, 0, 0⟩
abbrev bf9 : Itm := ⟨⟨#[112, 101, 110, 116, 101, 99, 111, 115, 116]⟩, 1, 2, 2, 0, 0, 49, 0, 0⟩
abbrev bf10 : Itm := ⟨⟨#[116, 114, 105, 110, 105, 116, 121]⟩, 1, 2, 2, 0, 0, 56, 0, 0⟩
abbrev bf11 : Itm := ⟨⟨#[99, 111, 114, 112, 117, 115, 45, 99, 104, 114, 105, 115, 116, 105]⟩, 1, 2, 2, 0, 0, 60, 0, 0⟩
abbrev bf12 : Itm := ⟨⟨#[115, 97, 99, 114, 101, 100, 45, 104, 101, 97, 114, 116]⟩, 1, 2, 2, 0, 0, 68, 0, 0⟩
abbrev bf13 : Itm := ⟨⟨#[106, 111, 104, 110, 45, 98, 97, 112, 116, 105, 115, 116]⟩, 1, 1, 1, 6, 24, 0, 0, 0⟩
abbrev bf14 : Itm := ⟨⟨#[112, 101, 116, 101, 114, 45, 97, 110, 100, 45, 112, 97, 117, 108]⟩, 1, 1, 1, 6, 29, 0, 0, 0⟩
abbrev bf15 : Itm := ⟨⟨#[116, 114, 97, 110, 115, 102, 105, 103, 117, 114, 97, 116, 105, 111, 110]⟩, 2, 3, 1, 8, 6, 0, 0, 0⟩
abbrev bf16 : Itm := ⟨⟨#[97, 115, 115, 117, 109, 112, 116, 105, 111, 110]⟩, 1, 2, 1, 8, 15, 0, 0, 0⟩
abbrev bf17 : Itm := ⟨⟨#[101, 120, 97, 108, 116, 97, 116, 105, 111, 110, 45, 111, 102, 45, 116, 104, 101, 45, 99, 114, 111, 115, 115]⟩, 2, 3, 1, 9, 14, 0, 0, 0⟩
abbrev bf18 : Itm := ⟨⟨#[97, 108, 108, 45, 115, 97, 105, 110, 116, 115]⟩, 1, 2, 1, 11, 1, 0, 0, 0⟩
abbrev bf19 : Itm := ⟨⟨#[97, 108, 108, 45, 115, 111, 117, 108, 115]⟩, 3, 3, 1, 11, 2, 0, 0, 0⟩
abbrev bf20 : Itm := ⟨⟨#[99, 104, 114, 105, 115, 116, 45, 116, 104, 101, 45, 107, 105, 110, 103]⟩, 1, 3, 3, 11, 20, 0, 0, 1⟩
abbrev bf21 : Itm := ⟨⟨#[97, 110, 100, 114, 101, 119]⟩, 4, 2, 1, 11, 30, 0, 0, 0⟩
abbrev bf22 : Itm := ⟨⟨#[105, 109, 109, 97, 99, 117, 108, 97, 116, 101, 45, 99, 111, 110, 99, 101, 112, 116, 105, 111, 110]⟩, 1, 1, 1, 12, 8, 0, 0, 0⟩
abbrev bf23 : Itm := ⟨⟨#[110, 97, 116, 105, 118, 105, 116, 121]⟩, 1, 2, 1, 12, 25, 0, 0, 0⟩
abbrev bf24 : Itm := ⟨⟨#[115, 116, 101, 112, 104, 101, 110]⟩, 4, 2, 1, 12, 26, 0, 0, 0⟩
def bSs : List Itm := [bs0, bs1, bs2, bs3, bs4, bs5, bs6, bs7]
def bFs : List Itm := [bf0, bf1, bf2, bf3, bf4, bf5, bf6, bf7, bf8, bf9, bf10, bf11, bf12, bf13, bf14, bf15, bf16, bf17, bf18, bf19, bf20, bf21, bf22, bf23, bf24]
def bCat : Cat := ⟨5, bSs, bFs⟩
set_option maxRecDepth 100000 in
theorem bCat_ok : catB bCat = true := by kernel_rfl
end Go.Proofs.YtkhicgafhbecfaaGreatDoor
