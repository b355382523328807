/- Sorting by swaps, plain: an order of places that keeps equals in their order; what Go's stable sort does to the places, step by step. No program in it. -/
import Derived.Test.YtomoaolomddidaaKa
namespace Go.Proofs.Ytomoaolomddidaa

/-- A strict weak order. -/
structure SW (lt : Nat → Nat → Bool) : Prop where
  asym : ∀ i j, lt i j = true → lt j i = false
  ntr : ∀ i j k, lt i j = false → lt j k = false → lt i k = false
/-- The order with equals by their numbers. -/
def Pr (lt : Nat → Nat → Bool) (i j : Nat) : Prop := lt i j = true ∨ (lt j i = false ∧ i < j)
section
variable {lt : Nat → Nat → Bool} {i j k : Nat}
theorem Pr.dn (h : lt i j = true) : Pr lt i j := .inl h
theorem Pr.up (h : i < j) (g : lt j i = false) : Pr lt i j := .inr ⟨g, h⟩
theorem Pr.irr (H : SW lt) : ¬ Pr lt i i := by
  rintro (h | ⟨_, h⟩)
  · have := H.asym i i h; rw [h] at this; cases this
  · omega
theorem Pr.trans (H : SW lt) (h : Pr lt i j) (g : Pr lt j k) : Pr lt i k := by
  rcases h with h | ⟨h, h2⟩
  · refine .inl ?_
    cases e : lt i k with
    | true => rfl
    | false =>
      have q : lt k j = false := by
        rcases g with g | ⟨g, _⟩
        · exact H.asym _ _ g
        · exact g
      have := H.ntr i k j e q
      rw [h] at this; cases this
  · rcases g with g | ⟨g, g2⟩
    · refine .inl ?_
      cases e : lt i k with
      | true => rfl
      | false =>
        have := H.ntr j i k h e
        rw [g] at this; cases this
    · exact .inr ⟨H.ntr k j i g h, by omega⟩
theorem Pr.total (h : i ≠ j) : Pr lt i j ∨ Pr lt j i := by
  rcases Nat.lt_or_gt_of_ne h with h | h
  · cases e : lt j i
    · exact .inl (.inr ⟨e, h⟩)
    · exact .inr (.inl e)
  · cases e : lt i j
    · exact .inr (.inr ⟨e, h⟩)
    · exact .inl (.inl e)
end
/-- The places of n things: each once. -/
structure Gd (n : Nat) (s : Nat → Nat) : Prop where
  lt : ∀ i, i < n → s i < n
  inj : ∀ i j, i < n → j < n → s i = s j → i = j
  sur : ∀ y, y < n → ∃ i, i < n ∧ s i = y
def swp (s : Nat → Nat) (i j : Nat) : Nat → Nat := fun k => if k = i then s j else if k = j then s i else s k
section
variable {n i j k : Nat} {s : Nat → Nat}
theorem swp_l : swp s i j i = s j := by unfold swp; rw [if_pos rfl]
theorem swp_r : swp s i j j = s i := by unfold swp; split
                                        · rename_i h; rw [h]
                                        · rw [if_pos rfl]
theorem swp_o (h : k ≠ i) (g : k ≠ j) : swp s i j k = s k := by unfold swp; rw [if_neg h, if_neg g]
theorem Gd.id (n : Nat) : Gd n (fun i => i) := ⟨fun _ h => h, fun _ _ _ _ h => h, fun y h => ⟨y, h, rfl⟩⟩
theorem Gd.swp (h : Gd n s) (hi : i < n) (hj : j < n) : Gd n (swp s i j) := by
  have key : ∀ k, k < n → ∃ k', k' < n ∧ Go.Proofs.Ytomoaolomddidaa.swp s i j k = s k' ∧ (k' = if k = i then j else if k = j then i else k) := by
    intro k hk
    unfold Go.Proofs.Ytomoaolomddidaa.swp
    split
    · exact ⟨j, hj, rfl, rfl⟩
    · split
      · exact ⟨i, hi, rfl, rfl⟩
      · exact ⟨k, hk, rfl, rfl⟩
  refine ⟨fun k hk => ?_, fun a b ha hb e => ?_, fun y hy => ?_⟩
  · obtain ⟨k', h1, h2, _⟩ := key k hk
    rw [h2]; exact h.lt k' h1
  · obtain ⟨a', a1, a2, a3⟩ := key a ha
    obtain ⟨b', b1, b2, b3⟩ := key b hb
    have := h.inj a' b' a1 b1 (by rw [← a2, ← b2]; exact e)
    rw [a3, b3] at this
    revert this
    split <;> split <;> (try split) <;> (try split) <;> omega
  · obtain ⟨k, k1, k2⟩ := h.sur y hy
    by_cases e1 : k = i
    · exact ⟨j, hj, by rw [swp_r]; rw [← e1]; exact k2⟩
    · by_cases e2 : k = j
      · exact ⟨i, hi, by rw [swp_l]; rw [← e2]; exact k2⟩
      · exact ⟨k, k1, by rw [swp_o e1 e2]; exact k2⟩
end
/-- Sorted from a to b. -/
def Srt (lt : Nat → Nat → Bool) (s : Nat → Nat) (a b : Nat) : Prop := ∀ i j, a ≤ i → i < j → j < b → Pr lt (s i) (s j)
/-- From a to b the same things as before; elsewhere nothing turned. -/
structure Sb (s s' : Nat → Nat) (a b : Nat) : Prop where
  i : ∀ k, a ≤ k → k < b → ∃ k', a ≤ k' ∧ k' < b ∧ s' k = s k'
  o : ∀ k, ¬ (a ≤ k ∧ k < b) → s' k = s k
/-- What stands from a to m came before what stands from m to b. -/
def Low (s : Nat → Nat) (a m b : Nat) : Prop := ∀ i j, a ≤ i → i < m → m ≤ j → j < b → s i < s j
theorem Sb.refl (s : Nat → Nat) (a b : Nat) : Sb s s a b := ⟨fun k h g => ⟨k, h, g, rfl⟩, fun _ _ => rfl⟩
theorem Sb.trans {s s' s'' : Nat → Nat} {a b : Nat} (h : Sb s s' a b) (g : Sb s' s'' a b) : Sb s s'' a b := by
  refine ⟨fun k h1 h2 => ?_, fun k hk => (g.o k hk).trans (h.o k hk)⟩
  obtain ⟨k', a1, a2, a3⟩ := g.i k h1 h2
  obtain ⟨k'', b1, b2, b3⟩ := h.i k' a1 a2
  exact ⟨k'', b1, b2, a3.trans b3⟩
theorem Sb.mono {s s' : Nat → Nat} {a b a' b' : Nat} (h : Sb s s' a b) (ha : a' ≤ a) (hb : b ≤ b') : Sb s s' a' b' := by
  refine ⟨fun k h1 h2 => ?_, fun k hk => h.o k (by omega)⟩
  by_cases g : a ≤ k ∧ k < b
  · obtain ⟨k', a1, a2, a3⟩ := h.i k g.1 g.2
    exact ⟨k', by omega, by omega, a3⟩
  · exact ⟨k, h1, h2, h.o k g⟩
theorem Sb.swp {s : Nat → Nat} {a b i j : Nat} (hi : a ≤ i ∧ i < b) (hj : a ≤ j ∧ j < b) : Sb s (swp s i j) a b := by
  refine ⟨fun k h1 h2 => ?_, fun k hk => swp_o (by omega) (by omega)⟩
  by_cases e1 : k = i
  · exact ⟨j, hj.1, hj.2, by rw [e1, swp_l]⟩
  · by_cases e2 : k = j
    · exact ⟨i, hi.1, hi.2, by rw [e2, swp_r]⟩
    · exact ⟨k, h1, h2, swp_o e1 e2⟩

/-! ### insertion: the thing at j goes down among those from a to i -/
structure InS (lt : Nat → Nat → Bool) (n : Nat) (s0 s : Nat → Nat) (a b i j : Nat) : Prop where
  g : Gd n s
  sb : Sb s0 s a b
  aj : a ≤ j
  ji : j ≤ i
  srt : ∀ p q, a ≤ p → p < q → q ≤ i → p ≠ j → q ≠ j → Pr lt (s p) (s q)
  low : ∀ q, j < q → q ≤ i → Pr lt (s j) (s q)
  big : ∀ p, a ≤ p → p ≤ i → p ≠ j → s p < s j
  tl : ∀ k k', a ≤ k → k ≤ i → i < k' → k' < b → s k < s k'
  inc : ∀ k k', i < k → k < k' → k' < b → s k < s k'
/-- ahead of a round -/
structure InO (lt : Nat → Nat → Bool) (n : Nat) (s0 s : Nat → Nat) (a b i : Nat) : Prop where
  g : Gd n s
  sb : Sb s0 s a b
  srt : Srt lt s a i
  tl : ∀ k k', a ≤ k → k < i → i ≤ k' → k' < b → s k < s k'
  inc : ∀ k k', i ≤ k → k < k' → k' < b → s k < s k'
section
variable {lt : Nat → Nat → Bool} {n a b i j : Nat} {s0 s : Nat → Nat}
theorem InO.start (h : Gd n s) (hi : ∀ k k', a ≤ k → k < k' → k' < b → s k < s k') : InO lt n s s a b (a + 1) :=
  ⟨h, Sb.refl _ _ _, fun p q h1 h2 h3 => by omega, fun k k' h1 h2 h3 h4 => hi k k' h1 (by omega) h4, fun k k' h1 h2 h3 => hi k k' (by omega) h2 h3⟩
theorem InO.in (h : InO lt n s0 s a b i) (hi : a ≤ i) (hb : i < b) : InS lt n s0 s a b i i :=
  ⟨h.g, h.sb, hi, Nat.le_refl _, fun p q h1 h2 h3 _ h5 => h.srt p q h1 h2 (by omega), fun q h1 h2 => by omega, fun p h1 h2 h3 => h.tl p i h1 (by omega) (Nat.le_refl _) hb,
    fun k k' h1 h2 h3 h4 => by
      by_cases e : k = i
      · subst e; exact h.inc k k' (Nat.le_refl _) h3 h4
      · exact h.tl k k' h1 (by omega) (by omega) h4, fun k k' h1 h2 h3 => h.inc k k' (by omega) h2 h3⟩
theorem InS.step (h : InS lt n s0 s a b i j) (hj : a < j) (hn : i < n) (hb : i < b) (hl : lt (s j) (s (j - 1)) = true) : InS lt n s0 (swp s j (j - 1)) a b i (j - 1) := by
  have hji := h.ji
  have o : ∀ k, k ≠ j → k ≠ j - 1 → swp s j (j - 1) k = s k := fun k h1 h2 => swp_o h1 h2
  have l : swp s j (j - 1) j = s (j - 1) := swp_l
  have r : swp s j (j - 1) (j - 1) = s j := swp_r
  refine ⟨h.g.swp (by omega) (by omega), h.sb.trans (Sb.swp ⟨by omega, by omega⟩ ⟨by omega, by omega⟩), by omega, by omega, fun p q h1 h2 h3 h4 h5 => ?_, fun q h1 h2 => ?_, fun p h1 h2 h3 => ?_, fun k k' h1 h2 h3 h4 => ?_, fun k k' h1 h2 h3 => ?_⟩
  · by_cases e1 : p = j
    · rw [e1, l, o q (by omega) h5]; exact h.srt (j - 1) q (by omega) (by omega) h3 (by omega) (by omega)
    · rw [o p e1 h4]
      by_cases e2 : q = j
      · rw [e2, l]; exact h.srt p (j - 1) h1 (by omega) (by omega) e1 (by omega)
      · rw [o q e2 h5]; exact h.srt p q h1 h2 h3 e1 e2
  · rw [r]
    by_cases e : q = j
    · rw [e, l]; exact .dn hl
    · rw [o q e (by omega)]; exact h.low q (by omega) h2
  · rw [r]
    by_cases e : p = j
    · rw [e, l]; exact h.big (j - 1) (by omega) (by omega) (by omega)
    · rw [o p e h3]; exact h.big p h1 h2 e
  · rw [o k' (by omega) (by omega)]
    by_cases e1 : k = j
    · rw [e1, l]; exact h.tl (j - 1) k' (by omega) (by omega) h3 h4
    · by_cases e2 : k = j - 1
      · rw [e2, r]; exact h.tl j k' (by omega) (by omega) h3 h4
      · rw [o k e1 e2]; exact h.tl k k' h1 h2 h3 h4
  · rw [o k (by omega) (by omega), o k' (by omega) (by omega)]; exact h.inc k k' h1 h2 h3
theorem InS.out (H : SW lt) (h : InS lt n s0 s a b i j) (hl : j = a ∨ lt (s j) (s (j - 1)) = false) : InO lt n s0 s a b (i + 1) := by
  have hji := h.ji
  have haj := h.aj
  refine ⟨h.g, h.sb, fun p q h1 h2 h3 => ?_, fun k k' h1 h2 h3 h4 => h.tl k k' h1 (by omega) (by omega) h4, fun k k' h1 h2 h3 => h.inc k k' (by omega) h2 h3⟩
  by_cases e1 : p = j
  · rw [e1]; exact h.low q (by omega) (by omega)
  · by_cases e2 : q = j
    · subst e2
      rcases hl with hl | hl
      · omega
      · have up : Pr lt (s (q - 1)) (s q) := .up (h.big (q - 1) (by omega) (by omega) (by omega)) hl
        by_cases e3 : p = q - 1
        · rw [e3]; exact up
        · exact (h.srt p (q - 1) h1 (by omega) (by omega) e1 (by omega)).trans H up
    · exact h.srt p q h1 h2 (by omega) e1 e2
end
end Go.Proofs.Ytomoaolomddidaa
