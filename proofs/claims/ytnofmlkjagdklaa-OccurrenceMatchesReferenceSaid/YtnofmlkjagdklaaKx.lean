/- What earlier stages proved: Ba Bb Bc Bd Be. -/
import Derived.Test.YtnofmlkjagdklaaKa
namespace Go.Proofs.Ytnofmlkjagdklaa

/-- A strict weak order. -/
structure SW (lt : Nat → Nat → Bool) : Prop where
  asym : ∀ i j, lt i j = true → lt j i = false
  ntr : ∀ i j k, lt i j = false → lt j k = false → lt i k = false
/-- The order with equals by their numbers. -/
def Pr (lt : Nat → Nat → Bool) (i j : Nat) : Prop := lt i j = true ∨ (lt j i = false ∧ i < j)
section
variable {lt : Nat → Nat → Bool} {i j k : Nat}
theorem Pr.dn (h : lt i j = true) : Pr lt i j := .inl h
theorem Pr.up (h : i < j) (g : lt j i = false) : Pr lt i j := .inr ⟨g, h⟩
theorem Pr.irr (H : SW lt) : ¬ Pr lt i i := by
  rintro (h | ⟨_, h⟩)
  · have := H.asym i i h; rw [h] at this; cases this
  · omega
theorem Pr.trans (H : SW lt) (h : Pr lt i j) (g : Pr lt j k) : Pr lt i k := by
  rcases h with h | ⟨h, h2⟩
  · refine .inl ?_
    cases e : lt i k with
    | true => rfl
    | false =>
      have q : lt k j = false := by
        rcases g with g | ⟨g, _⟩
        · exact H.asym _ _ g
        · exact g
      have := H.ntr i k j e q
      rw [h] at this; cases this
  · rcases g with g | ⟨g, g2⟩
    · refine .inl ?_
      cases e : lt i k with
      | true => rfl
      | false =>
        have := H.ntr j i k h e
        rw [g] at this; cases this
    · exact .inr ⟨H.ntr k j i g h, by omega⟩
end
/-- The places of n things: each once. -/
structure Gd (n : Nat) (s : Nat → Nat) : Prop where
  lt : ∀ i, i < n → s i < n
  inj : ∀ i j, i < n → j < n → s i = s j → i = j
  sur : ∀ y, y < n → ∃ i, i < n ∧ s i = y
def swp (s : Nat → Nat) (i j : Nat) : Nat → Nat := fun k => if k = i then s j else if k = j then s i else s k
section
variable {n i j k : Nat} {s : Nat → Nat}
theorem swp_l : swp s i j i = s j := by unfold swp; rw [if_pos rfl]
theorem swp_r : swp s i j j = s i := by unfold swp; split
                                        · rename_i h; rw [h]
                                        · rw [if_pos rfl]
theorem swp_o (h : k ≠ i) (g : k ≠ j) : swp s i j k = s k := by unfold swp; rw [if_neg h, if_neg g]
theorem Gd.id (n : Nat) : Gd n (fun i => i) := ⟨fun _ h => h, fun _ _ _ _ h => h, fun y h => ⟨y, h, rfl⟩⟩
theorem Gd.swp (h : Gd n s) (hi : i < n) (hj : j < n) : Gd n (swp s i j) := by
  have key : ∀ k, k < n → ∃ k', k' < n ∧ Go.Proofs.Ytnofmlkjagdklaa.swp s i j k = s k' ∧ (k' = if k = i then j else if k = j then i else k) := by
    intro k hk
    unfold Go.Proofs.Ytnofmlkjagdklaa.swp
    split
    · exact ⟨j, hj, rfl, rfl⟩
    · split
      · exact ⟨i, hi, rfl, rfl⟩
      · exact ⟨k, hk, rfl, rfl⟩
  refine ⟨fun k hk => ?_, fun a b ha hb e => ?_, fun y hy => ?_⟩
  · obtain ⟨k', h1, h2, _⟩ := key k hk
    rw [h2]; exact h.lt k' h1
  · obtain ⟨a', a1, a2, a3⟩ := key a ha
    obtain ⟨b', b1, b2, b3⟩ := key b hb
    have := h.inj a' b' a1 b1 (by rw [← a2, ← b2]; exact e)
    rw [a3, b3] at this
    revert this
    split <;> split <;> (try split) <;> (try split) <;> omega
  · obtain ⟨k, k1, k2⟩ := h.sur y hy
    by_cases e1 : k = i
    · exact ⟨j, hj, by rw [swp_r]; rw [← e1]; exact k2⟩
    · by_cases e2 : k = j
      · exact ⟨i, hi, by rw [swp_l]; rw [← e2]; exact k2⟩
      · exact ⟨k, k1, by rw [swp_o e1 e2]; exact k2⟩
end
/-- Sorted from a to b. -/
def Srt (lt : Nat → Nat → Bool) (s : Nat → Nat) (a b : Nat) : Prop := ∀ i j, a ≤ i → i < j → j < b → Pr lt (s i) (s j)
/-- From a to b the same things as before; elsewhere nothing turned. -/
structure Sb (s s' : Nat → Nat) (a b : Nat) : Prop where
  i : ∀ k, a ≤ k → k < b → ∃ k', a ≤ k' ∧ k' < b ∧ s' k = s k'
  o : ∀ k, ¬ (a ≤ k ∧ k < b) → s' k = s k
/-- What stands from a to m came before what stands from m to b. -/
def Low (s : Nat → Nat) (a m b : Nat) : Prop := ∀ i j, a ≤ i → i < m → m ≤ j → j < b → s i < s j
theorem Sb.refl (s : Nat → Nat) (a b : Nat) : Sb s s a b := ⟨fun k h g => ⟨k, h, g, rfl⟩, fun _ _ => rfl⟩
theorem Sb.trans {s s' s'' : Nat → Nat} {a b : Nat} (h : Sb s s' a b) (g : Sb s' s'' a b) : Sb s s'' a b := by
  refine ⟨fun k h1 h2 => ?_, fun k hk => (g.o k hk).trans (h.o k hk)⟩
  obtain ⟨k', a1, a2, a3⟩ := g.i k h1 h2
  obtain ⟨k'', b1, b2, b3⟩ := h.i k' a1 a2
  exact ⟨k'', b1, b2, a3.trans b3⟩
theorem Sb.mono {s s' : Nat → Nat} {a b a' b' : Nat} (h : Sb s s' a b) (ha : a' ≤ a) (hb : b ≤ b') : Sb s s' a' b' := by
  refine ⟨fun k h1 h2 => ?_, fun k hk => h.o k (by omega)⟩
  by_cases g : a ≤ k ∧ k < b
  · obtain ⟨k', a1, a2, a3⟩ := h.i k g.1 g.2
    exact ⟨k', by omega, by omega, a3⟩
  · exact ⟨k, h1, h2, h.o k g⟩
theorem Sb.swp {s : Nat → Nat} {a b i j : Nat} (hi : a ≤ i ∧ i < b) (hj : a ≤ j ∧ j < b) : Sb s (swp s i j) a b := by
  refine ⟨fun k h1 h2 => ?_, fun k hk => swp_o (by omega) (by omega)⟩
  by_cases e1 : k = i
  · exact ⟨j, hj.1, hj.2, by rw [e1, swp_l]⟩
  · by_cases e2 : k = j
    · exact ⟨i, hi.1, hi.2, by rw [e2, swp_r]⟩
    · exact ⟨k, h1, h2, swp_o e1 e2⟩

structure InS (lt : Nat → Nat → Bool) (n : Nat) (s0 s : Nat → Nat) (a b i j : Nat) : Prop where
  g : Gd n s
  sb : Sb s0 s a b
  aj : a ≤ j
  ji : j ≤ i
  srt : ∀ p q, a ≤ p → p < q → q ≤ i → p ≠ j → q ≠ j → Pr lt (s p) (s q)
  low : ∀ q, j < q → q ≤ i → Pr lt (s j) (s q)
  big : ∀ p, a ≤ p → p ≤ i → p ≠ j → s p < s j
  tl : ∀ k k', a ≤ k → k ≤ i → i < k' → k' < b → s k < s k'
  inc : ∀ k k', i < k → k < k' → k' < b → s k < s k'
/-- ahead of a round -/
structure InO (lt : Nat → Nat → Bool) (n : Nat) (s0 s : Nat → Nat) (a b i : Nat) : Prop where
  g : Gd n s
  sb : Sb s0 s a b
  srt : Srt lt s a i
  tl : ∀ k k', a ≤ k → k < i → i ≤ k' → k' < b → s k < s k'
  inc : ∀ k k', i ≤ k → k < k' → k' < b → s k < s k'
section
variable {lt : Nat → Nat → Bool} {n a b i j : Nat} {s0 s : Nat → Nat}
theorem InO.start (h : Gd n s) (hi : ∀ k k', a ≤ k → k < k' → k' < b → s k < s k') : InO lt n s s a b (a + 1) :=
  ⟨h, Sb.refl _ _ _, fun p q h1 h2 h3 => by omega, fun k k' h1 h2 h3 h4 => hi k k' h1 (by omega) h4, fun k k' h1 h2 h3 => hi k k' (by omega) h2 h3⟩
theorem InO.in (h : InO lt n s0 s a b i) (hi : a ≤ i) (hb : i < b) : InS lt n s0 s a b i i :=
  ⟨h.g, h.sb, hi, Nat.le_refl _, fun p q h1 h2 h3 _ h5 => h.srt p q h1 h2 (by omega), fun q h1 h2 => by omega, fun p h1 h2 h3 => h.tl p i h1 (by omega) (Nat.le_refl _) hb,
    fun k k' h1 h2 h3 h4 => by
      by_cases e : k = i
      · subst e; exact h.inc k k' (Nat.le_refl _) h3 h4
      · exact h.tl k k' h1 (by omega) (by omega) h4, fun k k' h1 h2 h3 => h.inc k k' (by omega) h2 h3⟩
theorem InS.step (h : InS lt n s0 s a b i j) (hj : a < j) (hn : i < n) (hb : i < b) (hl : lt (s j) (s (j - 1)) = true) : InS lt n s0 (swp s j (j - 1)) a b i (j - 1) := by
  have hji := h.ji
  have o : ∀ k, k ≠ j → k ≠ j - 1 → swp s j (j - 1) k = s k := fun k h1 h2 => swp_o h1 h2
  have l : swp s j (j - 1) j = s (j - 1) := swp_l
  have r : swp s j (j - 1) (j - 1) = s j := swp_r
  refine ⟨h.g.swp (by omega) (by omega), h.sb.trans (Sb.swp ⟨by omega, by omega⟩ ⟨by omega, by omega⟩), by omega, by omega, fun p q h1 h2 h3 h4 h5 => ?_, fun q h1 h2 => ?_, fun p h1 h2 h3 => ?_, fun k k' h1 h2 h3 h4 => ?_, fun k k' h1 h2 h3 => ?_⟩
  · by_cases e1 : p = j
    · rw [e1, l, o q (by omega) h5]; exact h.srt (j - 1) q (by omega) (by omega) h3 (by omega) (by omega)
    · rw [o p e1 h4]
      by_cases e2 : q = j
      · rw [e2, l]; exact h.srt p (j - 1) h1 (by omega) (by omega) e1 (by omega)
      · rw [o q e2 h5]; exact h.srt p q h1 h2 h3 e1 e2
  · rw [r]
    by_cases e : q = j
    · rw [e, l]; exact .dn hl
    · rw [o q e (by omega)]; exact h.low q (by omega) h2
  · rw [r]
    by_cases e : p = j
    · rw [e, l]; exact h.big (j - 1) (by omega) (by omega) (by omega)
    · rw [o p e h3]; exact h.big p h1 h2 e
  · rw [o k' (by omega) (by omega)]
    by_cases e1 : k = j
    · rw [e1, l]; exact h.tl (j - 1) k' (by omega) (by omega) h3 h4
    · by_cases e2 : k = j - 1
      · rw [e2, r]; exact h.tl j k' (by omega) (by omega) h3 h4
      · rw [o k e1 e2]; exact h.tl k k' h1 h2 h3 h4
  · rw [o k (by omega) (by omega), o k' (by omega) (by omega)]; exact h.inc k k' h1 h2 h3
theorem InS.out (H : SW lt) (h : InS lt n s0 s a b i j) (hl : j = a ∨ lt (s j) (s (j - 1)) = false) : InO lt n s0 s a b (i + 1) := by
  have hji := h.ji
  have haj := h.aj
  refine ⟨h.g, h.sb, fun p q h1 h2 h3 => ?_, fun k k' h1 h2 h3 h4 => h.tl k k' h1 (by omega) (by omega) h4, fun k k' h1 h2 h3 => h.inc k k' (by omega) h2 h3⟩
  by_cases e1 : p = j
  · rw [e1]; exact h.low q (by omega) (by omega)
  · by_cases e2 : q = j
    · subst e2
      rcases hl with hl | hl
      · omega
      · have up : Pr lt (s (q - 1)) (s q) := .up (h.big (q - 1) (by omega) (by omega) (by omega)) hl
        by_cases e3 : p = q - 1
        · rw [e3]; exact up
        · exact (h.srt p (q - 1) h1 (by omega) (by omega) e1 (by omega)).trans H up
    · exact h.srt p q h1 h2 (by omega) e1 e2
end
end Go.Proofs.Ytnofmlkjagdklaa

namespace Go.Proofs.Ytnofmlkjagdklaa

def swr (s : Nat → Nat) (a b c : Nat) : Nat → Nat := fun k => if a ≤ k ∧ k < a + c then s (b + (k - a)) else if b ≤ k ∧ k < b + c then s (a + (k - b)) else s k
def rot (s : Nat → Nat) (a m b : Nat) : Nat → Nat := fun k => if a ≤ k ∧ k < a + (b - m) then s (m + (k - a)) else if a + (b - m) ≤ k ∧ k < b then s (k - (b - m)) else s k
/-- What stands at a goes up to t. -/
def mvu (s : Nat → Nat) (a t : Nat) : Nat → Nat := fun k => if a ≤ k ∧ k < t then s (k + 1) else if k = t then s a else s k
/-- What stands at m goes down to t. -/
def mvd (s : Nat → Nat) (m t : Nat) : Nat → Nat := fun k => if k = t then s m else if t < k ∧ k ≤ m then s (k - 1) else s k
section
variable (s : Nat → Nat) {a b c m t i j : Nat}
theorem swr_zero : swr s a b 0 = s := by funext k; unfold swr; rw [if_neg (by omega), if_neg (by omega)]
theorem swr_step (h : a + (t + 1) ≤ b) : swp (swr s a b t) (a + t) (b + t) = swr s a b (t + 1) := by
  funext k; unfold swp swr
  (repeat' split) <;> first | (exfalso; omega) | exact congrArg s (by omega) | rfl
theorem rot_done : rot s m m b = s := by
  funext k; unfold rot
  (repeat' split) <;> first | (exfalso; omega) | exact congrArg s (by omega) | rfl
theorem rot_none : rot s a m m = s := by
  funext k; unfold rot
  (repeat' split) <;> first | (exfalso; omega) | exact congrArg s (by omega) | rfl
theorem rot_gt (h : j < i) (hi : i ≤ m) : rot (swr s (m - i) m j) (m - (i - j)) m (m + j) = rot s (m - i) m (m + j) := by
  funext k; unfold rot swr
  (repeat' split) <;> first | (exfalso; omega) | exact congrArg s (by omega) | rfl
theorem rot_lt (h : i < j) (hi : i ≤ m) : rot (swr s (m - i) (m + j - i) i) (m - i) m (m + (j - i)) = rot s (m - i) m (m + j) := by
  funext k; unfold rot swr
  (repeat' split) <;> first | (exfalso; omega) | exact congrArg s (by omega) | rfl
theorem rot_eq (hi : i ≤ m) : swr s (m - i) m i = rot s (m - i) m (m + i) := by
  funext k; unfold rot swr
  (repeat' split) <;> first | (exfalso; omega) | exact congrArg s (by omega) | rfl
theorem mvu_start : mvu s a a = s := by
  funext k; unfold mvu
  (repeat' split) <;> first | (exfalso; omega) | exact congrArg s (by omega) | rfl
theorem mvu_step (h : a ≤ t) : swp (mvu s a t) t (t + 1) = mvu s a (t + 1) := by
  funext k; unfold swp mvu
  (repeat' split) <;> first | (exfalso; omega) | exact congrArg s (by omega) | rfl
theorem mvd_start : mvd s m m = s := by
  funext k; unfold mvd
  (repeat' split) <;> first | (exfalso; omega) | exact congrArg s (by omega) | rfl
theorem mvd_step (h : 0 < t) (g : t ≤ m) : swp (mvd s m t) t (t - 1) = mvd s m (t - 1) := by
  funext k; unfold swp mvd
  (repeat' split) <;> first | (exfalso; omega) | exact congrArg s (by omega) | rfl
theorem rot_sb (h1 : a ≤ m) (h2 : m ≤ b) : Sb s (rot s a m b) a b := by
  refine ⟨fun k g1 g2 => ?_, fun k hk => ?_⟩
  · unfold rot
    split
    · exact ⟨m + (k - a), by omega, by omega, rfl⟩
    · rw [if_pos (by omega)]; exact ⟨k - (b - m), by omega, by omega, rfl⟩
  · unfold rot; rw [if_neg (by omega), if_neg (by omega)]
theorem mvu_sb (h1 : a ≤ t) (h2 : t < b) : Sb s (mvu s a t) a b := by
  refine ⟨fun k g1 g2 => ?_, fun k hk => ?_⟩
  · unfold mvu
    split
    · exact ⟨k + 1, by omega, by omega, rfl⟩
    · split
      · exact ⟨a, by omega, by omega, rfl⟩
      · exact ⟨k, g1, g2, rfl⟩
  · unfold mvu; rw [if_neg (by omega), if_neg (by omega)]
theorem mvd_sb (h0 : a ≤ t) (h1 : t ≤ m) (h2 : m < b) : Sb s (mvd s m t) a b := by
  refine ⟨fun k g1 g2 => ?_, fun k hk => ?_⟩
  · unfold mvd
    split
    · exact ⟨m, by omega, h2, rfl⟩
    · split
      · exact ⟨k - 1, by omega, by omega, rfl⟩
      · exact ⟨k, g1, g2, rfl⟩
  · unfold mvd; rw [if_neg (by omega), if_neg (by omega)]
end
section
variable {lt : Nat → Nat → Bool} {s : Nat → Nat} {a b c e m t i mid n : Nat}
theorem Srt.to (h : Srt lt s a b) {p q : Nat} (h1 : a ≤ p) (h2 : p ≤ q) (h3 : q < b) : p = q ∨ Pr lt (s p) (s q) := by
  by_cases g : p = q
  · exact .inl g
  · exact .inr (h p q h1 (by omega) h3)
theorem Srt.chain (H : SW lt) {a' b' : Nat} (h : Srt lt s a b) (h' : Srt lt s a' b') {p q p' q' : Nat} (h1 : a ≤ p) (h2 : p ≤ q) (h3 : q < b) (g1 : a' ≤ p') (g2 : p' ≤ q') (g3 : q' < b') (r : Pr lt (s q) (s p')) : Pr lt (s p) (s q') := by
  have x : Pr lt (s p) (s p') := by
    rcases h.to h1 h2 h3 with e | e
    · rw [e]; exact r
    · exact e.trans H r
  rcases h'.to g1 g2 g3 with e | e
  · rw [← e]; exact x
  · exact x.trans H e
theorem mvu_srt (H : SW lt) (h : Srt lt s (a + 1) b) (h1 : a + 1 ≤ i) (h2 : i ≤ b) (A : i = a + 1 ∨ Pr lt (s (i - 1)) (s a)) (B : i = b ∨ Pr lt (s a) (s i)) : Srt lt (mvu s a (i - 1)) a b := by
  intro p q g1 g2 g3
  have E1 : ∀ k, a ≤ k → k < i - 1 → mvu s a (i - 1) k = s (k + 1) := fun k x y => by unfold mvu; rw [if_pos ⟨x, y⟩]
  have E2 : mvu s a (i - 1) (i - 1) = s a := by unfold mvu; rw [if_neg (by omega), if_pos rfl]
  have E3 : ∀ k, i ≤ k → mvu s a (i - 1) k = s k := fun k x => by unfold mvu; rw [if_neg (by omega), if_neg (by omega)]
  rcases Nat.lt_trichotomy p (i - 1) with hp | hp | hp
  · rw [E1 p g1 hp]
    rcases Nat.lt_trichotomy q (i - 1) with hq | hq | hq
    · rw [E1 q (by omega) hq]; exact h _ _ (by omega) (by omega) (by omega)
    · rw [hq, E2]
      rcases A with A | A
      · omega
      · rcases h.to (p := p + 1) (q := i - 1) (by omega) (by omega) (by omega) with e | e
        · rw [e]; exact A
        · exact e.trans H A
    · rw [E3 q (by omega)]; exact h _ _ (by omega) (by omega) g3
  · rw [hp, E2, E3 q (by omega)]
    rcases B with B | B
    · omega
    · rcases h.to (p := i) (q := q) (by omega) (by omega) g3 with e | e
      · rw [← e]; exact B
      · exact B.trans H e
  · rw [E3 p (by omega), E3 q (by omega)]; exact h _ _ (by omega) g2 g3
theorem mvd_srt (H : SW lt) (h : Srt lt s a m) (h1 : a ≤ i) (h2 : i ≤ m) (A : i = a ∨ Pr lt (s (i - 1)) (s m)) (B : i = m ∨ Pr lt (s m) (s i)) : Srt lt (mvd s m i) a (m + 1) := by
  intro p q g1 g2 g3
  have E1 : ∀ k, k < i → mvd s m i k = s k := fun k x => by unfold mvd; rw [if_neg (by omega), if_neg (by omega)]
  have E2 : mvd s m i i = s m := by unfold mvd; rw [if_pos rfl]
  have E3 : ∀ k, i < k → k ≤ m → mvd s m i k = s (k - 1) := fun k x y => by unfold mvd; rw [if_neg (by omega), if_pos ⟨x, y⟩]
  rcases Nat.lt_trichotomy p i with hp | hp | hp
  · rw [E1 p hp]
    rcases Nat.lt_trichotomy q i with hq | hq | hq
    · rw [E1 q hq]; exact h _ _ g1 g2 (by omega)
    · rw [hq, E2]
      rcases A with A | A
      · omega
      · rcases h.to (p := p) (q := i - 1) g1 (by omega) (by omega) with e | e
        · rw [e]; exact A
        · exact e.trans H A
    · rw [E3 q hq (by omega)]; exact h _ _ g1 (by omega) (by omega)
  · rw [hp, E2, E3 q (by omega) (by omega)]
    rcases B with B | B
    · omega
    · rcases h.to (p := i) (q := q - 1) (by omega) (by omega) (by omega) with e | e
      · rw [← e]; exact B
      · exact B.trans H e
  · rw [E3 p hp (by omega), E3 q (by omega) (by omega)]; exact h _ _ (by omega) (by omega) (by omega)
structure Cut (a c m e b mid : Nat) : Prop where
  ac : a ≤ c
  cm : c ≤ m
  me : m ≤ e
  eb : e ≤ b
  hm : mid + m = c + e
theorem rot_l (K : Cut a c m e b mid) {k : Nat} (h : k < c) : rot s c m e k = s k := by have k1 := K.ac; have k2 := K.cm; have k3 := K.me; have k4 := K.eb; have k5 := K.hm; unfold rot; rw [if_neg (by omega), if_neg (by omega)]
theorem rot_b (K : Cut a c m e b mid) {k : Nat} (h : c ≤ k) (g : k < mid) : rot s c m e k = s (m + (k - c)) := by have k1 := K.ac; have k2 := K.cm; have k3 := K.me; have k4 := K.eb; have k5 := K.hm; unfold rot; rw [if_pos (by omega)]
theorem rot_c (K : Cut a c m e b mid) {k : Nat} (h : mid ≤ k) (g : k < e) : rot s c m e k = s (k - (e - m)) := by have k1 := K.ac; have k2 := K.cm; have k3 := K.me; have k4 := K.eb; have k5 := K.hm; unfold rot; rw [if_neg (by omega), if_pos (by omega)]
theorem rot_r (K : Cut a c m e b mid) {k : Nat} (h : e ≤ k) : rot s c m e k = s k := by have k1 := K.ac; have k2 := K.cm; have k3 := K.me; have k4 := K.eb; have k5 := K.hm; unfold rot; rw [if_neg (by omega), if_neg (by omega)]
theorem rot_cross (K : Cut a c m e b mid) (H : SW lt) (L : Srt lt s a m) (R : Srt lt s m b) (A : c = a ∨ e = b ∨ Pr lt (s (c - 1)) (s e)) (B : e = m ∨ c = m ∨ Pr lt (s (e - 1)) (s c)) {x y : Nat} (x1 : a ≤ x) (x2 : x < mid) (y1 : mid ≤ y) (y2 : y < b) :
    Pr lt (rot s c m e x) (rot s c m e y) := by
  have k1 := K.ac; have k2 := K.cm; have k3 := K.me; have k4 := K.eb; have k5 := K.hm
  by_cases hx : x < c
  · rw [rot_l K hx]
    by_cases hy : y < e
    · rw [rot_c K y1 hy]; exact L _ _ x1 (by omega) (by omega)
    · rw [rot_r K (by omega)]
      rcases A with A | A | A
      · omega
      · omega
      · exact L.chain H R x1 (by omega) (by omega) (by omega) (by omega) y2 A
  · rw [rot_b K (by omega) x2]
    by_cases hy : y < e
    · rw [rot_c K y1 hy]
      rcases B with B | B | B
      · omega
      · omega
      · exact R.chain H L (by omega) (by omega) (by omega) (by omega) (by omega) (by omega) B
    · rw [rot_r K (by omega)]; exact R _ _ (by omega) (by omega) y2
theorem rot_s1 (K : Cut a c m e b mid) (L : Srt lt s a m) : Srt lt (rot s c m e) a c := fun p q h1 h2 h3 => by
  have k1 := K.ac; have k2 := K.cm; have k3 := K.me; have k4 := K.eb; have k5 := K.hm
  rw [rot_l K (by omega), rot_l K h3]; exact L _ _ h1 h2 (by omega)
theorem rot_s2 (K : Cut a c m e b mid) (R : Srt lt s m b) : Srt lt (rot s c m e) c mid := fun p q h1 h2 h3 => by
  have k1 := K.ac; have k2 := K.cm; have k3 := K.me; have k4 := K.eb; have k5 := K.hm
  rw [rot_b K h1 (by omega), rot_b K (by omega) h3]; exact R _ _ (by omega) (by omega) (by omega)
theorem rot_s3 (K : Cut a c m e b mid) (L : Srt lt s a m) : Srt lt (rot s c m e) mid e := fun p q h1 h2 h3 => by
  have k1 := K.ac; have k2 := K.cm; have k3 := K.me; have k4 := K.eb; have k5 := K.hm
  rw [rot_c K h1 (by omega), rot_c K (by omega) h3]; exact L _ _ (by omega) (by omega) (by omega)
theorem rot_s4 (K : Cut a c m e b mid) (R : Srt lt s m b) : Srt lt (rot s c m e) e b := fun p q h1 h2 h3 => by
  have k1 := K.ac; have k2 := K.cm; have k3 := K.me; have k4 := K.eb; have k5 := K.hm
  rw [rot_r K h1, rot_r K (by omega)]; exact R _ _ (by omega) h2 h3
theorem rot_w1 (K : Cut a c m e b mid) (W : Low s a m b) : Low (rot s c m e) a c mid := fun p q h1 h2 h3 h4 => by
  have k1 := K.ac; have k2 := K.cm; have k3 := K.me; have k4 := K.eb; have k5 := K.hm
  rw [rot_l K h2, rot_b K h3 h4]; exact W _ _ h1 (by omega) (by omega) (by omega)
theorem rot_w2 (K : Cut a c m e b mid) (W : Low s a m b) : Low (rot s c m e) mid e b := fun p q h1 h2 h3 h4 => by
  have k1 := K.ac; have k2 := K.cm; have k3 := K.me; have k4 := K.eb; have k5 := K.hm
  rw [rot_c K h1 h2, rot_r K h3]; exact W _ _ (by omega) (by omega) (by omega) h4
theorem merged {t t1 t2 : Nat → Nat} (am : a ≤ mid) (mb : mid ≤ b) (X : ∀ x y, a ≤ x → x < mid → mid ≤ y → y < b → Pr lt (t x) (t y)) (S1 : Srt lt t1 a mid) (B1 : Sb t t1 a mid) (S2 : Srt lt t2 mid b) (B2 : Sb t1 t2 mid b) :
    Srt lt t2 a b ∧ Sb t t2 a b := by
  refine ⟨fun p q h1 h2 h3 => ?_, (B1.mono (Nat.le_refl _) mb).trans (B2.mono am (Nat.le_refl _))⟩
  by_cases hq : q < mid
  · rw [B2.o p (by omega), B2.o q (by omega)]; exact S1 p q h1 h2 hq
  · by_cases hp : p < mid
    · rw [B2.o p (by omega)]
      obtain ⟨p', p1, p2, p3⟩ := B1.i p h1 hp
      obtain ⟨q', q1, q2, q3⟩ := B2.i q (by omega) h3
      rw [p3, q3, B1.o q' (by omega)]
      exact X p' q' p1 p2 q1 q2
    · exact S2 p q (by omega) h2 h3
theorem Srt.one {s : Nat → Nat} (h : b ≤ a + 1) : Srt lt s a b := fun p q h1 h2 h3 => by omega
end
structure Bks (lt : Nat → Nat → Bool) (n : Nat) (s : Nat → Nat) (c : Nat) : Prop where
  own : ∀ k, k < n → s k / c = k / c
  srt : ∀ p q, p < q → q < n → p / c = q / c → Pr lt (s p) (s q)
/-- so far up to a; behind it nothing is sorted yet -/
structure BksA (lt : Nat → Nat → Bool) (n : Nat) (s : Nat → Nat) (c a : Nat) : Prop where
  own : ∀ k, k < n → s k / c = k / c
  srt : ∀ p q, p < q → q < a → p / c = q / c → Pr lt (s p) (s q)
  rest : ∀ k, a ≤ k → s k = k
/-- up to a in blocks of twice the size, behind it of the size -/
structure BksM (lt : Nat → Nat → Bool) (n : Nat) (s : Nat → Nat) (c a : Nat) : Prop where
  own : ∀ k, k < n → s k / (2 * c) = k / (2 * c)
  ownR : ∀ k, a ≤ k → k < n → s k / c = k / c
  srt : ∀ p q, p < q → q < a → p / (2 * c) = q / (2 * c) → Pr lt (s p) (s q)
  srtR : ∀ p q, a ≤ p → p < q → q < n → p / c = q / c → Pr lt (s p) (s q)
theorem blk_div {c k q : Nat} (h1 : c * q ≤ k) (h2 : k < c * q + c) : k / c = q :=
  Nat.div_eq_of_lt_le (by rw [Nat.mul_comm]; exact h1) (by rw [Nat.add_mul, Nat.one_mul, Nat.mul_comm q c]; exact h2)
theorem blk_lt {c k q : Nat} (h0 : 0 < c) (h : k < c * q) : k / c < q := (Nat.div_lt_iff_lt_mul h0).2 (by rw [Nat.mul_comm]; exact h)
section
variable {lt : Nat → Nat → Bool} {n c a e q : Nat} {s s' : Nat → Nat}
theorem BksA.start : BksA lt n (fun i => i) c 0 := ⟨fun _ _ => rfl, fun _ _ _ h => by omega, fun _ _ => rfl⟩
theorem BksA.inc (h : BksA lt n s c a) (k k' : Nat) (h1 : a ≤ k) (h2 : k < k') (_ : k' < e) : s k < s k' := by rw [h.rest k h1, h.rest k' (by omega)]; exact h2
theorem BksA.next (h : BksA lt n s c a) (h0 : 0 < c) (ha : a = c * q) (ae : a ≤ e) (ec : e ≤ a + c) (en : e ≤ n) (B : Sb s s' a e) (S : Srt lt s' a e) : BksA lt n s' c e := by
  refine ⟨fun k hk => ?_, fun p r h1 h2 h3 => ?_, fun k hk => by rw [B.o k (by omega)]; exact h.rest k (by omega)⟩
  · by_cases g : a ≤ k ∧ k < e
    · obtain ⟨k', a1, a2, a3⟩ := B.i k g.1 g.2
      rw [a3, h.own k' (by omega), blk_div (c := c) (q := q) (k := k') (by omega) (by omega), blk_div (c := c) (q := q) (k := k) (by omega) (by omega)]
    · rw [B.o k g]; exact h.own k hk
  · by_cases g : r < a
    · rw [B.o p (by omega), B.o r (by omega)]; exact h.srt p r h1 g h3
    · by_cases f : a ≤ p
      · exact S p r f h1 h2
      · have e1 := blk_lt (k := p) (q := q) h0 (by omega)
        have e2 := blk_div (c := c) (q := q) (k := r) (by omega) (by omega)
        omega
theorem BksA.fin (h : BksA lt n s c n) : Bks lt n s c := ⟨h.own, h.srt⟩
theorem Bks.srt0 (h : Bks lt n s c) (hc : n ≤ c) : Srt lt s 0 n := fun p r _ h2 h3 => h.srt p r h2 h3 (by rw [Nat.div_eq_of_lt (by omega), Nat.div_eq_of_lt (by omega)])
theorem dbl (k c : Nat) : k / (2 * c) = k / c / 2 := by rw [Nat.mul_comm, Nat.div_div_eq_div_mul]
theorem Bks.start (h : Bks lt n s c) : BksM lt n s c 0 :=
  ⟨fun k hk => by rw [dbl, dbl, h.own k hk], fun k _ hk => h.own k hk, fun _ _ _ g => by omega, fun p r _ h2 h3 h4 => h.srt p r h2 h3 h4⟩
theorem BksM.next (h : BksM lt n s c a) (h0 : 0 < c) (ha : a = 2 * c * q) (ae : a ≤ e) (ec : e ≤ a + 2 * c) (en : e ≤ n) (B : Sb s s' a e) (S : Srt lt s' a e) : BksM lt n s' c e := by
  refine ⟨fun k hk => ?_, fun k h1 h2 => by rw [B.o k (by omega)]; exact h.ownR k (by omega) h2, fun p r h1 h2 h3 => ?_, fun p r h1 h2 h3 h4 => by rw [B.o p (by omega), B.o r (by omega)]; exact h.srtR p r (by omega) h2 h3 h4⟩
  · by_cases g : a ≤ k ∧ k < e
    · obtain ⟨k', a1, a2, a3⟩ := B.i k g.1 g.2
      rw [a3, h.own k' (by omega), blk_div (c := 2 * c) (q := q) (k := k') (by omega) (by omega), blk_div (c := 2 * c) (q := q) (k := k) (by omega) (by omega)]
    · rw [B.o k g]; exact h.own k hk
  · by_cases g : r < a
    · rw [B.o p (by omega), B.o r (by omega)]; exact h.srt p r h1 g h3
    · by_cases f : a ≤ p
      · exact S p r f h1 h2
      · have e1 := blk_lt (c := 2 * c) (k := p) (q := q) (by omega) (by omega)
        have e2 := blk_div (c := 2 * c) (q := q) (k := r) (by omega) (by omega)
        omega
theorem BksM.fin (h : BksM lt n s c n) : Bks lt n s (2 * c) := ⟨h.own, h.srt⟩
theorem BksM.short (h : BksM lt n s c a) (h0 : 0 < c) (ha : a = 2 * c * q) (hn : n ≤ a + c) : Bks lt n s (2 * c) := by
  refine ⟨h.own, fun p r h1 h2 h3 => ?_⟩
  have ha2 : a = c * (2 * q) := by rw [ha, Nat.mul_comm 2 c, Nat.mul_assoc]
  by_cases g : r < a
  · exact h.srt p r h1 g h3
  · by_cases f : a ≤ p
    · exact h.srtR p r f h1 h2 (by rw [blk_div (c := c) (q := 2 * q) (k := p) (by omega) (by omega), blk_div (c := c) (q := 2 * q) (k := r) (by omega) (by omega)])
    · have e1 := blk_lt (c := 2 * c) (k := p) (q := q) (by omega) (by omega)
      have e2 := blk_div (c := 2 * c) (q := q) (k := r) (by omega) (by omega)
      omega
theorem BksM.left (h : BksM lt n s c a) (ha : a = 2 * c * q) (hn : a + c ≤ n) : Srt lt s a (a + c) := by
  have ha2 : a = c * (2 * q) := by rw [ha, Nat.mul_comm 2 c, Nat.mul_assoc]
  exact fun p r h1 h2 h3 => h.srtR p r h1 h2 (by omega) (by rw [blk_div (c := c) (q := 2 * q) (k := p) (by omega) (by omega), blk_div (c := c) (q := 2 * q) (k := r) (by omega) (by omega)])
theorem up_q (ha : a = 2 * c * q) : a + c = c * (2 * q + 1) := by rw [ha, Nat.mul_comm 2 c, Nat.mul_assoc, Nat.mul_add, Nat.mul_one]
theorem BksM.right (h : BksM lt n s c a) (ha : a = 2 * c * q) (ec : e ≤ a + 2 * c) (en : e ≤ n) : Srt lt s (a + c) e := by
  have hq := up_q ha
  exact fun p r h1 h2 h3 => h.srtR p r (by omega) h2 (by omega) (by rw [blk_div (c := c) (q := 2 * q + 1) (k := p) (by omega) (by omega), blk_div (c := c) (q := 2 * q + 1) (k := r) (by omega) (by omega)])
theorem BksM.low (h : BksM lt n s c a) (ha : a = 2 * c * q) (ec : e ≤ a + 2 * c) (en : e ≤ n) : Low s a (a + c) e := by
  have ha2 : a = c * (2 * q) := by rw [ha, Nat.mul_comm 2 c, Nat.mul_assoc]
  have hq := up_q ha
  intro i j h1 h2 h3 h4
  have e1 := h.ownR i h1 (by omega)
  have e2 := h.ownR j (by omega) (by omega)
  rw [blk_div (c := c) (q := 2 * q) (k := i) (by omega) (by omega)] at e1
  rw [blk_div (c := c) (q := 2 * q + 1) (k := j) (by omega) (by omega)] at e2
  apply Nat.lt_of_not_le
  intro g
  have := Nat.div_le_div_right (c := c) g
  omega
end
theorem srt_unique {lt : Nat → Nat → Bool} (H : SW lt) {n : Nat} {s t : Nat → Nat} (gs : Gd n s) (gt : Gd n t) (hs : Srt lt s 0 n) (ht : Srt lt t 0 n) : ∀ k, k < n → s k = t k := by
  have key : ∀ (s t : Nat → Nat), Gd n s → Gd n t → Srt lt s 0 n → Srt lt t 0 n → ∀ k, k < n → (∀ i, i < k → s i = t i) → s k = t k ∨ Pr lt (t k) (s k) := by
    intro s t gs gt hs ht k hk ih
    obtain ⟨j, j1, j2⟩ := gt.sur (s k) (gs.lt k hk)
    rcases Nat.lt_trichotomy j k with g | g | g
    · have := gs.inj j k (by omega) hk ((ih j g).trans j2)
      omega
    · rw [← j2, g]; exact .inl rfl
    · rw [← j2]; exact .inr (ht k j (Nat.zero_le _) g j1)
  intro k
  induction k using Nat.strongRecOn with
  | ind k ih =>
    intro hk
    rcases key s t gs gt hs ht k hk (fun i hi => ih i hi (by omega)) with e | e
    · exact e
    · rcases key t s gt gs ht hs k hk (fun i hi => (ih i hi (by omega)).symm) with f | f
      · exact f.symm
      · exact absurd (e.trans H f) (Pr.irr H)
end Go.Proofs.Ytnofmlkjagdklaa

namespace Go.Proofs.Ytnofmlkjagdklaa
open Go.RowKit

/-- A list that can be sorted: what its methods answer and do. -/
structure SI (n : Nat) (lt : Nat → Nat → Bool) (T : TypeId) (v : Value) (fL fS : FuncId) (St : (Nat → Nat) → World → Prop) : Prop where
  bd : n ≤ 1000000
  sw : SW lt
  mL : ∀ (j : Nat) (u : World), (method (j + 1) T v "Less").run Try.prog u = .ok (fL, v) u
  mS : ∀ (j : Nat) (u : World), (method (j + 1) T v "Swap").run Try.prog u = .ok (fS, v) u
  eL : ∀ (a : Array Value) (u : World), (callFunc fL a).run Try.prog u = .ok (.enter fL a) u
  eS : ∀ (a : Array Value) (u : World), (callFunc fS a).run Try.prog u = .ok (.enter fS a) u
  L : ∀ (s : Nat → Nat) (i j : Nat) (u : World), i < n → j < n → St s u → Calls Try.prog fL #[v, .int .i64 i, .int .i64 j] u fun e w' => e = .returned (.bool (lt (s i) (s j))) ∧ St s w'
  S : ∀ (s : Nat → Nat) (i j : Nat) (u : World), i < n → j < n → St s u → Calls Try.prog fS #[v, .int .i64 i, .int .i64 j] u fun e w' => e = .returned (.tuple #[]) ∧ St (swp s i j) w'
section
variable {n : Nat} {lt : Nat → Nat → Bool} {T : TypeId} {v : Value} {fL fS : FuncId} {St : (Nat → Nat) → World → Prop}
theorem sort_swr (I : SI n lt T v fL fS St) (s : Nat → Nat) (a b c : Nat) (W : World) (h1 : a + c ≤ b) (h2 : b + c ≤ n) (hs : St s W) (g : Gd n s) :
    Calls Try.prog 77 #[.iface T v, .int .i64 a, .int .i64 b, .int .i64 c] W fun e w' => e = .returned (.tuple #[]) ∧ St (swr s a b c) w' ∧ Gd n (swr s a b c) := by
  have mS := I.mS
  have eS := I.eS
  have hn := I.bd
  have HS := Lib.hid I.S
  have Hs := Lib.hid hs
  have Hg := Lib.hid g
  clear hs g I
  go_enter Try.func77, Try.ntmps77
  go_wp2_with fail
  go_loopw [8] (fun i wr => ∃ k : Nat, k ≤ c ∧ i = .int .i64 k ∧ St (swr s a b k) wr ∧ Gd n (swr s a b k)) (fun i _ => c - (intOf i).toNat)
  case atStart => exact ⟨0, Nat.zero_le _, rfl, by rw [swr_zero]; exact Hs.out, by rw [swr_zero]; exact Hg.out⟩
  case round =>
    obtain ⟨k, hk, rfl, h, g⟩ := hrel
    have H := Lib.hid h
    have G := Lib.hid g
    clear h g
    by_cases hlt : k < c
    · have HS1 := Lib.hid (fun u hu => HS.out (swr s a b k) (a + k) (b + k) u (by omega) (by omega) hu)
      have X := Lib.hid (swr_step s (a := a) (b := b) (t := k) (by omega))
      have Y := Lib.hid (G.out.swp (i := a + k) (j := b + k) (by omega) (by omega))
      rw [Int.natCast_add, Int.natCast_add] at HS1
      go_wp2_with fail
      refine (HS1.out _ H.out).mono ?_
      rintro e w1 ⟨rfl, h1⟩
      have H1 := Lib.hid h1
      clear h1
      go_wp2_with fail
      go_roundw
      case rel => exact ⟨k + 1, by omega, by go_num, by rw [← X.out]; exact H1.out, by rw [← X.out]; exact Y.out⟩
      case measure => simp [intOf]; omega
    · obtain rfl : k = c := by omega
      go_wp2_with fail
      go_end0
      exact ⟨rfl, H.out, G.out⟩
theorem vi {x : Int} {k : Nat} (h : x = k) : Value.int .i64 x = .int .i64 k := by rw [h]
theorem sort_rot (I : SI n lt T v fL fS St) (s : Nat → Nat) (a m b : Nat) (W : World) (h1 : a < m) (h2 : m < b) (h3 : b ≤ n) (hs : St s W) (g : Gd n s) :
    Calls Try.prog 69 #[.iface T v, .int .i64 a, .int .i64 m, .int .i64 b] W fun e w' => e = .returned (.tuple #[]) ∧ St (rot s a m b) w' ∧ Gd n (rot s a m b) := by
  have hn := I.bd
  have HR := Lib.hid (fun s a b c u h1 h2 hs g => sort_swr I s a b c u h1 h2 hs g)
  have Hs := Lib.hid hs
  have Hg := Lib.hid g
  clear hs g I
  go_enter Try.func69, Try.ntmps69
  go_wp2_with fail
  go_loopw [8, 9] (fun iv jv wr => ∃ (i j : Nat) (t : Nat → Nat), iv = .int .i64 i ∧ jv = .int .i64 j ∧ 0 < i ∧ 0 < j ∧ i ≤ m ∧ m + j ≤ n ∧ Hid (rot t (m - i) m (m + j) = rot s a m b) ∧ St t wr ∧ Gd n t) (fun iv jv _ => (intOf iv).toNat + (intOf jv).toNat)
  case atStart => exact ⟨m - a, b - m, s, vi (by omega), vi (by omega), by omega, by omega, by omega, by omega, Lib.hid (by rw [show m - (m - a) = a by omega, show m + (b - m) = b by omega]), Hs.out, Hg.out⟩
  case round =>
    obtain ⟨i, j, t, rfl, rfl, i0, j0, im, jn, hr, h, g⟩ := hrel
    have H := Lib.hid h
    have G := Lib.hid g
    clear h g
    rcases Nat.lt_trichotomy i j with hlt | hlt | hlt
    · have HR1 := Lib.hid (fun u hu => HR.out t (m - i) (m + j - i) i u (by omega) (by omega) hu G.out)
      rw [show ((m - i : Nat) : Int) = (m : Int) - i by omega, show ((m + j - i : Nat) : Int) = (m : Int) + j - i by omega] at HR1
      have X := Lib.hid (rot_lt t (m := m) hlt im)
      go_wp2_with fail
      refine (HR1.out _ H.out).mono ?_
      rintro e w1 ⟨rfl, h1, g1⟩
      have H1 := Lib.hid h1
      have G1 := Lib.hid g1
      clear h1 g1
      go_wp2_with fail
      go_roundw
      case rel => exact ⟨i, j - i, _, rfl, vi (by omega), by omega, by omega, by omega, by omega, Lib.hid (X.out.trans hr.out), H1.out, G1.out⟩
      case measure => simp [intOf]; omega
    · subst hlt
      have HR1 := Lib.hid (fun u hu => HR.out t (m - i) m i u (by omega) (by omega) hu G.out)
      rw [show ((m - i : Nat) : Int) = (m : Int) - i by omega] at HR1
      have X := Lib.hid (rot_eq t (m := m) im)
      go_wp2_with fail
      refine (HR1.out _ H.out).mono ?_
      rintro e w1 ⟨rfl, h1, g1⟩
      have H1 := Lib.hid h1
      have G1 := Lib.hid g1
      clear h1 g1
      go_wp2_with fail
      go_end0
      exact ⟨rfl, by rw [← hr.out, ← X.out]; exact H1.out, by rw [← hr.out, ← X.out]; exact G1.out⟩
    · have HR1 := Lib.hid (fun u hu => HR.out t (m - i) m j u (by omega) (by omega) hu G.out)
      rw [show ((m - i : Nat) : Int) = (m : Int) - i by omega] at HR1
      have X := Lib.hid (rot_gt t (m := m) hlt im)
      go_wp2_with fail
      refine (HR1.out _ H.out).mono ?_
      rintro e w1 ⟨rfl, h1, g1⟩
      have H1 := Lib.hid h1
      have G1 := Lib.hid g1
      clear h1 g1
      go_wp2_with fail
      go_roundw
      case rel => exact ⟨i - j, j, _, vi (by omega), rfl, by omega, by omega, by omega, by omega, Lib.hid (X.out.trans hr.out), H1.out, G1.out⟩
      case measure => simp [intOf]; omega
theorem sort_ins (I : SI n lt T v fL fS St) (s : Nat → Nat) (a b : Nat) (W : World) (h1 : a ≤ b) (h3 : b ≤ n) (hs : St s W) (g : Gd n s) (hi : ∀ k k', a ≤ k → k < k' → k' < b → s k < s k') :
    Calls Try.prog 63 #[.iface T v, .int .i64 a, .int .i64 b] W fun e w' => e = .returned (.tuple #[]) ∧ ∃ t, St t w' ∧ Gd n t ∧ Sb s t a b ∧ Srt lt t a b := by
  have hn := I.bd
  have mL := I.mL
  have mS := I.mS
  have eL := I.eL
  have eS := I.eS
  have HL := Lib.hid I.L
  have HS := Lib.hid I.S
  have SW := Lib.hid I.sw
  have Hs := Lib.hid hs
  have H0 := Lib.hid (InO.start (lt := lt) g hi)
  clear hs g I hi
  go_enter Try.func63, Try.ntmps63
  go_wp2_with fail
  go_loopw [6] (fun iv wr => ∃ (i : Nat) (t : Nat → Nat), iv = .int .i64 i ∧ a + 1 ≤ i ∧ (i = a + 1 ∨ i ≤ b) ∧ InO lt n s t a b i ∧ St t wr) (fun iv _ => b - (intOf iv).toNat)
  case atStart => exact ⟨a + 1, s, by go_num, Nat.le_refl _, .inl rfl, H0.out, Hs.out⟩
  case round =>
    obtain ⟨i, t, rfl, ai, ib, o, h⟩ := hrel
    have O := Lib.hid o
    have H := Lib.hid h
    clear o h
    by_cases hlt : i < b
    · go_wp2_with fail
      go_loopw [7] (fun jv wr => ∃ (j : Nat) (t' : Nat → Nat), jv = .int .i64 j ∧ InS lt n s t' a b i j ∧ St t' wr) (fun jv _ => (intOf jv).toNat)
      case atStart => exact ⟨i, t, rfl, O.out.in (by omega) hlt, H.out⟩
      case round =>
        obtain ⟨j, t', rfl, o, h⟩ := hrel
        have aj := o.aj
        have ji := o.ji
        have O := Lib.hid o
        have H := Lib.hid h
        clear o h
        by_cases hj : a < j
        · have HL1 := Lib.hid (fun u hu => HL.out t' j (j - 1) u (by omega) (by omega) hu)
          rw [show ((j - 1 : Nat) : Int) = (j : Int) - 1 by omega] at HL1
          go_wp2_with fail
          refine (HL1.out _ H.out).mono ?_
          rintro e w1 ⟨rfl, h1⟩
          have H1 := Lib.hid h1
          clear h1
          cases hl : lt (t' j) (t' (j - 1))
          · have Z := Lib.hid (O.out.out SW.out (.inr hl))
            go_wp2_with fail
            go_roundw
            case rel => exact ⟨i + 1, t', by go_num, by omega, by omega, Z.out, H1.out⟩
            case measure => simp [intOf]; omega
          · have Z := Lib.hid (O.out.step hj (by omega) hlt hl)
            have HS1 := Lib.hid (fun u hu => HS.out t' j (j - 1) u (by omega) (by omega) hu)
            rw [show ((j - 1 : Nat) : Int) = (j : Int) - 1 by omega] at HS1
            go_wp2_with fail
            refine (HS1.out _ H1.out).mono ?_
            rintro e w2 ⟨rfl, h2⟩
            have H2 := Lib.hid h2
            clear h2
            go_wp2_with fail
            go_roundw
            case rel => exact ⟨j - 1, _, vi (by omega), Z.out, H2.out⟩
            case measure => simp [intOf]; omega
        · have Z := Lib.hid (O.out.out SW.out (.inl (by omega)))
          go_wp2_with fail
          go_roundw
          case rel => exact ⟨i + 1, t', by go_num, by omega, by omega, Z.out, H.out⟩
          case measure => simp [intOf]; omega
    · have Z : Srt lt t a b := fun p q h1 h2 h3 => O.out.srt p q h1 h2 (by omega)
      go_wp2_with fail
      go_end0
      exact ⟨rfl, t, H.out, O.out.g, O.out.sb, Z⟩
end
end Go.Proofs.Ytnofmlkjagdklaa

namespace Go.Proofs.Ytnofmlkjagdklaa
open Go.RowKit
section
variable {n : Nat} {lt : Nat → Nat → Bool} {T : TypeId} {v : Value} {fL fS : FuncId} {St : (Nat → Nat) → World → Prop}
set_option maxRecDepth 100000 in
set_option maxHeartbeats 1000000 in
theorem sort_sym1 (I : SI n lt T v fL fS St) (s : Nat → Nat) (a m b : Nat) (W : World) (h1 : m = a + 1) (h2 : m < b) (h3 : b ≤ n) (hs : St s W) (g : Gd n s) (R : Srt lt s m b) (lo : Low s a m b) :
    Calls Try.prog 64 #[.iface T v, .int .i64 a, .int .i64 m, .int .i64 b] W fun e w' => e = .returned (.tuple #[]) ∧ ∃ t, St t w' ∧ Gd n t ∧ Sb s t a b ∧ Srt lt t a b := by
  have hn := I.bd
  have mL := I.mL
  have mS := I.mS
  have eL := I.eL
  have eS := I.eS
  have HL := Lib.hid I.L
  have HS := Lib.hid I.S
  have SW := Lib.hid I.sw
  have Hs := Lib.hid hs
  have Hg := Lib.hid g
  have HR := Lib.hid R
  have HW := Lib.hid lo
  have d1 : ((m : Int) - (a : Int) == 1) = true := beq_iff_eq.2 (by omega)
  have ha1 : a + 1 ≤ m := by omega
  have ha2 : m ≤ a + 1 := by omega
  replace h1 := Lib.hid h1
  clear hs g I R lo
  go_enter Try.func64, Try.ntmps64
  go_wp2_with fail
  clear d1
  go_loopw [8, 9] (fun iv jv wr => ∃ (i j : Nat), iv = .int .i64 i ∧ jv = .int .i64 j ∧ m ≤ i ∧ i ≤ j ∧ j ≤ b ∧ Hid (i = m ∨ Pr lt (s (i - 1)) (s a)) ∧ Hid (j = b ∨ Pr lt (s a) (s j)) ∧ St s wr) (fun iv jv _ => (intOf jv).toNat - (intOf iv).toNat)
  case atStart => exact ⟨m, b, rfl, rfl, Nat.le_refl _, by omega, Nat.le_refl _, Lib.hid (.inl rfl), Lib.hid (.inl rfl), Hs.out⟩
  case round =>
    obtain ⟨i, j, rfl, rfl, mi, ij, jb, A, B, h⟩ := hrel
    have H := Lib.hid h
    clear h
    by_cases hlt : i < j
    · have Q := Lib.hid (HW.out a ((i + j) / 2) (Nat.le_refl _) (by omega) (by omega) (by omega))
      have HL1 := Lib.hid (fun u hu => HL.out s ((i + j) / 2) (a) u (by omega) (by omega) hu)
      rw [show ((((i + j) / 2) : Nat) : Int) = ((i : Int) + j) / 2 by omega] at HL1
      go_wp2_with fail
      refine (HL1.out _ H.out).mono ?_
      rintro e w1 ⟨rfl, h1⟩
      have H1 := Lib.hid h1
      clear h1
      cases hl : lt (s ((i + j) / 2)) (s a)
      · go_wp2_with fail
        go_roundw
        case rel => exact ⟨i, (i + j) / 2, rfl, vi (by omega), mi, by omega, by omega, A, Lib.hid (.inr (.up Q.out hl)), H1.out⟩
        case measure => simp [intOf]; omega
      · go_wp2_with fail
        go_roundw
        case rel => exact ⟨(i + j) / 2 + 1, j, vi (by omega), rfl, by omega, by omega, by omega, Lib.hid (.inr (by rw [show (i + j) / 2 + 1 - 1 = (i + j) / 2 by omega]; exact .dn hl)), B, H1.out⟩
        case measure => simp [intOf]; omega
    · obtain rfl : i = j := by omega
      go_wp2_with fail
      go_loopw [11] (fun kv wr => ∃ k : Nat, kv = .int .i64 k ∧ a ≤ k ∧ k ≤ i - 1 ∧ St (mvu s a k) wr ∧ Gd n (mvu s a k)) (fun kv _ => i - (intOf kv).toNat)
      case atStart => exact ⟨a, rfl, Nat.le_refl _, by omega, by rw [mvu_start]; exact H.out, by rw [mvu_start]; exact Hg.out⟩
      case round =>
        obtain ⟨k, rfl, ak, ki, h, g⟩ := hrel
        have H' := Lib.hid h
        have G' := Lib.hid g
        clear h g
        by_cases hk : k < i - 1
        · have HS1 := Lib.hid (fun u hu => HS.out (mvu s a k) k (k + 1) u (by omega) (by omega) hu)
          have X := Lib.hid (mvu_step s (a := a) (t := k) ak)
          have Y := Lib.hid (G'.out.swp (i := k) (j := k + 1) (by omega) (by omega))
          rw [show ((k + 1 : Nat) : Int) = (k : Int) + 1 by omega] at HS1
          go_wp2_with fail
          refine (HS1.out _ H'.out).mono ?_
          rintro e w1 ⟨rfl, h1⟩
          have H1 := Lib.hid h1
          clear h1
          go_wp2_with fail
          go_roundw
          case rel => exact ⟨k + 1, by go_num, by omega, by omega, by rw [← X.out]; exact H1.out, by rw [← X.out]; exact Y.out⟩
          case measure => simp [intOf]; omega
        · obtain rfl : k = i - 1 := by omega
          have Z1 := Lib.hid (mvu_sb s (a := a) (b := b) (t := i - 1) (by omega) (by omega))
          have Z2 : Hid (Srt lt (mvu s a (i - 1)) a b) := Lib.hid (by have h1 := h1.out; subst h1; exact mvu_srt SW.out HR.out mi jb A.out B.out)
          go_wp2_with fail
          exact bodyPost_ret (v := .tuple #[]) (by simp [results, Try.results64, go_sem]) rfl ⟨rfl, _, H'.out, G'.out, Z1.out, Z2.out⟩
set_option maxRecDepth 100000 in
set_option maxHeartbeats 1000000 in
theorem sort_sym2 (I : SI n lt T v fL fS St) (s : Nat → Nat) (a m b : Nat) (W : World) (h0 : a + 1 < m) (h1 : b = m + 1) (h3 : b ≤ n) (hs : St s W) (g : Gd n s) (L : Srt lt s a m) (lo : Low s a m b) :
    Calls Try.prog 64 #[.iface T v, .int .i64 a, .int .i64 m, .int .i64 b] W fun e w' => e = .returned (.tuple #[]) ∧ ∃ t, St t w' ∧ Gd n t ∧ Sb s t a b ∧ Srt lt t a b := by
  have hn := I.bd
  have mL := I.mL
  have mS := I.mS
  have eL := I.eL
  have eS := I.eS
  have HL := Lib.hid I.L
  have HS := Lib.hid I.S
  have SW := Lib.hid I.sw
  have Hs := Lib.hid hs
  have Hg := Lib.hid g
  have HR := Lib.hid L
  have HW := Lib.hid lo
  have d1 : ((m : Int) - (a : Int) == 1) = false := by rw [beq_eq_false_iff_ne]; omega
  have d2 : ((b : Int) - (m : Int) == 1) = true := beq_iff_eq.2 (by omega)
  have ha1 : m + 1 ≤ b := by omega
  have ha2 : b ≤ m + 1 := by omega
  replace h1 := Lib.hid h1
  clear hs g I L lo
  go_enter Try.func64, Try.ntmps64
  go_wp2_with fail
  clear d1 d2
  go_loopw [12, 13] (fun iv jv wr => ∃ (i j : Nat), iv = .int .i64 i ∧ jv = .int .i64 j ∧ a ≤ i ∧ i ≤ j ∧ j ≤ m ∧ Hid (i = a ∨ Pr lt (s (i - 1)) (s m)) ∧ Hid (j = m ∨ Pr lt (s m) (s j)) ∧ St s wr) (fun iv jv _ => (intOf jv).toNat - (intOf iv).toNat)
  case atStart => exact ⟨a, m, rfl, rfl, Nat.le_refl _, by omega, Nat.le_refl _, Lib.hid (.inl rfl), Lib.hid (.inl rfl), Hs.out⟩
  case round =>
    obtain ⟨i, j, rfl, rfl, ai, ij, jm, A, B, h⟩ := hrel
    have H := Lib.hid h
    clear h
    by_cases hlt : i < j
    · have Q := Lib.hid (HW.out ((i + j) / 2) m (by omega) (by omega) (Nat.le_refl _) (by omega))
      have HL1 := Lib.hid (fun u hu => HL.out s (m) ((i + j) / 2) u (by omega) (by omega) hu)
      rw [show ((((i + j) / 2) : Nat) : Int) = ((i : Int) + j) / 2 by omega] at HL1
      go_wp2_with fail
      refine (HL1.out _ H.out).mono ?_
      rintro e w1 ⟨rfl, h1⟩
      have H1 := Lib.hid h1
      clear h1
      cases hl : lt (s m) (s ((i + j) / 2))
      · go_wp2_with fail
        go_roundw
        case rel => exact ⟨(i + j) / 2 + 1, j, vi (by omega), rfl, by omega, by omega, by omega, Lib.hid (.inr (by rw [show (i + j) / 2 + 1 - 1 = (i + j) / 2 by omega]; exact .up Q.out hl)), B, H1.out⟩
        case measure => simp [intOf]; omega
      · go_wp2_with fail
        go_roundw
        case rel => exact ⟨i, (i + j) / 2, rfl, vi (by omega), ai, by omega, by omega, A, Lib.hid (.inr (.dn hl)), H1.out⟩
        case measure => simp [intOf]; omega
    · obtain rfl : i = j := by omega
      go_wp2_with fail
      go_loopw [15] (fun kv wr => ∃ k : Nat, kv = .int .i64 k ∧ i ≤ k ∧ k ≤ m ∧ St (mvd s m k) wr ∧ Gd n (mvd s m k)) (fun kv _ => (intOf kv).toNat)
      case atStart => exact ⟨m, rfl, jm, Nat.le_refl _, by rw [mvd_start]; exact H.out, by rw [mvd_start]; exact Hg.out⟩
      case round =>
        obtain ⟨k, rfl, ik, km, h, g⟩ := hrel
        have H' := Lib.hid h
        have G' := Lib.hid g
        clear h g
        by_cases hk : i < k
        · have HS1 := Lib.hid (fun u hu => HS.out (mvd s m k) k (k - 1) u (by omega) (by omega) hu)
          have X := Lib.hid (mvd_step s (m := m) (t := k) (by omega) km)
          have Y := Lib.hid (G'.out.swp (i := k) (j := k - 1) (by omega) (by omega))
          rw [show ((k - 1 : Nat) : Int) = (k : Int) - 1 by omega] at HS1
          go_wp2_with fail
          refine (HS1.out _ H'.out).mono ?_
          rintro e w1 ⟨rfl, h1⟩
          have H1 := Lib.hid h1
          clear h1
          go_wp2_with fail
          go_roundw
          case rel => exact ⟨k - 1, vi (by omega), by omega, by omega, by rw [← X.out]; exact H1.out, by rw [← X.out]; exact Y.out⟩
          case measure => simp [intOf]; omega
        · obtain rfl : k = i := by omega
          have Z1 := Lib.hid (mvd_sb s (a := a) (b := b) (m := m) (t := k) ai km (by omega))
          have Z2 : Hid (Srt lt (mvd s m k) a b) := Lib.hid (by have h1 := h1.out; subst h1; exact mvd_srt SW.out HR.out ai jm A.out B.out)
          go_wp2_with fail
          exact bodyPost_ret (v := .tuple #[]) (by simp [results, Try.results64, go_sem]) rfl ⟨rfl, _, H'.out, G'.out, Z1.out, Z2.out⟩
set_option maxRecDepth 100000 in
set_option maxHeartbeats 4000000 in
theorem sort_sym3 (I : SI n lt T v fL fS St) (s : Nat → Nat) (a m b mid : Nat) (W : World) (q1 : 2 * mid ≤ a + b) (q2 : a + b ≤ 2 * mid + 1) (h0 : a + 1 < m) (h1 : m + 1 < b) (h3 : b ≤ n) (hm : mid < m) (hs : St s W) (g : Gd n s) (L : Srt lt s a m) (R : Srt lt s m b) (lo : Low s a m b)
    (HM : ∀ (s : Nat → Nat) (a' m b' : Nat) (W : World), b' - a' < b - a → a' < m → m < b' → b' ≤ n → St s W → Gd n s → Srt lt s a' m → Srt lt s m b' → Low s a' m b' → Calls Try.prog 64 #[.iface T v, .int .i64 a', .int .i64 m, .int .i64 b'] W fun e w' => e = .returned (.tuple #[]) ∧ ∃ t, St t w' ∧ Gd n t ∧ Sb s t a' b' ∧ Srt lt t a' b') :
    Calls Try.prog 64 #[.iface T v, .int .i64 a, .int .i64 m, .int .i64 b] W fun e w' => e = .returned (.tuple #[]) ∧ ∃ t, St t w' ∧ Gd n t ∧ Sb s t a b ∧ Srt lt t a b := by
  have hn := I.bd
  have mL := I.mL
  have mS := I.mS
  have eL := I.eL
  have eS := I.eS
  have HL := Lib.hid I.L
  have HS := Lib.hid I.S
  have SW := Lib.hid I.sw
  have Hs := Lib.hid hs
  have Hg := Lib.hid g
  have HRo := Lib.hid (fun s a m b u h1 h2 h3 hs g => sort_rot I s a m b u h1 h2 h3 hs g)
  have HL' := Lib.hid L
  have HR' := Lib.hid R
  have HW := Lib.hid lo
  have HM' := Lib.hid HM
  have em := Lib.hid (show (mid : Int) = ((a : Int) + b) / 2 by omega)
  have d1 : ((m : Int) - (a : Int) == 1) = false := by rw [beq_eq_false_iff_ne]; omega
  have d2 : ((b : Int) - (m : Int) == 1) = false := by rw [beq_eq_false_iff_ne]; omega
  have d3 : ((a : Int) + b) / 2 < (m : Int) := by omega
  clear hs g I L R lo HM
  go_enter Try.func64, Try.ntmps64
  go_wp2_with fail
  clear d1 d2 d3
  go_loopw [18, 19] (fun cv rv wr => ∃ (c r : Nat), cv = .int .i64 c ∧ rv = .int .i64 r ∧ a ≤ c ∧ c ≤ r ∧ r ≤ m ∧ r ≤ mid ∧ mid + m ≤ c + b ∧ Hid (c = a ∨ c + b = mid + m ∨ Pr lt (s (c - 1)) (s (mid + m - c))) ∧ Hid (r = m ∨ r = mid ∨ Pr lt (s (mid + m - 1 - r)) (s r)) ∧ St s wr) (fun cv rv _ => (intOf rv).toNat - (intOf cv).toNat)
  case atStart => exact ⟨mid + m - b, mid, vi (by omega), vi (by omega), by omega, by omega, by omega, by omega, by omega, Lib.hid (.inr (.inl (by omega))), Lib.hid (.inr (.inl rfl)), Hs.out⟩
  case round =>
    obtain ⟨c, r, rfl, rfl, ac, cr, rm, rmid, cb, A, B, h⟩ := hrel
    have H := Lib.hid h
    clear h
    by_cases hlt : c < r
    · have Q := Lib.hid (HW.out ((c + r) / 2) (mid + m - 1 - (c + r) / 2) (by omega) (by omega) (by omega) (by omega))
      have HL1 := Lib.hid (fun u hu => HL.out s (mid + m - 1 - (c + r) / 2) ((c + r) / 2) u (by omega) (by omega) hu)
      rw [show (((mid + m - 1 - (c + r) / 2) : Nat) : Int) = ((a : Int) + b) / 2 + m - 1 - ((c : Int) + r) / 2 by omega] at HL1
      rw [show ((((c + r) / 2) : Nat) : Int) = ((c : Int) + r) / 2 by omega] at HL1
      go_wp2_with fail
      refine (HL1.out _ H.out).mono ?_
      rintro e w1 ⟨rfl, h1⟩
      have H1 := Lib.hid h1
      clear h1
      cases hl : lt (s (mid + m - 1 - (c + r) / 2)) (s ((c + r) / 2))
      · go_wp2_with fail
        go_roundw
        case rel => exact ⟨(c + r) / 2 + 1, r, vi (by omega), rfl, by omega, by omega, by omega, by omega, by omega, Lib.hid (.inr (.inr (by rw [show (c + r) / 2 + 1 - 1 = (c + r) / 2 by omega, show mid + m - ((c + r) / 2 + 1) = mid + m - 1 - (c + r) / 2 by omega]; exact .up Q.out hl))), B, H1.out⟩
        case measure => simp [intOf]; omega
      · go_wp2_with fail
        go_roundw
        case rel => exact ⟨c, (c + r) / 2, rfl, vi (by omega), by omega, by omega, by omega, by omega, by omega, A, Lib.hid (.inr (.inr (.dn hl))), H1.out⟩
        case measure => simp [intOf]; omega
    · obtain rfl : c = r := by omega
      obtain ⟨e, he⟩ : ∃ e, e = mid + m - c := ⟨_, rfl⟩
      have ee := Lib.hid (show (e : Int) = ((a : Int) + b) / 2 + m - c by omega)
      have e1 : e + c ≤ mid + m := by omega
      have e2 : mid + m ≤ e + c := by omega
      have K : Cut a c m e b mid := ⟨by omega, by omega, by omega, by omega, by omega⟩
      have A' : Hid (c = a ∨ e = b ∨ Pr lt (s (c - 1)) (s e)) := Lib.hid (by
        rcases A.out with A | A | A
        · exact .inl A
        · exact .inr (.inl (by omega))
        · rw [← he] at A; exact .inr (.inr A))
      have B' : Hid (e = m ∨ c = m ∨ Pr lt (s (e - 1)) (s c)) := Lib.hid (by
        rcases B.out with B | B | B
        · exact .inr (.inl B)
        · exact .inl (by omega)
        · rw [show mid + m - 1 - c = e - 1 by omega] at B; exact .inr (.inr B))
      have X := Lib.hid (fun x y x1 x2 y1 y2 => rot_cross K SW.out HL'.out HR'.out A'.out B'.out (x := x) (y := y) x1 x2 y1 y2)
      have S1 := Lib.hid (rot_s1 K HL'.out)
      have S2 := Lib.hid (rot_s2 K HR'.out)
      have S3 := Lib.hid (rot_s3 K HL'.out)
      have S4 := Lib.hid (rot_s4 K HR'.out)
      have W1 := Lib.hid (rot_w1 K HW.out)
      have W2 := Lib.hid (rot_w2 K HW.out)
      have RB := Lib.hid ((rot_sb s (a := c) (m := m) (b := e) (by omega) (by omega)).mono (a' := a) (b' := b) (by omega) (by omega))
      clear A B A' B' HL' HR' HW he
      by_cases hr : c < m ∧ m < e
      · obtain ⟨r1, r2⟩ := hr
        have r2' : (m : Int) < ((a : Int) + b) / 2 + m - c := by omega
        have HR1 := Lib.hid (fun u hu => HRo.out s c m e u r1 r2 (by omega) hu Hg.out)
        rw [ee.out] at HR1
        go_wp2_with fail
        refine (HR1.out _ H.out).mono ?_
        rintro e' w1 ⟨rfl, h2', g2⟩
        have H2 := Lib.hid h2'
        have G2 := Lib.hid g2
        clear h2' g2 H
        by_cases hy : a < c ∧ c < mid
        · obtain ⟨y1, y2⟩ := hy
          have y2' : (c : Int) < ((a : Int) + b) / 2 := by omega
          have HM1 := Lib.hid (fun u hu => HM'.out (rot s c m e) a c mid u (by omega) y1 y2 (by omega) hu G2.out S1.out S2.out W1.out)
          rw [em.out] at HM1
          go_wp2_with fail
          refine (HM1.out _ H2.out).mono ?_
          rintro e' w2 ⟨rfl, t1, h3', g3, b3, s3⟩
          have H3 := Lib.hid h3'
          have G3 := Lib.hid g3
          have B3 := Lib.hid b3
          have S3' := Lib.hid s3
          clear h3' g3 b3 s3
          have T3 : Hid (Srt lt (t1) mid e) := Lib.hid (fun p q h1 h2 h3 => by rw [B3.out.o p (by omega), B3.out.o q (by omega)]; exact S3.out p q h1 h2 h3)
          have T4 : Hid (Srt lt (t1) e b) := Lib.hid (fun p q h1 h2 h3 => by rw [B3.out.o p (by omega), B3.out.o q (by omega)]; exact S4.out p q h1 h2 h3)
          have TW : Hid (Low (t1) mid e b) := Lib.hid (fun p q h1 h2 h3 h4 => by rw [B3.out.o p (by omega), B3.out.o q (by omega)]; exact W2.out p q h1 h2 h3 h4)
          by_cases hz : mid < e ∧ e < b
          · obtain ⟨z1, z2⟩ := hz
            have z1' : ((a : Int) + b) / 2 < (e : Int) := by omega
            have HM2 := Lib.hid (fun u hu => HM'.out (t1) mid e b u (by omega) z1 z2 h3 hu G3.out T3.out T4.out TW.out)
            rw [em.out, ee.out] at HM2
            rw [ee.out] at z1'
            (go_wp2_with fail) <;> (
            refine (HM2.out _ H3.out).mono ?_
            rintro e' w3 ⟨rfl, t2, h4, g4, b4, s4⟩
            have H4 := Lib.hid h4
            have M4 := Lib.hid (merged (t := rot s c m e) (by omega) (by omega) X.out S3'.out B3.out s4 b4)
            have G4 := Lib.hid g4
            clear h4 g4 b4 s4
            (go_wp2_with fail) <;> (go_end0; exact ⟨rfl, t2, H4.out, G4.out, RB.out.trans M4.out.2, M4.out.1⟩))
          · have Z : Hid (Srt lt (t1) mid b) := Lib.hid (by
              by_cases q : e = mid
              · rw [← q]; exact T4.out
              · have q2 : e = b := by omega
                rw [← q2]; exact T3.out)
            have M4 := Lib.hid (merged (t := rot s c m e) (t1 := t1) (t2 := t1) (by omega) (by omega) X.out S3'.out B3.out Z.out (Sb.refl _ _ _))
            have hz' : ¬ (((a : Int) + b) / 2 < (((a : Int) + b) / 2 + m - c : Int) ∧ (((a : Int) + b) / 2 + m - c : Int) < b) := by omega
            by_cases hy : ((a : Int) + b) / 2 < (((a : Int) + b) / 2 + m - c : Int)
            · have hx : ¬ (((a : Int) + b) / 2 + m - c : Int) < b := by omega
              (go_wp2_with fail) <;> (go_end0; exact ⟨rfl, _, H3.out, G3.out, RB.out.trans M4.out.2, M4.out.1⟩)
            · (go_wp2_with fail) <;> (go_end0; exact ⟨rfl, _, H3.out, G3.out, RB.out.trans M4.out.2, M4.out.1⟩)
        · have Z0 : Hid (Srt lt (rot s c m e) a mid) := Lib.hid (by
            by_cases q : c = a
            · rw [← q]; exact S2.out
            · have q2 : c = mid := by omega
              rw [← q2]; exact S1.out)
          have Z1 : Hid (Sb (rot s c m e) (rot s c m e) a mid) := Lib.hid (Sb.refl _ _ _)
          have hy' : ¬ ((a : Int) < c ∧ (c : Int) < ((a : Int) + b) / 2) := by omega
          by_cases hx : a < c
          · have hx' : ¬ (c : Int) < ((a : Int) + b) / 2 := by omega
            have T3 : Hid (Srt lt (rot s c m e) mid e) := Lib.hid (fun p q h1 h2 h3 => by rw [Z1.out.o p (by omega), Z1.out.o q (by omega)]; exact S3.out p q h1 h2 h3)
            have T4 : Hid (Srt lt (rot s c m e) e b) := Lib.hid (fun p q h1 h2 h3 => by rw [Z1.out.o p (by omega), Z1.out.o q (by omega)]; exact S4.out p q h1 h2 h3)
            have TW : Hid (Low (rot s c m e) mid e b) := Lib.hid (fun p q h1 h2 h3 h4 => by rw [Z1.out.o p (by omega), Z1.out.o q (by omega)]; exact W2.out p q h1 h2 h3 h4)
            by_cases hz : mid < e ∧ e < b
            · obtain ⟨z1, z2⟩ := hz
              have z1' : ((a : Int) + b) / 2 < (e : Int) := by omega
              have HM2 := Lib.hid (fun u hu => HM'.out (rot s c m e) mid e b u (by omega) z1 z2 h3 hu G2.out T3.out T4.out TW.out)
              rw [em.out, ee.out] at HM2
              rw [ee.out] at z1'
              (go_wp2_with fail) <;> (
              refine (HM2.out _ H2.out).mono ?_
              rintro e' w3 ⟨rfl, t2, h4, g4, b4, s4⟩
              have H4 := Lib.hid h4
              have M4 := Lib.hid (merged (t := rot s c m e) (by omega) (by omega) X.out Z0.out Z1.out s4 b4)
              have G4 := Lib.hid g4
              clear h4 g4 b4 s4
              (go_wp2_with fail) <;> (go_end0; exact ⟨rfl, t2, H4.out, G4.out, RB.out.trans M4.out.2, M4.out.1⟩))
            · have Z : Hid (Srt lt (rot s c m e) mid b) := Lib.hid (by
                by_cases q : e = mid
                · rw [← q]; exact T4.out
                · have q2 : e = b := by omega
                  rw [← q2]; exact T3.out)
              have M4 := Lib.hid (merged (t := rot s c m e) (t1 := rot s c m e) (t2 := rot s c m e) (by omega) (by omega) X.out Z0.out Z1.out Z.out (Sb.refl _ _ _))
              have hz' : ¬ (((a : Int) + b) / 2 < (((a : Int) + b) / 2 + m - c : Int) ∧ (((a : Int) + b) / 2 + m - c : Int) < b) := by omega
              by_cases hy : ((a : Int) + b) / 2 < (((a : Int) + b) / 2 + m - c : Int)
              · have hx : ¬ (((a : Int) + b) / 2 + m - c : Int) < b := by omega
                (go_wp2_with fail) <;> (go_end0; exact ⟨rfl, _, H2.out, G2.out, RB.out.trans M4.out.2, M4.out.1⟩)
              · (go_wp2_with fail) <;> (go_end0; exact ⟨rfl, _, H2.out, G2.out, RB.out.trans M4.out.2, M4.out.1⟩)
          · skip
            have T3 : Hid (Srt lt (rot s c m e) mid e) := Lib.hid (fun p q h1 h2 h3 => by rw [Z1.out.o p (by omega), Z1.out.o q (by omega)]; exact S3.out p q h1 h2 h3)
            have T4 : Hid (Srt lt (rot s c m e) e b) := Lib.hid (fun p q h1 h2 h3 => by rw [Z1.out.o p (by omega), Z1.out.o q (by omega)]; exact S4.out p q h1 h2 h3)
            have TW : Hid (Low (rot s c m e) mid e b) := Lib.hid (fun p q h1 h2 h3 h4 => by rw [Z1.out.o p (by omega), Z1.out.o q (by omega)]; exact W2.out p q h1 h2 h3 h4)
            by_cases hz : mid < e ∧ e < b
            · obtain ⟨z1, z2⟩ := hz
              have z1' : ((a : Int) + b) / 2 < (e : Int) := by omega
              have HM2 := Lib.hid (fun u hu => HM'.out (rot s c m e) mid e b u (by omega) z1 z2 h3 hu G2.out T3.out T4.out TW.out)
              rw [em.out, ee.out] at HM2
              rw [ee.out] at z1'
              (go_wp2_with fail) <;> (
              refine (HM2.out _ H2.out).mono ?_
              rintro e' w3 ⟨rfl, t2, h4, g4, b4, s4⟩
              have H4 := Lib.hid h4
              have M4 := Lib.hid (merged (t := rot s c m e) (by omega) (by omega) X.out Z0.out Z1.out s4 b4)
              have G4 := Lib.hid g4
              clear h4 g4 b4 s4
              (go_wp2_with fail) <;> (go_end0; exact ⟨rfl, t2, H4.out, G4.out, RB.out.trans M4.out.2, M4.out.1⟩))
            · have Z : Hid (Srt lt (rot s c m e) mid b) := Lib.hid (by
                by_cases q : e = mid
                · rw [← q]; exact T4.out
                · have q2 : e = b := by omega
                  rw [← q2]; exact T3.out)
              have M4 := Lib.hid (merged (t := rot s c m e) (t1 := rot s c m e) (t2 := rot s c m e) (by omega) (by omega) X.out Z0.out Z1.out Z.out (Sb.refl _ _ _))
              have hz' : ¬ (((a : Int) + b) / 2 < (((a : Int) + b) / 2 + m - c : Int) ∧ (((a : Int) + b) / 2 + m - c : Int) < b) := by omega
              by_cases hy : ((a : Int) + b) / 2 < (((a : Int) + b) / 2 + m - c : Int)
              · have hx : ¬ (((a : Int) + b) / 2 + m - c : Int) < b := by omega
                (go_wp2_with fail) <;> (go_end0; exact ⟨rfl, _, H2.out, G2.out, RB.out.trans M4.out.2, M4.out.1⟩)
              · (go_wp2_with fail) <;> (go_end0; exact ⟨rfl, _, H2.out, G2.out, RB.out.trans M4.out.2, M4.out.1⟩)
      · have RE : rot s c m e = s := by
          by_cases q : c = m
          · rw [q]; exact rot_done s
          · have q2 : e = m := by omega
            rw [q2]; exact rot_none s
        have H2 : Hid (St (rot s c m e) wr) := Lib.hid (by rw [RE]; exact H.out)
        have G2 : Hid (Gd n (rot s c m e)) := Lib.hid (by rw [RE]; exact Hg.out)
        clear RE H
        by_cases hv : c < m
        · have hv' : ¬ (m : Int) < ((a : Int) + b) / 2 + m - c := by omega
          by_cases hy : a < c ∧ c < mid
          · obtain ⟨y1, y2⟩ := hy
            have y2' : (c : Int) < ((a : Int) + b) / 2 := by omega
            have HM1 := Lib.hid (fun u hu => HM'.out (rot s c m e) a c mid u (by omega) y1 y2 (by omega) hu G2.out S1.out S2.out W1.out)
            rw [em.out] at HM1
            go_wp2_with fail
            refine (HM1.out _ H2.out).mono ?_
            rintro e' w2 ⟨rfl, t1, h3', g3, b3, s3⟩
            have H3 := Lib.hid h3'
            have G3 := Lib.hid g3
            have B3 := Lib.hid b3
            have S3' := Lib.hid s3
            clear h3' g3 b3 s3
            have T3 : Hid (Srt lt (t1) mid e) := Lib.hid (fun p q h1 h2 h3 => by rw [B3.out.o p (by omega), B3.out.o q (by omega)]; exact S3.out p q h1 h2 h3)
            have T4 : Hid (Srt lt (t1) e b) := Lib.hid (fun p q h1 h2 h3 => by rw [B3.out.o p (by omega), B3.out.o q (by omega)]; exact S4.out p q h1 h2 h3)
            have TW : Hid (Low (t1) mid e b) := Lib.hid (fun p q h1 h2 h3 h4 => by rw [B3.out.o p (by omega), B3.out.o q (by omega)]; exact W2.out p q h1 h2 h3 h4)
            by_cases hz : mid < e ∧ e < b
            · obtain ⟨z1, z2⟩ := hz
              have z1' : ((a : Int) + b) / 2 < (e : Int) := by omega
              have HM2 := Lib.hid (fun u hu => HM'.out (t1) mid e b u (by omega) z1 z2 h3 hu G3.out T3.out T4.out TW.out)
              rw [em.out, ee.out] at HM2
              rw [ee.out] at z1'
              (go_wp2_with fail) <;> (
              refine (HM2.out _ H3.out).mono ?_
              rintro e' w3 ⟨rfl, t2, h4, g4, b4, s4⟩
              have H4 := Lib.hid h4
              have M4 := Lib.hid (merged (t := rot s c m e) (by omega) (by omega) X.out S3'.out B3.out s4 b4)
              have G4 := Lib.hid g4
              clear h4 g4 b4 s4
              (go_wp2_with fail) <;> (go_end0; exact ⟨rfl, t2, H4.out, G4.out, RB.out.trans M4.out.2, M4.out.1⟩))
            · have Z : Hid (Srt lt (t1) mid b) := Lib.hid (by
                by_cases q : e = mid
                · rw [← q]; exact T4.out
                · have q2 : e = b := by omega
                  rw [← q2]; exact T3.out)
              have M4 := Lib.hid (merged (t := rot s c m e) (t1 := t1) (t2 := t1) (by omega) (by omega) X.out S3'.out B3.out Z.out (Sb.refl _ _ _))
              have hz' : ¬ (((a : Int) + b) / 2 < (((a : Int) + b) / 2 + m - c : Int) ∧ (((a : Int) + b) / 2 + m - c : Int) < b) := by omega
              by_cases hy : ((a : Int) + b) / 2 < (((a : Int) + b) / 2 + m - c : Int)
              · have hx : ¬ (((a : Int) + b) / 2 + m - c : Int) < b := by omega
                (go_wp2_with fail) <;> (go_end0; exact ⟨rfl, _, H3.out, G3.out, RB.out.trans M4.out.2, M4.out.1⟩)
              · (go_wp2_with fail) <;> (go_end0; exact ⟨rfl, _, H3.out, G3.out, RB.out.trans M4.out.2, M4.out.1⟩)
          · have Z0 : Hid (Srt lt (rot s c m e) a mid) := Lib.hid (by
              by_cases q : c = a
              · rw [← q]; exact S2.out
              · have q2 : c = mid := by omega
                rw [← q2]; exact S1.out)
            have Z1 : Hid (Sb (rot s c m e) (rot s c m e) a mid) := Lib.hid (Sb.refl _ _ _)
            have hy' : ¬ ((a : Int) < c ∧ (c : Int) < ((a : Int) + b) / 2) := by omega
            by_cases hx : a < c
            · have hx' : ¬ (c : Int) < ((a : Int) + b) / 2 := by omega
              have T3 : Hid (Srt lt (rot s c m e) mid e) := Lib.hid (fun p q h1 h2 h3 => by rw [Z1.out.o p (by omega), Z1.out.o q (by omega)]; exact S3.out p q h1 h2 h3)
              have T4 : Hid (Srt lt (rot s c m e) e b) := Lib.hid (fun p q h1 h2 h3 => by rw [Z1.out.o p (by omega), Z1.out.o q (by omega)]; exact S4.out p q h1 h2 h3)
              have TW : Hid (Low (rot s c m e) mid e b) := Lib.hid (fun p q h1 h2 h3 h4 => by rw [Z1.out.o p (by omega), Z1.out.o q (by omega)]; exact W2.out p q h1 h2 h3 h4)
              by_cases hz : mid < e ∧ e < b
              · obtain ⟨z1, z2⟩ := hz
                have z1' : ((a : Int) + b) / 2 < (e : Int) := by omega
                have HM2 := Lib.hid (fun u hu => HM'.out (rot s c m e) mid e b u (by omega) z1 z2 h3 hu G2.out T3.out T4.out TW.out)
                rw [em.out, ee.out] at HM2
                rw [ee.out] at z1'
                (go_wp2_with fail) <;> (
                refine (HM2.out _ H2.out).mono ?_
                rintro e' w3 ⟨rfl, t2, h4, g4, b4, s4⟩
                have H4 := Lib.hid h4
                have M4 := Lib.hid (merged (t := rot s c m e) (by omega) (by omega) X.out Z0.out Z1.out s4 b4)
                have G4 := Lib.hid g4
                clear h4 g4 b4 s4
                (go_wp2_with fail) <;> (go_end0; exact ⟨rfl, t2, H4.out, G4.out, RB.out.trans M4.out.2, M4.out.1⟩))
              · have Z : Hid (Srt lt (rot s c m e) mid b) := Lib.hid (by
                  by_cases q : e = mid
                  · rw [← q]; exact T4.out
                  · have q2 : e = b := by omega
                    rw [← q2]; exact T3.out)
                have M4 := Lib.hid (merged (t := rot s c m e) (t1 := rot s c m e) (t2 := rot s c m e) (by omega) (by omega) X.out Z0.out Z1.out Z.out (Sb.refl _ _ _))
                have hz' : ¬ (((a : Int) + b) / 2 < (((a : Int) + b) / 2 + m - c : Int) ∧ (((a : Int) + b) / 2 + m - c : Int) < b) := by omega
                by_cases hy : ((a : Int) + b) / 2 < (((a : Int) + b) / 2 + m - c : Int)
                · have hx : ¬ (((a : Int) + b) / 2 + m - c : Int) < b := by omega
                  (go_wp2_with fail) <;> (go_end0; exact ⟨rfl, _, H2.out, G2.out, RB.out.trans M4.out.2, M4.out.1⟩)
                · (go_wp2_with fail) <;> (go_end0; exact ⟨rfl, _, H2.out, G2.out, RB.out.trans M4.out.2, M4.out.1⟩)
            · skip
              have T3 : Hid (Srt lt (rot s c m e) mid e) := Lib.hid (fun p q h1 h2 h3 => by rw [Z1.out.o p (by omega), Z1.out.o q (by omega)]; exact S3.out p q h1 h2 h3)
              have T4 : Hid (Srt lt (rot s c m e) e b) := Lib.hid (fun p q h1 h2 h3 => by rw [Z1.out.o p (by omega), Z1.out.o q (by omega)]; exact S4.out p q h1 h2 h3)
              have TW : Hid (Low (rot s c m e) mid e b) := Lib.hid (fun p q h1 h2 h3 h4 => by rw [Z1.out.o p (by omega), Z1.out.o q (by omega)]; exact W2.out p q h1 h2 h3 h4)
              by_cases hz : mid < e ∧ e < b
              · obtain ⟨z1, z2⟩ := hz
                have z1' : ((a : Int) + b) / 2 < (e : Int) := by omega
                have HM2 := Lib.hid (fun u hu => HM'.out (rot s c m e) mid e b u (by omega) z1 z2 h3 hu G2.out T3.out T4.out TW.out)
                rw [em.out, ee.out] at HM2
                rw [ee.out] at z1'
                (go_wp2_with fail) <;> (
                refine (HM2.out _ H2.out).mono ?_
                rintro e' w3 ⟨rfl, t2, h4, g4, b4, s4⟩
                have H4 := Lib.hid h4
                have M4 := Lib.hid (merged (t := rot s c m e) (by omega) (by omega) X.out Z0.out Z1.out s4 b4)
                have G4 := Lib.hid g4
                clear h4 g4 b4 s4
                (go_wp2_with fail) <;> (go_end0; exact ⟨rfl, t2, H4.out, G4.out, RB.out.trans M4.out.2, M4.out.1⟩))
              · have Z : Hid (Srt lt (rot s c m e) mid b) := Lib.hid (by
                  by_cases q : e = mid
                  · rw [← q]; exact T4.out
                  · have q2 : e = b := by omega
                    rw [← q2]; exact T3.out)
                have M4 := Lib.hid (merged (t := rot s c m e) (t1 := rot s c m e) (t2 := rot s c m e) (by omega) (by omega) X.out Z0.out Z1.out Z.out (Sb.refl _ _ _))
                have hz' : ¬ (((a : Int) + b) / 2 < (((a : Int) + b) / 2 + m - c : Int) ∧ (((a : Int) + b) / 2 + m - c : Int) < b) := by omega
                by_cases hy : ((a : Int) + b) / 2 < (((a : Int) + b) / 2 + m - c : Int)
                · have hx : ¬ (((a : Int) + b) / 2 + m - c : Int) < b := by omega
                  (go_wp2_with fail) <;> (go_end0; exact ⟨rfl, _, H2.out, G2.out, RB.out.trans M4.out.2, M4.out.1⟩)
                · (go_wp2_with fail) <;> (go_end0; exact ⟨rfl, _, H2.out, G2.out, RB.out.trans M4.out.2, M4.out.1⟩)
        · skip
          by_cases hy : a < c ∧ c < mid
          · obtain ⟨y1, y2⟩ := hy
            have y2' : (c : Int) < ((a : Int) + b) / 2 := by omega
            have HM1 := Lib.hid (fun u hu => HM'.out (rot s c m e) a c mid u (by omega) y1 y2 (by omega) hu G2.out S1.out S2.out W1.out)
            rw [em.out] at HM1
            go_wp2_with fail
            refine (HM1.out _ H2.out).mono ?_
            rintro e' w2 ⟨rfl, t1, h3', g3, b3, s3⟩
            have H3 := Lib.hid h3'
            have G3 := Lib.hid g3
            have B3 := Lib.hid b3
            have S3' := Lib.hid s3
            clear h3' g3 b3 s3
            have T3 : Hid (Srt lt (t1) mid e) := Lib.hid (fun p q h1 h2 h3 => by rw [B3.out.o p (by omega), B3.out.o q (by omega)]; exact S3.out p q h1 h2 h3)
            have T4 : Hid (Srt lt (t1) e b) := Lib.hid (fun p q h1 h2 h3 => by rw [B3.out.o p (by omega), B3.out.o q (by omega)]; exact S4.out p q h1 h2 h3)
            have TW : Hid (Low (t1) mid e b) := Lib.hid (fun p q h1 h2 h3 h4 => by rw [B3.out.o p (by omega), B3.out.o q (by omega)]; exact W2.out p q h1 h2 h3 h4)
            by_cases hz : mid < e ∧ e < b
            · obtain ⟨z1, z2⟩ := hz
              have z1' : ((a : Int) + b) / 2 < (e : Int) := by omega
              have HM2 := Lib.hid (fun u hu => HM'.out (t1) mid e b u (by omega) z1 z2 h3 hu G3.out T3.out T4.out TW.out)
              rw [em.out, ee.out] at HM2
              rw [ee.out] at z1'
              (go_wp2_with fail) <;> (
              refine (HM2.out _ H3.out).mono ?_
              rintro e' w3 ⟨rfl, t2, h4, g4, b4, s4⟩
              have H4 := Lib.hid h4
              have M4 := Lib.hid (merged (t := rot s c m e) (by omega) (by omega) X.out S3'.out B3.out s4 b4)
              have G4 := Lib.hid g4
              clear h4 g4 b4 s4
              (go_wp2_with fail) <;> (go_end0; exact ⟨rfl, t2, H4.out, G4.out, RB.out.trans M4.out.2, M4.out.1⟩))
            · have Z : Hid (Srt lt (t1) mid b) := Lib.hid (by
                by_cases q : e = mid
                · rw [← q]; exact T4.out
                · have q2 : e = b := by omega
                  rw [← q2]; exact T3.out)
              have M4 := Lib.hid (merged (t := rot s c m e) (t1 := t1) (t2 := t1) (by omega) (by omega) X.out S3'.out B3.out Z.out (Sb.refl _ _ _))
              have hz' : ¬ (((a : Int) + b) / 2 < (((a : Int) + b) / 2 + m - c : Int) ∧ (((a : Int) + b) / 2 + m - c : Int) < b) := by omega
              by_cases hy : ((a : Int) + b) / 2 < (((a : Int) + b) / 2 + m - c : Int)
              · have hx : ¬ (((a : Int) + b) / 2 + m - c : Int) < b := by omega
                (go_wp2_with fail) <;> (go_end0; exact ⟨rfl, _, H3.out, G3.out, RB.out.trans M4.out.2, M4.out.1⟩)
              · (go_wp2_with fail) <;> (go_end0; exact ⟨rfl, _, H3.out, G3.out, RB.out.trans M4.out.2, M4.out.1⟩)
          · have Z0 : Hid (Srt lt (rot s c m e) a mid) := Lib.hid (by
              by_cases q : c = a
              · rw [← q]; exact S2.out
              · have q2 : c = mid := by omega
                rw [← q2]; exact S1.out)
            have Z1 : Hid (Sb (rot s c m e) (rot s c m e) a mid) := Lib.hid (Sb.refl _ _ _)
            have hy' : ¬ ((a : Int) < c ∧ (c : Int) < ((a : Int) + b) / 2) := by omega
            by_cases hx : a < c
            · have hx' : ¬ (c : Int) < ((a : Int) + b) / 2 := by omega
              have T3 : Hid (Srt lt (rot s c m e) mid e) := Lib.hid (fun p q h1 h2 h3 => by rw [Z1.out.o p (by omega), Z1.out.o q (by omega)]; exact S3.out p q h1 h2 h3)
              have T4 : Hid (Srt lt (rot s c m e) e b) := Lib.hid (fun p q h1 h2 h3 => by rw [Z1.out.o p (by omega), Z1.out.o q (by omega)]; exact S4.out p q h1 h2 h3)
              have TW : Hid (Low (rot s c m e) mid e b) := Lib.hid (fun p q h1 h2 h3 h4 => by rw [Z1.out.o p (by omega), Z1.out.o q (by omega)]; exact W2.out p q h1 h2 h3 h4)
              by_cases hz : mid < e ∧ e < b
              · obtain ⟨z1, z2⟩ := hz
                have z1' : ((a : Int) + b) / 2 < (e : Int) := by omega
                have HM2 := Lib.hid (fun u hu => HM'.out (rot s c m e) mid e b u (by omega) z1 z2 h3 hu G2.out T3.out T4.out TW.out)
                rw [em.out, ee.out] at HM2
                rw [ee.out] at z1'
                (go_wp2_with fail) <;> (
                refine (HM2.out _ H2.out).mono ?_
                rintro e' w3 ⟨rfl, t2, h4, g4, b4, s4⟩
                have H4 := Lib.hid h4
                have M4 := Lib.hid (merged (t := rot s c m e) (by omega) (by omega) X.out Z0.out Z1.out s4 b4)
                have G4 := Lib.hid g4
                clear h4 g4 b4 s4
                (go_wp2_with fail) <;> (go_end0; exact ⟨rfl, t2, H4.out, G4.out, RB.out.trans M4.out.2, M4.out.1⟩))
              · have Z : Hid (Srt lt (rot s c m e) mid b) := Lib.hid (by
                  by_cases q : e = mid
                  · rw [← q]; exact T4.out
                  · have q2 : e = b := by omega
                    rw [← q2]; exact T3.out)
                have M4 := Lib.hid (merged (t := rot s c m e) (t1 := rot s c m e) (t2 := rot s c m e) (by omega) (by omega) X.out Z0.out Z1.out Z.out (Sb.refl _ _ _))
                have hz' : ¬ (((a : Int) + b) / 2 < (((a : Int) + b) / 2 + m - c : Int) ∧ (((a : Int) + b) / 2 + m - c : Int) < b) := by omega
                by_cases hy : ((a : Int) + b) / 2 < (((a : Int) + b) / 2 + m - c : Int)
                · have hx : ¬ (((a : Int) + b) / 2 + m - c : Int) < b := by omega
                  (go_wp2_with fail) <;> (go_end0; exact ⟨rfl, _, H2.out, G2.out, RB.out.trans M4.out.2, M4.out.1⟩)
                · (go_wp2_with fail) <;> (go_end0; exact ⟨rfl, _, H2.out, G2.out, RB.out.trans M4.out.2, M4.out.1⟩)
            · skip
              have T3 : Hid (Srt lt (rot s c m e) mid e) := Lib.hid (fun p q h1 h2 h3 => by rw [Z1.out.o p (by omega), Z1.out.o q (by omega)]; exact S3.out p q h1 h2 h3)
              have T4 : Hid (Srt lt (rot s c m e) e b) := Lib.hid (fun p q h1 h2 h3 => by rw [Z1.out.o p (by omega), Z1.out.o q (by omega)]; exact S4.out p q h1 h2 h3)
              have TW : Hid (Low (rot s c m e) mid e b) := Lib.hid (fun p q h1 h2 h3 h4 => by rw [Z1.out.o p (by omega), Z1.out.o q (by omega)]; exact W2.out p q h1 h2 h3 h4)
              by_cases hz : mid < e ∧ e < b
              · obtain ⟨z1, z2⟩ := hz
                have z1' : ((a : Int) + b) / 2 < (e : Int) := by omega
                have HM2 := Lib.hid (fun u hu => HM'.out (rot s c m e) mid e b u (by omega) z1 z2 h3 hu G2.out T3.out T4.out TW.out)
                rw [em.out, ee.out] at HM2
                rw [ee.out] at z1'
                (go_wp2_with fail) <;> (
                refine (HM2.out _ H2.out).mono ?_
                rintro e' w3 ⟨rfl, t2, h4, g4, b4, s4⟩
                have H4 := Lib.hid h4
                have M4 := Lib.hid (merged (t := rot s c m e) (by omega) (by omega) X.out Z0.out Z1.out s4 b4)
                have G4 := Lib.hid g4
                clear h4 g4 b4 s4
                (go_wp2_with fail) <;> (go_end0; exact ⟨rfl, t2, H4.out, G4.out, RB.out.trans M4.out.2, M4.out.1⟩))
              · have Z : Hid (Srt lt (rot s c m e) mid b) := Lib.hid (by
                  by_cases q : e = mid
                  · rw [← q]; exact T4.out
                  · have q2 : e = b := by omega
                    rw [← q2]; exact T3.out)
                have M4 := Lib.hid (merged (t := rot s c m e) (t1 := rot s c m e) (t2 := rot s c m e) (by omega) (by omega) X.out Z0.out Z1.out Z.out (Sb.refl _ _ _))
                have hz' : ¬ (((a : Int) + b) / 2 < (((a : Int) + b) / 2 + m - c : Int) ∧ (((a : Int) + b) / 2 + m - c : Int) < b) := by omega
                by_cases hy : ((a : Int) + b) / 2 < (((a : Int) + b) / 2 + m - c : Int)
                · have hx : ¬ (((a : Int) + b) / 2 + m - c : Int) < b := by omega
                  (go_wp2_with fail) <;> (go_end0; exact ⟨rfl, _, H2.out, G2.out, RB.out.trans M4.out.2, M4.out.1⟩)
                · (go_wp2_with fail) <;> (go_end0; exact ⟨rfl, _, H2.out, G2.out, RB.out.trans M4.out.2, M4.out.1⟩)
set_option maxRecDepth 100000 in
set_option maxHeartbeats 4000000 in
theorem sort_sym4 (I : SI n lt T v fL fS St) (s : Nat → Nat) (a m b mid : Nat) (W : World) (q1 : 2 * mid ≤ a + b) (q2 : a + b ≤ 2 * mid + 1) (h0 : a + 1 < m) (h1 : m + 1 < b) (h3 : b ≤ n) (hm : m ≤ mid) (hs : St s W) (g : Gd n s) (L : Srt lt s a m) (R : Srt lt s m b) (lo : Low s a m b)
    (HM : ∀ (s : Nat → Nat) (a' m b' : Nat) (W : World), b' - a' < b - a → a' < m → m < b' → b' ≤ n → St s W → Gd n s → Srt lt s a' m → Srt lt s m b' → Low s a' m b' → Calls Try.prog 64 #[.iface T v, .int .i64 a', .int .i64 m, .int .i64 b'] W fun e w' => e = .returned (.tuple #[]) ∧ ∃ t, St t w' ∧ Gd n t ∧ Sb s t a' b' ∧ Srt lt t a' b') :
    Calls Try.prog 64 #[.iface T v, .int .i64 a, .int .i64 m, .int .i64 b] W fun e w' => e = .returned (.tuple #[]) ∧ ∃ t, St t w' ∧ Gd n t ∧ Sb s t a b ∧ Srt lt t a b := by
  have hn := I.bd
  have mL := I.mL
  have mS := I.mS
  have eL := I.eL
  have eS := I.eS
  have HL := Lib.hid I.L
  have HS := Lib.hid I.S
  have SW := Lib.hid I.sw
  have Hs := Lib.hid hs
  have Hg := Lib.hid g
  have HRo := Lib.hid (fun s a m b u h1 h2 h3 hs g => sort_rot I s a m b u h1 h2 h3 hs g)
  have HL' := Lib.hid L
  have HR' := Lib.hid R
  have HW := Lib.hid lo
  have HM' := Lib.hid HM
  have em := Lib.hid (show (mid : Int) = ((a : Int) + b) / 2 by omega)
  have d1 : ((m : Int) - (a : Int) == 1) = false := by rw [beq_eq_false_iff_ne]; omega
  have d2 : ((b : Int) - (m : Int) == 1) = false := by rw [beq_eq_false_iff_ne]; omega
  have d3 : ¬ ((a : Int) + b) / 2 < (m : Int) := by omega
  clear hs g I L R lo HM
  go_enter Try.func64, Try.ntmps64
  go_wp2_with fail
  clear d1 d2 d3
  go_loopw [18, 19] (fun cv rv wr => ∃ (c r : Nat), cv = .int .i64 c ∧ rv = .int .i64 r ∧ a ≤ c ∧ c ≤ r ∧ r ≤ m ∧ r ≤ mid ∧ mid + m ≤ c + b ∧ Hid (c = a ∨ c + b = mid + m ∨ Pr lt (s (c - 1)) (s (mid + m - c))) ∧ Hid (r = m ∨ r = mid ∨ Pr lt (s (mid + m - 1 - r)) (s r)) ∧ St s wr) (fun cv rv _ => (intOf rv).toNat - (intOf cv).toNat)
  case atStart => exact ⟨a, m, rfl, rfl, by omega, by omega, by omega, by omega, by omega, Lib.hid (.inl rfl), Lib.hid (.inl rfl), Hs.out⟩
  case round =>
    obtain ⟨c, r, rfl, rfl, ac, cr, rm, rmid, cb, A, B, h⟩ := hrel
    have H := Lib.hid h
    clear h
    by_cases hlt : c < r
    · have Q := Lib.hid (HW.out ((c + r) / 2) (mid + m - 1 - (c + r) / 2) (by omega) (by omega) (by omega) (by omega))
      have HL1 := Lib.hid (fun u hu => HL.out s (mid + m - 1 - (c + r) / 2) ((c + r) / 2) u (by omega) (by omega) hu)
      rw [show (((mid + m - 1 - (c + r) / 2) : Nat) : Int) = ((a : Int) + b) / 2 + m - 1 - ((c : Int) + r) / 2 by omega] at HL1
      rw [show ((((c + r) / 2) : Nat) : Int) = ((c : Int) + r) / 2 by omega] at HL1
      go_wp2_with fail
      refine (HL1.out _ H.out).mono ?_
      rintro e w1 ⟨rfl, h1⟩
      have H1 := Lib.hid h1
      clear h1
      cases hl : lt (s (mid + m - 1 - (c + r) / 2)) (s ((c + r) / 2))
      · go_wp2_with fail
        go_roundw
        case rel => exact ⟨(c + r) / 2 + 1, r, vi (by omega), rfl, by omega, by omega, by omega, by omega, by omega, Lib.hid (.inr (.inr (by rw [show (c + r) / 2 + 1 - 1 = (c + r) / 2 by omega, show mid + m - ((c + r) / 2 + 1) = mid + m - 1 - (c + r) / 2 by omega]; exact .up Q.out hl))), B, H1.out⟩
        case measure => simp [intOf]; omega
      · go_wp2_with fail
        go_roundw
        case rel => exact ⟨c, (c + r) / 2, rfl, vi (by omega), by omega, by omega, by omega, by omega, by omega, A, Lib.hid (.inr (.inr (.dn hl))), H1.out⟩
        case measure => simp [intOf]; omega
    · obtain rfl : c = r := by omega
      obtain ⟨e, he⟩ : ∃ e, e = mid + m - c := ⟨_, rfl⟩
      have ee := Lib.hid (show (e : Int) = ((a : Int) + b) / 2 + m - c by omega)
      have e1 : e + c ≤ mid + m := by omega
      have e2 : mid + m ≤ e + c := by omega
      have K : Cut a c m e b mid := ⟨by omega, by omega, by omega, by omega, by omega⟩
      have A' : Hid (c = a ∨ e = b ∨ Pr lt (s (c - 1)) (s e)) := Lib.hid (by
        rcases A.out with A | A | A
        · exact .inl A
        · exact .inr (.inl (by omega))
        · rw [← he] at A; exact .inr (.inr A))
      have B' : Hid (e = m ∨ c = m ∨ Pr lt (s (e - 1)) (s c)) := Lib.hid (by
        rcases B.out with B | B | B
        · exact .inr (.inl B)
        · exact .inl (by omega)
        · rw [show mid + m - 1 - c = e - 1 by omega] at B; exact .inr (.inr B))
      have X := Lib.hid (fun x y x1 x2 y1 y2 => rot_cross K SW.out HL'.out HR'.out A'.out B'.out (x := x) (y := y) x1 x2 y1 y2)
      have S1 := Lib.hid (rot_s1 K HL'.out)
      have S2 := Lib.hid (rot_s2 K HR'.out)
      have S3 := Lib.hid (rot_s3 K HL'.out)
      have S4 := Lib.hid (rot_s4 K HR'.out)
      have W1 := Lib.hid (rot_w1 K HW.out)
      have W2 := Lib.hid (rot_w2 K HW.out)
      have RB := Lib.hid ((rot_sb s (a := c) (m := m) (b := e) (by omega) (by omega)).mono (a' := a) (b' := b) (by omega) (by omega))
      clear A B A' B' HL' HR' HW he
      by_cases hr : c < m ∧ m < e
      · obtain ⟨r1, r2⟩ := hr
        have r2' : (m : Int) < ((a : Int) + b) / 2 + m - c := by omega
        have HR1 := Lib.hid (fun u hu => HRo.out s c m e u r1 r2 (by omega) hu Hg.out)
        rw [ee.out] at HR1
        go_wp2_with fail
        refine (HR1.out _ H.out).mono ?_
        rintro e' w1 ⟨rfl, h2', g2⟩
        have H2 := Lib.hid h2'
        have G2 := Lib.hid g2
        clear h2' g2 H
        by_cases hy : a < c ∧ c < mid
        · obtain ⟨y1, y2⟩ := hy
          have y2' : (c : Int) < ((a : Int) + b) / 2 := by omega
          have HM1 := Lib.hid (fun u hu => HM'.out (rot s c m e) a c mid u (by omega) y1 y2 (by omega) hu G2.out S1.out S2.out W1.out)
          rw [em.out] at HM1
          go_wp2_with fail
          refine (HM1.out _ H2.out).mono ?_
          rintro e' w2 ⟨rfl, t1, h3', g3, b3, s3⟩
          have H3 := Lib.hid h3'
          have G3 := Lib.hid g3
          have B3 := Lib.hid b3
          have S3' := Lib.hid s3
          clear h3' g3 b3 s3
          have T3 : Hid (Srt lt (t1) mid e) := Lib.hid (fun p q h1 h2 h3 => by rw [B3.out.o p (by omega), B3.out.o q (by omega)]; exact S3.out p q h1 h2 h3)
          have T4 : Hid (Srt lt (t1) e b) := Lib.hid (fun p q h1 h2 h3 => by rw [B3.out.o p (by omega), B3.out.o q (by omega)]; exact S4.out p q h1 h2 h3)
          have TW : Hid (Low (t1) mid e b) := Lib.hid (fun p q h1 h2 h3 h4 => by rw [B3.out.o p (by omega), B3.out.o q (by omega)]; exact W2.out p q h1 h2 h3 h4)
          by_cases hz : mid < e ∧ e < b
          · obtain ⟨z1, z2⟩ := hz
            have z1' : ((a : Int) + b) / 2 < (e : Int) := by omega
            have HM2 := Lib.hid (fun u hu => HM'.out (t1) mid e b u (by omega) z1 z2 h3 hu G3.out T3.out T4.out TW.out)
            rw [em.out, ee.out] at HM2
            rw [ee.out] at z1'
            (go_wp2_with fail) <;> (
            refine (HM2.out _ H3.out).mono ?_
            rintro e' w3 ⟨rfl, t2, h4, g4, b4, s4⟩
            have H4 := Lib.hid h4
            have M4 := Lib.hid (merged (t := rot s c m e) (by omega) (by omega) X.out S3'.out B3.out s4 b4)
            have G4 := Lib.hid g4
            clear h4 g4 b4 s4
            (go_wp2_with fail) <;> (go_end0; exact ⟨rfl, t2, H4.out, G4.out, RB.out.trans M4.out.2, M4.out.1⟩))
          · have Z : Hid (Srt lt (t1) mid b) := Lib.hid (by
              by_cases q : e = mid
              · rw [← q]; exact T4.out
              · have q2 : e = b := by omega
                rw [← q2]; exact T3.out)
            have M4 := Lib.hid (merged (t := rot s c m e) (t1 := t1) (t2 := t1) (by omega) (by omega) X.out S3'.out B3.out Z.out (Sb.refl _ _ _))
            have hz' : ¬ (((a : Int) + b) / 2 < (((a : Int) + b) / 2 + m - c : Int) ∧ (((a : Int) + b) / 2 + m - c : Int) < b) := by omega
            by_cases hy : ((a : Int) + b) / 2 < (((a : Int) + b) / 2 + m - c : Int)
            · have hx : ¬ (((a : Int) + b) / 2 + m - c : Int) < b := by omega
              (go_wp2_with fail) <;> (go_end0; exact ⟨rfl, _, H3.out, G3.out, RB.out.trans M4.out.2, M4.out.1⟩)
            · (go_wp2_with fail) <;> (go_end0; exact ⟨rfl, _, H3.out, G3.out, RB.out.trans M4.out.2, M4.out.1⟩)
        · have Z0 : Hid (Srt lt (rot s c m e) a mid) := Lib.hid (by
            by_cases q : c = a
            · rw [← q]; exact S2.out
            · have q2 : c = mid := by omega
              rw [← q2]; exact S1.out)
          have Z1 : Hid (Sb (rot s c m e) (rot s c m e) a mid) := Lib.hid (Sb.refl _ _ _)
          have hy' : ¬ ((a : Int) < c ∧ (c : Int) < ((a : Int) + b) / 2) := by omega
          by_cases hx : a < c
          · have hx' : ¬ (c : Int) < ((a : Int) + b) / 2 := by omega
            have T3 : Hid (Srt lt (rot s c m e) mid e) := Lib.hid (fun p q h1 h2 h3 => by rw [Z1.out.o p (by omega), Z1.out.o q (by omega)]; exact S3.out p q h1 h2 h3)
            have T4 : Hid (Srt lt (rot s c m e) e b) := Lib.hid (fun p q h1 h2 h3 => by rw [Z1.out.o p (by omega), Z1.out.o q (by omega)]; exact S4.out p q h1 h2 h3)
            have TW : Hid (Low (rot s c m e) mid e b) := Lib.hid (fun p q h1 h2 h3 h4 => by rw [Z1.out.o p (by omega), Z1.out.o q (by omega)]; exact W2.out p q h1 h2 h3 h4)
            by_cases hz : mid < e ∧ e < b
            · obtain ⟨z1, z2⟩ := hz
              have z1' : ((a : Int) + b) / 2 < (e : Int) := by omega
              have HM2 := Lib.hid (fun u hu => HM'.out (rot s c m e) mid e b u (by omega) z1 z2 h3 hu G2.out T3.out T4.out TW.out)
              rw [em.out, ee.out] at HM2
              rw [ee.out] at z1'
              (go_wp2_with fail) <;> (
              refine (HM2.out _ H2.out).mono ?_
              rintro e' w3 ⟨rfl, t2, h4, g4, b4, s4⟩
              have H4 := Lib.hid h4
              have M4 := Lib.hid (merged (t := rot s c m e) (by omega) (by omega) X.out Z0.out Z1.out s4 b4)
              have G4 := Lib.hid g4
              clear h4 g4 b4 s4
              (go_wp2_with fail) <;> (go_end0; exact ⟨rfl, t2, H4.out, G4.out, RB.out.trans M4.out.2, M4.out.1⟩))
            · have Z : Hid (Srt lt (rot s c m e) mid b) := Lib.hid (by
                by_cases q : e = mid
                · rw [← q]; exact T4.out
                · have q2 : e = b := by omega
                  rw [← q2]; exact T3.out)
              have M4 := Lib.hid (merged (t := rot s c m e) (t1 := rot s c m e) (t2 := rot s c m e) (by omega) (by omega) X.out Z0.out Z1.out Z.out (Sb.refl _ _ _))
              have hz' : ¬ (((a : Int) + b) / 2 < (((a : Int) + b) / 2 + m - c : Int) ∧ (((a : Int) + b) / 2 + m - c : Int) < b) := by omega
              by_cases hy : ((a : Int) + b) / 2 < (((a : Int) + b) / 2 + m - c : Int)
              · have hx : ¬ (((a : Int) + b) / 2 + m - c : Int) < b := by omega
                (go_wp2_with fail) <;> (go_end0; exact ⟨rfl, _, H2.out, G2.out, RB.out.trans M4.out.2, M4.out.1⟩)
              · (go_wp2_with fail) <;> (go_end0; exact ⟨rfl, _, H2.out, G2.out, RB.out.trans M4.out.2, M4.out.1⟩)
          · skip
            have T3 : Hid (Srt lt (rot s c m e) mid e) := Lib.hid (fun p q h1 h2 h3 => by rw [Z1.out.o p (by omega), Z1.out.o q (by omega)]; exact S3.out p q h1 h2 h3)
            have T4 : Hid (Srt lt (rot s c m e) e b) := Lib.hid (fun p q h1 h2 h3 => by rw [Z1.out.o p (by omega), Z1.out.o q (by omega)]; exact S4.out p q h1 h2 h3)
            have TW : Hid (Low (rot s c m e) mid e b) := Lib.hid (fun p q h1 h2 h3 h4 => by rw [Z1.out.o p (by omega), Z1.out.o q (by omega)]; exact W2.out p q h1 h2 h3 h4)
            by_cases hz : mid < e ∧ e < b
            · obtain ⟨z1, z2⟩ := hz
              have z1' : ((a : Int) + b) / 2 < (e : Int) := by omega
              have HM2 := Lib.hid (fun u hu => HM'.out (rot s c m e) mid e b u (by omega) z1 z2 h3 hu G2.out T3.out T4.out TW.out)
              rw [em.out, ee.out] at HM2
              rw [ee.out] at z1'
              (go_wp2_with fail) <;> (
              refine (HM2.out _ H2.out).mono ?_
              rintro e' w3 ⟨rfl, t2, h4, g4, b4, s4⟩
              have H4 := Lib.hid h4
              have M4 := Lib.hid (merged (t := rot s c m e) (by omega) (by omega) X.out Z0.out Z1.out s4 b4)
              have G4 := Lib.hid g4
              clear h4 g4 b4 s4
              (go_wp2_with fail) <;> (go_end0; exact ⟨rfl, t2, H4.out, G4.out, RB.out.trans M4.out.2, M4.out.1⟩))
            · have Z : Hid (Srt lt (rot s c m e) mid b) := Lib.hid (by
                by_cases q : e = mid
                · rw [← q]; exact T4.out
                · have q2 : e = b := by omega
                  rw [← q2]; exact T3.out)
              have M4 := Lib.hid (merged (t := rot s c m e) (t1 := rot s c m e) (t2 := rot s c m e) (by omega) (by omega) X.out Z0.out Z1.out Z.out (Sb.refl _ _ _))
              have hz' : ¬ (((a : Int) + b) / 2 < (((a : Int) + b) / 2 + m - c : Int) ∧ (((a : Int) + b) / 2 + m - c : Int) < b) := by omega
              by_cases hy : ((a : Int) + b) / 2 < (((a : Int) + b) / 2 + m - c : Int)
              · have hx : ¬ (((a : Int) + b) / 2 + m - c : Int) < b := by omega
                (go_wp2_with fail) <;> (go_end0; exact ⟨rfl, _, H2.out, G2.out, RB.out.trans M4.out.2, M4.out.1⟩)
              · (go_wp2_with fail) <;> (go_end0; exact ⟨rfl, _, H2.out, G2.out, RB.out.trans M4.out.2, M4.out.1⟩)
      · have RE : rot s c m e = s := by
          by_cases q : c = m
          · rw [q]; exact rot_done s
          · have q2 : e = m := by omega
            rw [q2]; exact rot_none s
        have H2 : Hid (St (rot s c m e) wr) := Lib.hid (by rw [RE]; exact H.out)
        have G2 : Hid (Gd n (rot s c m e)) := Lib.hid (by rw [RE]; exact Hg.out)
        clear RE H
        by_cases hv : c < m
        · have hv' : ¬ (m : Int) < ((a : Int) + b) / 2 + m - c := by omega
          by_cases hy : a < c ∧ c < mid
          · obtain ⟨y1, y2⟩ := hy
            have y2' : (c : Int) < ((a : Int) + b) / 2 := by omega
            have HM1 := Lib.hid (fun u hu => HM'.out (rot s c m e) a c mid u (by omega) y1 y2 (by omega) hu G2.out S1.out S2.out W1.out)
            rw [em.out] at HM1
            go_wp2_with fail
            refine (HM1.out _ H2.out).mono ?_
            rintro e' w2 ⟨rfl, t1, h3', g3, b3, s3⟩
            have H3 := Lib.hid h3'
            have G3 := Lib.hid g3
            have B3 := Lib.hid b3
            have S3' := Lib.hid s3
            clear h3' g3 b3 s3
            have T3 : Hid (Srt lt (t1) mid e) := Lib.hid (fun p q h1 h2 h3 => by rw [B3.out.o p (by omega), B3.out.o q (by omega)]; exact S3.out p q h1 h2 h3)
            have T4 : Hid (Srt lt (t1) e b) := Lib.hid (fun p q h1 h2 h3 => by rw [B3.out.o p (by omega), B3.out.o q (by omega)]; exact S4.out p q h1 h2 h3)
            have TW : Hid (Low (t1) mid e b) := Lib.hid (fun p q h1 h2 h3 h4 => by rw [B3.out.o p (by omega), B3.out.o q (by omega)]; exact W2.out p q h1 h2 h3 h4)
            by_cases hz : mid < e ∧ e < b
            · obtain ⟨z1, z2⟩ := hz
              have z1' : ((a : Int) + b) / 2 < (e : Int) := by omega
              have HM2 := Lib.hid (fun u hu => HM'.out (t1) mid e b u (by omega) z1 z2 h3 hu G3.out T3.out T4.out TW.out)
              rw [em.out, ee.out] at HM2
              rw [ee.out] at z1'
              (go_wp2_with fail) <;> (
              refine (HM2.out _ H3.out).mono ?_
              rintro e' w3 ⟨rfl, t2, h4, g4, b4, s4⟩
              have H4 := Lib.hid h4
              have M4 := Lib.hid (merged (t := rot s c m e) (by omega) (by omega) X.out S3'.out B3.out s4 b4)
              have G4 := Lib.hid g4
              clear h4 g4 b4 s4
              (go_wp2_with fail) <;> (go_end0; exact ⟨rfl, t2, H4.out, G4.out, RB.out.trans M4.out.2, M4.out.1⟩))
            · have Z : Hid (Srt lt (t1) mid b) := Lib.hid (by
                by_cases q : e = mid
                · rw [← q]; exact T4.out
                · have q2 : e = b := by omega
                  rw [← q2]; exact T3.out)
              have M4 := Lib.hid (merged (t := rot s c m e) (t1 := t1) (t2 := t1) (by omega) (by omega) X.out S3'.out B3.out Z.out (Sb.refl _ _ _))
              have hz' : ¬ (((a : Int) + b) / 2 < (((a : Int) + b) / 2 + m - c : Int) ∧ (((a : Int) + b) / 2 + m - c : Int) < b) := by omega
              by_cases hy : ((a : Int) + b) / 2 < (((a : Int) + b) / 2 + m - c : Int)
              · have hx : ¬ (((a : Int) + b) / 2 + m - c : Int) < b := by omega
                (go_wp2_with fail) <;> (go_end0; exact ⟨rfl, _, H3.out, G3.out, RB.out.trans M4.out.2, M4.out.1⟩)
              · (go_wp2_with fail) <;> (go_end0; exact ⟨rfl, _, H3.out, G3.out, RB.out.trans M4.out.2, M4.out.1⟩)
          · have Z0 : Hid (Srt lt (rot s c m e) a mid) := Lib.hid (by
              by_cases q : c = a
              · rw [← q]; exact S2.out
              · have q2 : c = mid := by omega
                rw [← q2]; exact S1.out)
            have Z1 : Hid (Sb (rot s c m e) (rot s c m e) a mid) := Lib.hid (Sb.refl _ _ _)
            have hy' : ¬ ((a : Int) < c ∧ (c : Int) < ((a : Int) + b) / 2) := by omega
            by_cases hx : a < c
            · have hx' : ¬ (c : Int) < ((a : Int) + b) / 2 := by omega
              have T3 : Hid (Srt lt (rot s c m e) mid e) := Lib.hid (fun p q h1 h2 h3 => by rw [Z1.out.o p (by omega), Z1.out.o q (by omega)]; exact S3.out p q h1 h2 h3)
              have T4 : Hid (Srt lt (rot s c m e) e b) := Lib.hid (fun p q h1 h2 h3 => by rw [Z1.out.o p (by omega), Z1.out.o q (by omega)]; exact S4.out p q h1 h2 h3)
              have TW : Hid (Low (rot s c m e) mid e b) := Lib.hid (fun p q h1 h2 h3 h4 => by rw [Z1.out.o p (by omega), Z1.out.o q (by omega)]; exact W2.out p q h1 h2 h3 h4)
              by_cases hz : mid < e ∧ e < b
              · obtain ⟨z1, z2⟩ := hz
                have z1' : ((a : Int) + b) / 2 < (e : Int) := by omega
                have HM2 := Lib.hid (fun u hu => HM'.out (rot s c m e) mid e b u (by omega) z1 z2 h3 hu G2.out T3.out T4.out TW.out)
                rw [em.out, ee.out] at HM2
                rw [ee.out] at z1'
                (go_wp2_with fail) <;> (
                refine (HM2.out _ H2.out).mono ?_
                rintro e' w3 ⟨rfl, t2, h4, g4, b4, s4⟩
                have H4 := Lib.hid h4
                have M4 := Lib.hid (merged (t := rot s c m e) (by omega) (by omega) X.out Z0.out Z1.out s4 b4)
                have G4 := Lib.hid g4
                clear h4 g4 b4 s4
                (go_wp2_with fail) <;> (go_end0; exact ⟨rfl, t2, H4.out, G4.out, RB.out.trans M4.out.2, M4.out.1⟩))
              · have Z : Hid (Srt lt (rot s c m e) mid b) := Lib.hid (by
                  by_cases q : e = mid
                  · rw [← q]; exact T4.out
                  · have q2 : e = b := by omega
                    rw [← q2]; exact T3.out)
                have M4 := Lib.hid (merged (t := rot s c m e) (t1 := rot s c m e) (t2 := rot s c m e) (by omega) (by omega) X.out Z0.out Z1.out Z.out (Sb.refl _ _ _))
                have hz' : ¬ (((a : Int) + b) / 2 < (((a : Int) + b) / 2 + m - c : Int) ∧ (((a : Int) + b) / 2 + m - c : Int) < b) := by omega
                by_cases hy : ((a : Int) + b) / 2 < (((a : Int) + b) / 2 + m - c : Int)
                · have hx : ¬ (((a : Int) + b) / 2 + m - c : Int) < b := by omega
                  (go_wp2_with fail) <;> (go_end0; exact ⟨rfl, _, H2.out, G2.out, RB.out.trans M4.out.2, M4.out.1⟩)
                · (go_wp2_with fail) <;> (go_end0; exact ⟨rfl, _, H2.out, G2.out, RB.out.trans M4.out.2, M4.out.1⟩)
            · skip
              have T3 : Hid (Srt lt (rot s c m e) mid e) := Lib.hid (fun p q h1 h2 h3 => by rw [Z1.out.o p (by omega), Z1.out.o q (by omega)]; exact S3.out p q h1 h2 h3)
              have T4 : Hid (Srt lt (rot s c m e) e b) := Lib.hid (fun p q h1 h2 h3 => by rw [Z1.out.o p (by omega), Z1.out.o q (by omega)]; exact S4.out p q h1 h2 h3)
              have TW : Hid (Low (rot s c m e) mid e b) := Lib.hid (fun p q h1 h2 h3 h4 => by rw [Z1.out.o p (by omega), Z1.out.o q (by omega)]; exact W2.out p q h1 h2 h3 h4)
              by_cases hz : mid < e ∧ e < b
              · obtain ⟨z1, z2⟩ := hz
                have z1' : ((a : Int) + b) / 2 < (e : Int) := by omega
                have HM2 := Lib.hid (fun u hu => HM'.out (rot s c m e) mid e b u (by omega) z1 z2 h3 hu G2.out T3.out T4.out TW.out)
                rw [em.out, ee.out] at HM2
                rw [ee.out] at z1'
                (go_wp2_with fail) <;> (
                refine (HM2.out _ H2.out).mono ?_
                rintro e' w3 ⟨rfl, t2, h4, g4, b4, s4⟩
                have H4 := Lib.hid h4
                have M4 := Lib.hid (merged (t := rot s c m e) (by omega) (by omega) X.out Z0.out Z1.out s4 b4)
                have G4 := Lib.hid g4
                clear h4 g4 b4 s4
                (go_wp2_with fail) <;> (go_end0; exact ⟨rfl, t2, H4.out, G4.out, RB.out.trans M4.out.2, M4.out.1⟩))
              · have Z : Hid (Srt lt (rot s c m e) mid b) := Lib.hid (by
                  by_cases q : e = mid
                  · rw [← q]; exact T4.out
                  · have q2 : e = b := by omega
                    rw [← q2]; exact T3.out)
                have M4 := Lib.hid (merged (t := rot s c m e) (t1 := rot s c m e) (t2 := rot s c m e) (by omega) (by omega) X.out Z0.out Z1.out Z.out (Sb.refl _ _ _))
                have hz' : ¬ (((a : Int) + b) / 2 < (((a : Int) + b) / 2 + m - c : Int) ∧ (((a : Int) + b) / 2 + m - c : Int) < b) := by omega
                by_cases hy : ((a : Int) + b) / 2 < (((a : Int) + b) / 2 + m - c : Int)
                · have hx : ¬ (((a : Int) + b) / 2 + m - c : Int) < b := by omega
                  (go_wp2_with fail) <;> (go_end0; exact ⟨rfl, _, H2.out, G2.out, RB.out.trans M4.out.2, M4.out.1⟩)
                · (go_wp2_with fail) <;> (go_end0; exact ⟨rfl, _, H2.out, G2.out, RB.out.trans M4.out.2, M4.out.1⟩)
        · skip
          by_cases hy : a < c ∧ c < mid
          · obtain ⟨y1, y2⟩ := hy
            have y2' : (c : Int) < ((a : Int) + b) / 2 := by omega
            have HM1 := Lib.hid (fun u hu => HM'.out (rot s c m e) a c mid u (by omega) y1 y2 (by omega) hu G2.out S1.out S2.out W1.out)
            rw [em.out] at HM1
            go_wp2_with fail
            refine (HM1.out _ H2.out).mono ?_
            rintro e' w2 ⟨rfl, t1, h3', g3, b3, s3⟩
            have H3 := Lib.hid h3'
            have G3 := Lib.hid g3
            have B3 := Lib.hid b3
            have S3' := Lib.hid s3
            clear h3' g3 b3 s3
            have T3 : Hid (Srt lt (t1) mid e) := Lib.hid (fun p q h1 h2 h3 => by rw [B3.out.o p (by omega), B3.out.o q (by omega)]; exact S3.out p q h1 h2 h3)
            have T4 : Hid (Srt lt (t1) e b) := Lib.hid (fun p q h1 h2 h3 => by rw [B3.out.o p (by omega), B3.out.o q (by omega)]; exact S4.out p q h1 h2 h3)
            have TW : Hid (Low (t1) mid e b) := Lib.hid (fun p q h1 h2 h3 h4 => by rw [B3.out.o p (by omega), B3.out.o q (by omega)]; exact W2.out p q h1 h2 h3 h4)
            by_cases hz : mid < e ∧ e < b
            · obtain ⟨z1, z2⟩ := hz
              have z1' : ((a : Int) + b) / 2 < (e : Int) := by omega
              have HM2 := Lib.hid (fun u hu => HM'.out (t1) mid e b u (by omega) z1 z2 h3 hu G3.out T3.out T4.out TW.out)
              rw [em.out, ee.out] at HM2
              rw [ee.out] at z1'
              (go_wp2_with fail) <;> (
              refine (HM2.out _ H3.out).mono ?_
              rintro e' w3 ⟨rfl, t2, h4, g4, b4, s4⟩
              have H4 := Lib.hid h4
              have M4 := Lib.hid (merged (t := rot s c m e) (by omega) (by omega) X.out S3'.out B3.out s4 b4)
              have G4 := Lib.hid g4
              clear h4 g4 b4 s4
              (go_wp2_with fail) <;> (go_end0; exact ⟨rfl, t2, H4.out, G4.out, RB.out.trans M4.out.2, M4.out.1⟩))
            · have Z : Hid (Srt lt (t1) mid b) := Lib.hid (by
                by_cases q : e = mid
                · rw [← q]; exact T4.out
                · have q2 : e = b := by omega
                  rw [← q2]; exact T3.out)
              have M4 := Lib.hid (merged (t := rot s c m e) (t1 := t1) (t2 := t1) (by omega) (by omega) X.out S3'.out B3.out Z.out (Sb.refl _ _ _))
              have hz' : ¬ (((a : Int) + b) / 2 < (((a : Int) + b) / 2 + m - c : Int) ∧ (((a : Int) + b) / 2 + m - c : Int) < b) := by omega
              by_cases hy : ((a : Int) + b) / 2 < (((a : Int) + b) / 2 + m - c : Int)
              · have hx : ¬ (((a : Int) + b) / 2 + m - c : Int) < b := by omega
                (go_wp2_with fail) <;> (go_end0; exact ⟨rfl, _, H3.out, G3.out, RB.out.trans M4.out.2, M4.out.1⟩)
              · (go_wp2_with fail) <;> (go_end0; exact ⟨rfl, _, H3.out, G3.out, RB.out.trans M4.out.2, M4.out.1⟩)
          · have Z0 : Hid (Srt lt (rot s c m e) a mid) := Lib.hid (by
              by_cases q : c = a
              · rw [← q]; exact S2.out
              · have q2 : c = mid := by omega
                rw [← q2]; exact S1.out)
            have Z1 : Hid (Sb (rot s c m e) (rot s c m e) a mid) := Lib.hid (Sb.refl _ _ _)
            have hy' : ¬ ((a : Int) < c ∧ (c : Int) < ((a : Int) + b) / 2) := by omega
            by_cases hx : a < c
            · have hx' : ¬ (c : Int) < ((a : Int) + b) / 2 := by omega
              have T3 : Hid (Srt lt (rot s c m e) mid e) := Lib.hid (fun p q h1 h2 h3 => by rw [Z1.out.o p (by omega), Z1.out.o q (by omega)]; exact S3.out p q h1 h2 h3)
              have T4 : Hid (Srt lt (rot s c m e) e b) := Lib.hid (fun p q h1 h2 h3 => by rw [Z1.out.o p (by omega), Z1.out.o q (by omega)]; exact S4.out p q h1 h2 h3)
              have TW : Hid (Low (rot s c m e) mid e b) := Lib.hid (fun p q h1 h2 h3 h4 => by rw [Z1.out.o p (by omega), Z1.out.o q (by omega)]; exact W2.out p q h1 h2 h3 h4)
              by_cases hz : mid < e ∧ e < b
              · obtain ⟨z1, z2⟩ := hz
                have z1' : ((a : Int) + b) / 2 < (e : Int) := by omega
                have HM2 := Lib.hid (fun u hu => HM'.out (rot s c m e) mid e b u (by omega) z1 z2 h3 hu G2.out T3.out T4.out TW.out)
                rw [em.out, ee.out] at HM2
                rw [ee.out] at z1'
                (go_wp2_with fail) <;> (
                refine (HM2.out _ H2.out).mono ?_
                rintro e' w3 ⟨rfl, t2, h4, g4, b4, s4⟩
                have H4 := Lib.hid h4
                have M4 := Lib.hid (merged (t := rot s c m e) (by omega) (by omega) X.out Z0.out Z1.out s4 b4)
                have G4 := Lib.hid g4
                clear h4 g4 b4 s4
                (go_wp2_with fail) <;> (go_end0; exact ⟨rfl, t2, H4.out, G4.out, RB.out.trans M4.out.2, M4.out.1⟩))
              · have Z : Hid (Srt lt (rot s c m e) mid b) := Lib.hid (by
                  by_cases q : e = mid
                  · rw [← q]; exact T4.out
                  · have q2 : e = b := by omega
                    rw [← q2]; exact T3.out)
                have M4 := Lib.hid (merged (t := rot s c m e) (t1 := rot s c m e) (t2 := rot s c m e) (by omega) (by omega) X.out Z0.out Z1.out Z.out (Sb.refl _ _ _))
                have hz' : ¬ (((a : Int) + b) / 2 < (((a : Int) + b) / 2 + m - c : Int) ∧ (((a : Int) + b) / 2 + m - c : Int) < b) := by omega
                by_cases hy : ((a : Int) + b) / 2 < (((a : Int) + b) / 2 + m - c : Int)
                · have hx : ¬ (((a : Int) + b) / 2 + m - c : Int) < b := by omega
                  (go_wp2_with fail) <;> (go_end0; exact ⟨rfl, _, H2.out, G2.out, RB.out.trans M4.out.2, M4.out.1⟩)
                · (go_wp2_with fail) <;> (go_end0; exact ⟨rfl, _, H2.out, G2.out, RB.out.trans M4.out.2, M4.out.1⟩)
            · skip
              have T3 : Hid (Srt lt (rot s c m e) mid e) := Lib.hid (fun p q h1 h2 h3 => by rw [Z1.out.o p (by omega), Z1.out.o q (by omega)]; exact S3.out p q h1 h2 h3)
              have T4 : Hid (Srt lt (rot s c m e) e b) := Lib.hid (fun p q h1 h2 h3 => by rw [Z1.out.o p (by omega), Z1.out.o q (by omega)]; exact S4.out p q h1 h2 h3)
              have TW : Hid (Low (rot s c m e) mid e b) := Lib.hid (fun p q h1 h2 h3 h4 => by rw [Z1.out.o p (by omega), Z1.out.o q (by omega)]; exact W2.out p q h1 h2 h3 h4)
              by_cases hz : mid < e ∧ e < b
              · obtain ⟨z1, z2⟩ := hz
                have z1' : ((a : Int) + b) / 2 < (e : Int) := by omega
                have HM2 := Lib.hid (fun u hu => HM'.out (rot s c m e) mid e b u (by omega) z1 z2 h3 hu G2.out T3.out T4.out TW.out)
                rw [em.out, ee.out] at HM2
                rw [ee.out] at z1'
                (go_wp2_with fail) <;> (
                refine (HM2.out _ H2.out).mono ?_
                rintro e' w3 ⟨rfl, t2, h4, g4, b4, s4⟩
                have H4 := Lib.hid h4
                have M4 := Lib.hid (merged (t := rot s c m e) (by omega) (by omega) X.out Z0.out Z1.out s4 b4)
                have G4 := Lib.hid g4
                clear h4 g4 b4 s4
                (go_wp2_with fail) <;> (go_end0; exact ⟨rfl, t2, H4.out, G4.out, RB.out.trans M4.out.2, M4.out.1⟩))
              · have Z : Hid (Srt lt (rot s c m e) mid b) := Lib.hid (by
                  by_cases q : e = mid
                  · rw [← q]; exact T4.out
                  · have q2 : e = b := by omega
                    rw [← q2]; exact T3.out)
                have M4 := Lib.hid (merged (t := rot s c m e) (t1 := rot s c m e) (t2 := rot s c m e) (by omega) (by omega) X.out Z0.out Z1.out Z.out (Sb.refl _ _ _))
                have hz' : ¬ (((a : Int) + b) / 2 < (((a : Int) + b) / 2 + m - c : Int) ∧ (((a : Int) + b) / 2 + m - c : Int) < b) := by omega
                by_cases hy : ((a : Int) + b) / 2 < (((a : Int) + b) / 2 + m - c : Int)
                · have hx : ¬ (((a : Int) + b) / 2 + m - c : Int) < b := by omega
                  (go_wp2_with fail) <;> (go_end0; exact ⟨rfl, _, H2.out, G2.out, RB.out.trans M4.out.2, M4.out.1⟩)
                · (go_wp2_with fail) <;> (go_end0; exact ⟨rfl, _, H2.out, G2.out, RB.out.trans M4.out.2, M4.out.1⟩)
end
end Go.Proofs.Ytnofmlkjagdklaa

namespace Go.Proofs.Ytnofmlkjagdklaa
open Go.RowKit
section
variable {n : Nat} {lt : Nat → Nat → Bool} {T : TypeId} {v : Value} {fL fS : FuncId} {St : (Nat → Nat) → World → Prop}
theorem sort_sym (I : SI n lt T v fL fS St) : ∀ (N : Nat) (s : Nat → Nat) (a m b : Nat) (W : World), b - a ≤ N → a < m → m < b → b ≤ n → St s W → Gd n s → Srt lt s a m → Srt lt s m b → Low s a m b →
    Calls Try.prog 64 #[.iface T v, .int .i64 a, .int .i64 m, .int .i64 b] W fun e w' => e = .returned (.tuple #[]) ∧ ∃ t, St t w' ∧ Gd n t ∧ Sb s t a b ∧ Srt lt t a b := by
  intro N
  induction N with
  | zero => intro s a m b W h0 h1 h2; omega
  | succ N ih =>
    intro s a m b W h0 h1 h2 h3 hs g L R lo
    by_cases e1 : m = a + 1
    · exact sort_sym1 I s a m b W e1 h2 h3 hs g R lo
    · by_cases e2 : b = m + 1
      · exact sort_sym2 I s a m b W (by omega) e2 h3 hs g L lo
      · have HM := fun (s : Nat → Nat) (a' m b' : Nat) (W : World) (hl : b' - a' < b - a) => ih s a' m b' W (by omega)
        by_cases e3 : (a + b) / 2 < m
        · exact sort_sym3 I s a m b ((a + b) / 2) W (by omega) (by omega) (by omega) (by omega) h3 e3 hs g L R lo HM
        · exact sort_sym4 I s a m b ((a + b) / 2) W (by omega) (by omega) (by omega) (by omega) h3 (by omega) hs g L R lo HM
set_option maxRecDepth 100000 in
set_option maxHeartbeats 1000000 in
theorem sort_stable (I : SI n lt T v fL fS St) (W : World) (hs : St (fun i => i) W) :
    Calls Try.prog 51 #[.iface T v, .int .i64 n] W fun e w' => e = .returned (.tuple #[]) ∧ ∃ t, St t w' ∧ Gd n t ∧ Srt lt t 0 n := by
  have hn := I.bd
  have HI := Lib.hid (fun s a b u h1 h3 hs g hi => sort_ins I s a b u h1 h3 hs g hi)
  have HM := Lib.hid (fun s a m b u => sort_sym I (b - a) s a m b u (Nat.le_refl _))
  have Hs := Lib.hid hs
  clear hs I
  go_enter Try.func51, Try.ntmps51
  go_wp2_with fail
  go_loopw [5, 6] (fun av bv wr => ∃ (q : Nat) (t : Nat → Nat), av = .int .i64 ((20 * q : Nat) : Int) ∧ bv = .int .i64 ((20 * q + 20 : Nat) : Int) ∧ 20 * q ≤ n ∧ Hid (BksA lt n t 20 (20 * q)) ∧ St t wr ∧ Gd n t) (fun av _ _ => n - (intOf av).toNat)
  case atStart => exact ⟨0, _, vi (by omega), vi (by omega), by omega, Lib.hid BksA.start, Hs.out, Gd.id n⟩
  case round =>
    obtain ⟨q, t, rfl, rfl, qn, hb, h, g⟩ := hrel
    have H := Lib.hid h
    have G := Lib.hid g
    clear h g
    by_cases hlt : 20 * q + 20 ≤ n
    · have HI1 := Lib.hid (fun u hu => HI.out t (20 * q) (20 * q + 20) u (by omega) hlt hu G.out (fun k k' h1 h2 h3 => hb.out.inc k k' h1 h2 h3))
      go_wp2_with fail
      refine (HI1.out _ H.out).mono ?_
      rintro e w1 ⟨rfl, t1, h1, g1, b1, s1⟩
      have H1 := Lib.hid h1
      have G1 := Lib.hid g1
      have Z := Lib.hid (hb.out.next (by omega) (q := q) rfl (by omega) (by omega) hlt b1 s1)
      clear h1 g1 b1 s1
      go_wp2_with fail
      go_roundw
      case rel => exact ⟨q + 1, t1, vi (by omega), vi (by omega), by omega, Lib.hid (by have := Z.out; rwa [show 20 * q + 20 = 20 * (q + 1) by omega] at this), H1.out, G1.out⟩
      case measure => simp [intOf]; omega
    · have HI1 := Lib.hid (fun u hu => HI.out t (20 * q) n u qn (Nat.le_refl _) hu G.out (fun k k' h1 h2 h3 => hb.out.inc k k' h1 h2 h3))
      go_wp2_with fail
      refine (HI1.out _ H.out).mono ?_
      rintro e w1 ⟨rfl, t1, h1, g1, b1, s1⟩
      have H1 := Lib.hid h1
      have G1 := Lib.hid g1
      have Z := Lib.hid ((hb.out.next (by omega) (q := q) rfl qn (by omega) (Nat.le_refl _) b1 s1).fin)
      clear h1 g1 b1 s1 hb H G
      go_wp2_with fail
      go_loopw [4] (fun zv wr => ∃ (c : Nat) (t : Nat → Nat), zv = .int .i64 (c : Int) ∧ 0 < c ∧ c ≤ 2 * n + 20 ∧ Hid (Bks lt n t c) ∧ St t wr ∧ Gd n t) (fun zv _ => n - (intOf zv).toNat)
      case atStart => exact ⟨20, t1, vi (by omega), by omega, by omega, Z, H1.out, G1.out⟩
      case round =>
        obtain ⟨c, t, rfl, c0, cn, hb, h, g⟩ := hrel
        have H := Lib.hid h
        have G := Lib.hid g
        clear h g
        by_cases hc : c < n
        · go_wp2_with fail
          go_loopw [5, 6] (fun av bv wr => ∃ (q p : Nat) (t : Nat → Nat), av = .int .i64 (p : Int) ∧ bv = .int .i64 ((p + 2 * c : Nat) : Int) ∧ Hid (p = 2 * c * q) ∧ p ≤ n ∧ Hid (BksM lt n t c p) ∧ St t wr ∧ Gd n t) (fun av _ _ => n - (intOf av).toNat)
          case atStart => exact ⟨0, 0, t, vi (by omega), vi (by omega), Lib.hid (by rw [Nat.mul_zero]), by omega, Lib.hid hb.out.start, H.out, G.out⟩
          case round =>
            obtain ⟨q, p, t, rfl, rfl, hp, pn, hb, h, g⟩ := hrel
            have H := Lib.hid h
            have G := Lib.hid g
            clear h g
            by_cases hlt : p + 2 * c ≤ n
            · have HM1 := Lib.hid (fun u hu => HM.out t p (p + c) (p + 2 * c) u (by omega) (by omega) hlt hu G.out (hb.out.left hp.out (by omega)) (hb.out.right hp.out (Nat.le_refl _) hlt) (hb.out.low hp.out (Nat.le_refl _) hlt))
              rw [show ((p + c : Nat) : Int) = (p : Int) + c by omega] at HM1
              go_wp2_with fail
              refine (HM1.out _ H.out).mono ?_
              rintro e w1 ⟨rfl, t1, h1, g1, b1, s1⟩
              have H1 := Lib.hid h1
              have G1 := Lib.hid g1
              have Z := Lib.hid (hb.out.next c0 hp.out (by omega) (Nat.le_refl _) hlt b1 s1)
              clear h1 g1 b1 s1
              go_wp2_with fail
              go_roundw
              case rel => exact ⟨q + 1, p + 2 * c, t1, vi (by omega), vi (by omega), Lib.hid (by rw [hp.out, Nat.mul_succ]), hlt, Z, H1.out, G1.out⟩
              case measure => simp [intOf]; omega
            · by_cases hm : p + c < n
              · have HM1 := Lib.hid (fun u hu => HM.out t p (p + c) n u (by omega) hm (Nat.le_refl _) hu G.out (hb.out.left hp.out (by omega)) (hb.out.right hp.out (by omega) (Nat.le_refl _)) (hb.out.low hp.out (by omega) (Nat.le_refl _)))
                rw [show ((p + c : Nat) : Int) = (p : Int) + c by omega] at HM1
                go_wp2_with fail
                refine (HM1.out _ H.out).mono ?_
                rintro e w1 ⟨rfl, t1, h1, g1, b1, s1⟩
                have H1 := Lib.hid h1
                have G1 := Lib.hid g1
                have Z := Lib.hid ((hb.out.next c0 hp.out pn (by omega) (Nat.le_refl _) b1 s1).fin)
                clear h1 g1 b1 s1
                go_wp2_with fail
                go_roundw
                case rel => exact ⟨2 * c, t1, vi (by omega), by omega, by omega, Z, H1.out, G1.out⟩
                case measure => simp [intOf]; omega
              · have Z := Lib.hid (hb.out.short c0 hp.out (by omega))
                go_wp2_with fail
                go_roundw
                case rel => exact ⟨2 * c, t, vi (by omega), by omega, by omega, Z, H.out, G.out⟩
                case measure => simp [intOf]; omega
        · have Z := Lib.hid (hb.out.srt0 (by omega))
          go_wp2_with fail
          go_end0
          exact ⟨rfl, t, H.out, G.out, Z.out⟩
theorem sort_Stable (I : SI n lt T v fL fS St) (fN : FuncId) (W : World) (hs : St (fun i => i) W)
    (mN : ∀ (j : Nat) (u : World), (method (j + 1) T v "Len").run Try.prog u = .ok (fN, v) u)
    (eN : ∀ (a : Array Value) (u : World), (callFunc fN a).run Try.prog u = .ok (.enter fN a) u)
    (HN : ∀ u, St (fun i => i) u → Calls Try.prog fN #[v] u fun e w' => e = .returned (.int .i64 n) ∧ St (fun i => i) w') :
    Calls Try.prog 44 #[.iface T v] W fun e w' => e = .returned (.tuple #[]) ∧ ∃ t, St t w' ∧ Gd n t ∧ Srt lt t 0 n := by
  have H := Lib.hid (fun u hu => sort_stable I u hu)
  have Hs := Lib.hid hs
  clear I hs
  go_enter Try.func44, Try.ntmps44
  go_wp2_with fail
  refine (HN _ Hs.out).mono ?_
  rintro e w1 ⟨rfl, h1⟩
  have H1 := Lib.hid h1
  clear h1
  go_wp2_with fail
  refine (H.out _ H1.out).mono ?_
  rintro e w2 ⟨rfl, t, h2, g2, s2⟩
  go_wp2_with fail
  go_end0
  exact ⟨rfl, t, h2, g2, s2⟩
end
end Go.Proofs.Ytnofmlkjagdklaa
