/- Sorting by swaps, plain, second part: ranges swapped, a rotation, a binary search, a merge in place, blocks. No program in it. -/
import Derived.Test.YtomoaolomddidaaBa
namespace Go.Proofs.Ytomoaolomddidaa

def swr (s : Nat → Nat) (a b c : Nat) : Nat → Nat := fun k => if a ≤ k ∧ k < a + c then s (b + (k - a)) else if b ≤ k ∧ k < b + c then s (a + (k - b)) else s k
def rot (s : Nat → Nat) (a m b : Nat) : Nat → Nat := fun k => if a ≤ k ∧ k < a + (b - m) then s (m + (k - a)) else if a + (b - m) ≤ k ∧ k < b then s (k - (b - m)) else s k
/-- What stands at a goes up to t. -/
def mvu (s : Nat → Nat) (a t : Nat) : Nat → Nat := fun k => if a ≤ k ∧ k < t then s (k + 1) else if k = t then s a else s k
/-- What stands at m goes down to t. -/
def mvd (s : Nat → Nat) (m t : Nat) : Nat → Nat := fun k => if k = t then s m else if t < k ∧ k ≤ m then s (k - 1) else s k
section
variable (s : Nat → Nat) {a b c m t i j : Nat}
theorem swr_zero : swr s a b 0 = s := by funext k; unfold swr; rw [if_neg (by omega), if_neg (by omega)]
theorem swr_step (h : a + (t + 1) ≤ b) : swp (swr s a b t) (a + t) (b + t) = swr s a b (t + 1) := by
  funext k; unfold swp swr
  (repeat' split) <;> first | (exfalso; omega) | exact congrArg s (by omega) | rfl
theorem rot_done : rot s m m b = s := by
  funext k; unfold rot
  (repeat' split) <;> first | (exfalso; omega) | exact congrArg s (by omega) | rfl
theorem rot_none : rot s a m m = s := by
  funext k; unfold rot
  (repeat' split) <;> first | (exfalso; omega) | exact congrArg s (by omega) | rfl
theorem rot_gt (h : j < i) (hi : i ≤ m) : rot (swr s (m - i) m j) (m - (i - j)) m (m + j) = rot s (m - i) m (m + j) := by
  funext k; unfold rot swr
  (repeat' split) <;> first | (exfalso; omega) | exact congrArg s (by omega) | rfl
theorem rot_lt (h : i < j) (hi : i ≤ m) : rot (swr s (m - i) (m + j - i) i) (m - i) m (m + (j - i)) = rot s (m - i) m (m + j) := by
  funext k; unfold rot swr
  (repeat' split) <;> first | (exfalso; omega) | exact congrArg s (by omega) | rfl
theorem rot_eq (hi : i ≤ m) : swr s (m - i) m i = rot s (m - i) m (m + i) := by
  funext k; unfold rot swr
  (repeat' split) <;> first | (exfalso; omega) | exact congrArg s (by omega) | rfl
theorem mvu_start : mvu s a a = s := by
  funext k; unfold mvu
  (repeat' split) <;> first | (exfalso; omega) | exact congrArg s (by omega) | rfl
theorem mvu_step (h : a ≤ t) : swp (mvu s a t) t (t + 1) = mvu s a (t + 1) := by
  funext k; unfold swp mvu
  (repeat' split) <;> first | (exfalso; omega) | exact congrArg s (by omega) | rfl
theorem mvd_start : mvd s m m = s := by
  funext k; unfold mvd
  (repeat' split) <;> first | (exfalso; omega) | exact congrArg s (by omega) | rfl
theorem mvd_step (h : 0 < t) (g : t ≤ m) : swp (mvd s m t) t (t - 1) = mvd s m (t - 1) := by
  funext k; unfold swp mvd
  (repeat' split) <;> first | (exfalso; omega) | exact congrArg s (by omega) | rfl
theorem rot_sb (h1 : a ≤ m) (h2 : m ≤ b) : Sb s (rot s a m b) a b := by
  refine ⟨fun k g1 g2 => ?_, fun k hk => ?_⟩
  · unfold rot
    split
    · exact ⟨m + (k - a), by omega, by omega, rfl⟩
    · rw [if_pos (by omega)]; exact ⟨k - (b - m), by omega, by omega, rfl⟩
  · unfold rot; rw [if_neg (by omega), if_neg (by omega)]
theorem mvu_sb (h1 : a ≤ t) (h2 : t < b) : Sb s (mvu s a t) a b := by
  refine ⟨fun k g1 g2 => ?_, fun k hk => ?_⟩
  · unfold mvu
    split
    · exact ⟨k + 1, by omega, by omega, rfl⟩
    · split
      · exact ⟨a, by omega, by omega, rfl⟩
      · exact ⟨k, g1, g2, rfl⟩
  · unfold mvu; rw [if_neg (by omega), if_neg (by omega)]
theorem mvd_sb (h0 : a ≤ t) (h1 : t ≤ m) (h2 : m < b) : Sb s (mvd s m t) a b := by
  refine ⟨fun k g1 g2 => ?_, fun k hk => ?_⟩
  · unfold mvd
    split
    · exact ⟨m, by omega, h2, rfl⟩
    · split
      · exact ⟨k - 1, by omega, by omega, rfl⟩
      · exact ⟨k, g1, g2, rfl⟩
  · unfold mvd; rw [if_neg (by omega), if_neg (by omega)]
end
section
variable {lt : Nat → Nat → Bool} {s : Nat → Nat} {a b c e m t i mid n : Nat}
theorem Srt.to (h : Srt lt s a b) {p q : Nat} (h1 : a ≤ p) (h2 : p ≤ q) (h3 : q < b) : p = q ∨ Pr lt (s p) (s q) := by
  by_cases g : p = q
  · exact .inl g
  · exact .inr (h p q h1 (by omega) h3)
theorem Srt.chain (H : SW lt) {a' b' : Nat} (h : Srt lt s a b) (h' : Srt lt s a' b') {p q p' q' : Nat} (h1 : a ≤ p) (h2 : p ≤ q) (h3 : q < b) (g1 : a' ≤ p') (g2 : p' ≤ q') (g3 : q' < b') (r : Pr lt (s q) (s p')) : Pr lt (s p) (s q') := by
  have x : Pr lt (s p) (s p') := by
    rcases h.to h1 h2 h3 with e | e
    · rw [e]; exact r
    · exact e.trans H r
  rcases h'.to g1 g2 g3 with e | e
  · rw [← e]; exact x
  · exact x.trans H e
theorem mvu_srt (H : SW lt) (h : Srt lt s (a + 1) b) (h1 : a + 1 ≤ i) (h2 : i ≤ b) (A : i = a + 1 ∨ Pr lt (s (i - 1)) (s a)) (B : i = b ∨ Pr lt (s a) (s i)) : Srt lt (mvu s a (i - 1)) a b := by
  intro p q g1 g2 g3
  have E1 : ∀ k, a ≤ k → k < i - 1 → mvu s a (i - 1) k = s (k + 1) := fun k x y => by unfold mvu; rw [if_pos ⟨x, y⟩]
  have E2 : mvu s a (i - 1) (i - 1) = s a := by unfold mvu; rw [if_neg (by omega), if_pos rfl]
  have E3 : ∀ k, i ≤ k → mvu s a (i - 1) k = s k := fun k x => by unfold mvu; rw [if_neg (by omega), if_neg (by omega)]
  rcases Nat.lt_trichotomy p (i - 1) with hp | hp | hp
  · rw [E1 p g1 hp]
    rcases Nat.lt_trichotomy q (i - 1) with hq | hq | hq
    · rw [E1 q (by omega) hq]; exact h _ _ (by omega) (by omega) (by omega)
    · rw [hq, E2]
      rcases A with A | A
      · omega
      · rcases h.to (p := p + 1) (q := i - 1) (by omega) (by omega) (by omega) with e | e
        · rw [e]; exact A
        · exact e.trans H A
    · rw [E3 q (by omega)]; exact h _ _ (by omega) (by omega) g3
  · rw [hp, E2, E3 q (by omega)]
    rcases B with B | B
    · omega
    · rcases h.to (p := i) (q := q) (by omega) (by omega) g3 with e | e
      · rw [← e]; exact B
      · exact B.trans H e
  · rw [E3 p (by omega), E3 q (by omega)]; exact h _ _ (by omega) g2 g3
theorem mvd_srt (H : SW lt) (h : Srt lt s a m) (h1 : a ≤ i) (h2 : i ≤ m) (A : i = a ∨ Pr lt (s (i - 1)) (s m)) (B : i = m ∨ Pr lt (s m) (s i)) : Srt lt (mvd s m i) a (m + 1) := by
  intro p q g1 g2 g3
  have E1 : ∀ k, k < i → mvd s m i k = s k := fun k x => by unfold mvd; rw [if_neg (by omega), if_neg (by omega)]
  have E2 : mvd s m i i = s m := by unfold mvd; rw [if_pos rfl]
  have E3 : ∀ k, i < k → k ≤ m → mvd s m i k = s (k - 1) := fun k x y => by unfold mvd; rw [if_neg (by omega), if_pos ⟨x, y⟩]
  rcases Nat.lt_trichotomy p i with hp | hp | hp
  · rw [E1 p hp]
    rcases Nat.lt_trichotomy q i with hq | hq | hq
    · rw [E1 q hq]; exact h _ _ g1 g2 (by omega)
    · rw [hq, E2]
      rcases A with A | A
      · omega
      · rcases h.to (p := p) (q := i - 1) g1 (by omega) (by omega) with e | e
        · rw [e]; exact A
        · exact e.trans H A
    · rw [E3 q hq (by omega)]; exact h _ _ g1 (by omega) (by omega)
  · rw [hp, E2, E3 q (by omega) (by omega)]
    rcases B with B | B
    · omega
    · rcases h.to (p := i) (q := q - 1) (by omega) (by omega) (by omega) with e | e
      · rw [← e]; exact B
      · exact B.trans H e
  · rw [E3 p hp (by omega), E3 q (by omega) (by omega)]; exact h _ _ (by omega) (by omega) (by omega)
/-! the merge: c of the left run and e of the right run where they are cut; mid between what is then below and above -/
structure Cut (a c m e b mid : Nat) : Prop where
  ac : a ≤ c
  cm : c ≤ m
  me : m ≤ e
  eb : e ≤ b
  hm : mid + m = c + e
theorem rot_l (K : Cut a c m e b mid) {k : Nat} (h : k < c) : rot s c m e k = s k := by have k1 := K.ac; have k2 := K.cm; have k3 := K.me; have k4 := K.eb; have k5 := K.hm; unfold rot; rw [if_neg (by omega), if_neg (by omega)]
theorem rot_b (K : Cut a c m e b mid) {k : Nat} (h : c ≤ k) (g : k < mid) : rot s c m e k = s (m + (k - c)) := by have k1 := K.ac; have k2 := K.cm; have k3 := K.me; have k4 := K.eb; have k5 := K.hm; unfold rot; rw [if_pos (by omega)]
theorem rot_c (K : Cut a c m e b mid) {k : Nat} (h : mid ≤ k) (g : k < e) : rot s c m e k = s (k - (e - m)) := by have k1 := K.ac; have k2 := K.cm; have k3 := K.me; have k4 := K.eb; have k5 := K.hm; unfold rot; rw [if_neg (by omega), if_pos (by omega)]
theorem rot_r (K : Cut a c m e b mid) {k : Nat} (h : e ≤ k) : rot s c m e k = s k := by have k1 := K.ac; have k2 := K.cm; have k3 := K.me; have k4 := K.eb; have k5 := K.hm; unfold rot; rw [if_neg (by omega), if_neg (by omega)]
theorem rot_cross (K : Cut a c m e b mid) (H : SW lt) (L : Srt lt s a m) (R : Srt lt s m b) (A : c = a ∨ e = b ∨ Pr lt (s (c - 1)) (s e)) (B : e = m ∨ c = m ∨ Pr lt (s (e - 1)) (s c)) {x y : Nat} (x1 : a ≤ x) (x2 : x < mid) (y1 : mid ≤ y) (y2 : y < b) :
    Pr lt (rot s c m e x) (rot s c m e y) := by
  have k1 := K.ac; have k2 := K.cm; have k3 := K.me; have k4 := K.eb; have k5 := K.hm
  by_cases hx : x < c
  · rw [rot_l K hx]
    by_cases hy : y < e
    · rw [rot_c K y1 hy]; exact L _ _ x1 (by omega) (by omega)
    · rw [rot_r K (by omega)]
      rcases A with A | A | A
      · omega
      · omega
      · exact L.chain H R x1 (by omega) (by omega) (by omega) (by omega) y2 A
  · rw [rot_b K (by omega) x2]
    by_cases hy : y < e
    · rw [rot_c K y1 hy]
      rcases B with B | B | B
      · omega
      · omega
      · exact R.chain H L (by omega) (by omega) (by omega) (by omega) (by omega) (by omega) B
    · rw [rot_r K (by omega)]; exact R _ _ (by omega) (by omega) y2
theorem rot_s1 (K : Cut a c m e b mid) (L : Srt lt s a m) : Srt lt (rot s c m e) a c := fun p q h1 h2 h3 => by
  have k1 := K.ac; have k2 := K.cm; have k3 := K.me; have k4 := K.eb; have k5 := K.hm
  rw [rot_l K (by omega), rot_l K h3]; exact L _ _ h1 h2 (by omega)
theorem rot_s2 (K : Cut a c m e b mid) (R : Srt lt s m b) : Srt lt (rot s c m e) c mid := fun p q h1 h2 h3 => by
  have k1 := K.ac; have k2 := K.cm; have k3 := K.me; have k4 := K.eb; have k5 := K.hm
  rw [rot_b K h1 (by omega), rot_b K (by omega) h3]; exact R _ _ (by omega) (by omega) (by omega)
theorem rot_s3 (K : Cut a c m e b mid) (L : Srt lt s a m) : Srt lt (rot s c m e) mid e := fun p q h1 h2 h3 => by
  have k1 := K.ac; have k2 := K.cm; have k3 := K.me; have k4 := K.eb; have k5 := K.hm
  rw [rot_c K h1 (by omega), rot_c K (by omega) h3]; exact L _ _ (by omega) (by omega) (by omega)
theorem rot_s4 (K : Cut a c m e b mid) (R : Srt lt s m b) : Srt lt (rot s c m e) e b := fun p q h1 h2 h3 => by
  have k1 := K.ac; have k2 := K.cm; have k3 := K.me; have k4 := K.eb; have k5 := K.hm
  rw [rot_r K h1, rot_r K (by omega)]; exact R _ _ (by omega) h2 h3
theorem rot_w1 (K : Cut a c m e b mid) (W : Low s a m b) : Low (rot s c m e) a c mid := fun p q h1 h2 h3 h4 => by
  have k1 := K.ac; have k2 := K.cm; have k3 := K.me; have k4 := K.eb; have k5 := K.hm
  rw [rot_l K h2, rot_b K h3 h4]; exact W _ _ h1 (by omega) (by omega) (by omega)
theorem rot_w2 (K : Cut a c m e b mid) (W : Low s a m b) : Low (rot s c m e) mid e b := fun p q h1 h2 h3 h4 => by
  have k1 := K.ac; have k2 := K.cm; have k3 := K.me; have k4 := K.eb; have k5 := K.hm
  rw [rot_c K h1 h2, rot_r K h3]; exact W _ _ (by omega) (by omega) (by omega) h4
theorem merged {t t1 t2 : Nat → Nat} (am : a ≤ mid) (mb : mid ≤ b) (X : ∀ x y, a ≤ x → x < mid → mid ≤ y → y < b → Pr lt (t x) (t y)) (S1 : Srt lt t1 a mid) (B1 : Sb t t1 a mid) (S2 : Srt lt t2 mid b) (B2 : Sb t1 t2 mid b) :
    Srt lt t2 a b ∧ Sb t t2 a b := by
  refine ⟨fun p q h1 h2 h3 => ?_, (B1.mono (Nat.le_refl _) mb).trans (B2.mono am (Nat.le_refl _))⟩
  by_cases hq : q < mid
  · rw [B2.o p (by omega), B2.o q (by omega)]; exact S1 p q h1 h2 hq
  · by_cases hp : p < mid
    · rw [B2.o p (by omega)]
      obtain ⟨p', p1, p2, p3⟩ := B1.i p h1 hp
      obtain ⟨q', q1, q2, q3⟩ := B2.i q (by omega) h3
      rw [p3, q3, B1.o q' (by omega)]
      exact X p' q' p1 p2 q1 q2
    · exact S2 p q (by omega) h2 h3
theorem Srt.one {s : Nat → Nat} (h : b ≤ a + 1) : Srt lt s a b := fun p q h1 h2 h3 => by omega
end
/-! ### blocks of one size: each sorted, each holds its own -/
structure Bks (lt : Nat → Nat → Bool) (n : Nat) (s : Nat → Nat) (c : Nat) : Prop where
  own : ∀ k, k < n → s k / c = k / c
  srt : ∀ p q, p < q → q < n → p / c = q / c → Pr lt (s p) (s q)
/-- so far up to a; behind it nothing is sorted yet -/
structure BksA (lt : Nat → Nat → Bool) (n : Nat) (s : Nat → Nat) (c a : Nat) : Prop where
  own : ∀ k, k < n → s k / c = k / c
  srt : ∀ p q, p < q → q < a → p / c = q / c → Pr lt (s p) (s q)
  rest : ∀ k, a ≤ k → s k = k
/-- up to a in blocks of twice the size, behind it of the size -/
structure BksM (lt : Nat → Nat → Bool) (n : Nat) (s : Nat → Nat) (c a : Nat) : Prop where
  own : ∀ k, k < n → s k / (2 * c) = k / (2 * c)
  ownR : ∀ k, a ≤ k → k < n → s k / c = k / c
  srt : ∀ p q, p < q → q < a → p / (2 * c) = q / (2 * c) → Pr lt (s p) (s q)
  srtR : ∀ p q, a ≤ p → p < q → q < n → p / c = q / c → Pr lt (s p) (s q)
theorem blk_div {c k q : Nat} (h1 : c * q ≤ k) (h2 : k < c * q + c) : k / c = q :=
  Nat.div_eq_of_lt_le (by rw [Nat.mul_comm]; exact h1) (by rw [Nat.add_mul, Nat.one_mul, Nat.mul_comm q c]; exact h2)
theorem blk_lt {c k q : Nat} (h0 : 0 < c) (h : k < c * q) : k / c < q := (Nat.div_lt_iff_lt_mul h0).2 (by rw [Nat.mul_comm]; exact h)
section
variable {lt : Nat → Nat → Bool} {n c a e q : Nat} {s s' : Nat → Nat}
theorem BksA.start : BksA lt n (fun i => i) c 0 := ⟨fun _ _ => rfl, fun _ _ _ h => by omega, fun _ _ => rfl⟩
theorem BksA.inc (h : BksA lt n s c a) (k k' : Nat) (h1 : a ≤ k) (h2 : k < k') (_ : k' < e) : s k < s k' := by rw [h.rest k h1, h.rest k' (by omega)]; exact h2
theorem BksA.next (h : BksA lt n s c a) (h0 : 0 < c) (ha : a = c * q) (ae : a ≤ e) (ec : e ≤ a + c) (en : e ≤ n) (B : Sb s s' a e) (S : Srt lt s' a e) : BksA lt n s' c e := by
  refine ⟨fun k hk => ?_, fun p r h1 h2 h3 => ?_, fun k hk => by rw [B.o k (by omega)]; exact h.rest k (by omega)⟩
  · by_cases g : a ≤ k ∧ k < e
    · obtain ⟨k', a1, a2, a3⟩ := B.i k g.1 g.2
      rw [a3, h.own k' (by omega), blk_div (c := c) (q := q) (k := k') (by omega) (by omega), blk_div (c := c) (q := q) (k := k) (by omega) (by omega)]
    · rw [B.o k g]; exact h.own k hk
  · by_cases g : r < a
    · rw [B.o p (by omega), B.o r (by omega)]; exact h.srt p r h1 g h3
    · by_cases f : a ≤ p
      · exact S p r f h1 h2
      · have e1 := blk_lt (k := p) (q := q) h0 (by omega)
        have e2 := blk_div (c := c) (q := q) (k := r) (by omega) (by omega)
        omega
theorem BksA.fin (h : BksA lt n s c n) : Bks lt n s c := ⟨h.own, h.srt⟩
theorem Bks.srt0 (h : Bks lt n s c) (hc : n ≤ c) : Srt lt s 0 n := fun p r _ h2 h3 => h.srt p r h2 h3 (by rw [Nat.div_eq_of_lt (by omega), Nat.div_eq_of_lt (by omega)])
theorem dbl (k c : Nat) : k / (2 * c) = k / c / 2 := by rw [Nat.mul_comm, Nat.div_div_eq_div_mul]
theorem Bks.start (h : Bks lt n s c) : BksM lt n s c 0 :=
  ⟨fun k hk => by rw [dbl, dbl, h.own k hk], fun k _ hk => h.own k hk, fun _ _ _ g => by omega, fun p r _ h2 h3 h4 => h.srt p r h2 h3 h4⟩
theorem BksM.next (h : BksM lt n s c a) (h0 : 0 < c) (ha : a = 2 * c * q) (ae : a ≤ e) (ec : e ≤ a + 2 * c) (en : e ≤ n) (B : Sb s s' a e) (S : Srt lt s' a e) : BksM lt n s' c e := by
  refine ⟨fun k hk => ?_, fun k h1 h2 => by rw [B.o k (by omega)]; exact h.ownR k (by omega) h2, fun p r h1 h2 h3 => ?_, fun p r h1 h2 h3 h4 => by rw [B.o p (by omega), B.o r (by omega)]; exact h.srtR p r (by omega) h2 h3 h4⟩
  · by_cases g : a ≤ k ∧ k < e
    · obtain ⟨k', a1, a2, a3⟩ := B.i k g.1 g.2
      rw [a3, h.own k' (by omega), blk_div (c := 2 * c) (q := q) (k := k') (by omega) (by omega), blk_div (c := 2 * c) (q := q) (k := k) (by omega) (by omega)]
    · rw [B.o k g]; exact h.own k hk
  · by_cases g : r < a
    · rw [B.o p (by omega), B.o r (by omega)]; exact h.srt p r h1 g h3
    · by_cases f : a ≤ p
      · exact S p r f h1 h2
      · have e1 := blk_lt (c := 2 * c) (k := p) (q := q) (by omega) (by omega)
        have e2 := blk_div (c := 2 * c) (q := q) (k := r) (by omega) (by omega)
        omega
theorem BksM.fin (h : BksM lt n s c n) : Bks lt n s (2 * c) := ⟨h.own, h.srt⟩
theorem BksM.short (h : BksM lt n s c a) (h0 : 0 < c) (ha : a = 2 * c * q) (hn : n ≤ a + c) : Bks lt n s (2 * c) := by
  refine ⟨h.own, fun p r h1 h2 h3 => ?_⟩
  have ha2 : a = c * (2 * q) := by rw [ha, Nat.mul_comm 2 c, Nat.mul_assoc]
  by_cases g : r < a
  · exact h.srt p r h1 g h3
  · by_cases f : a ≤ p
    · exact h.srtR p r f h1 h2 (by rw [blk_div (c := c) (q := 2 * q) (k := p) (by omega) (by omega), blk_div (c := c) (q := 2 * q) (k := r) (by omega) (by omega)])
    · have e1 := blk_lt (c := 2 * c) (k := p) (q := q) (by omega) (by omega)
      have e2 := blk_div (c := 2 * c) (q := q) (k := r) (by omega) (by omega)
      omega
theorem BksM.left (h : BksM lt n s c a) (ha : a = 2 * c * q) (hn : a + c ≤ n) : Srt lt s a (a + c) := by
  have ha2 : a = c * (2 * q) := by rw [ha, Nat.mul_comm 2 c, Nat.mul_assoc]
  exact fun p r h1 h2 h3 => h.srtR p r h1 h2 (by omega) (by rw [blk_div (c := c) (q := 2 * q) (k := p) (by omega) (by omega), blk_div (c := c) (q := 2 * q) (k := r) (by omega) (by omega)])
theorem up_q (ha : a = 2 * c * q) : a + c = c * (2 * q + 1) := by rw [ha, Nat.mul_comm 2 c, Nat.mul_assoc, Nat.mul_add, Nat.mul_one]
theorem BksM.right (h : BksM lt n s c a) (ha : a = 2 * c * q) (ec : e ≤ a + 2 * c) (en : e ≤ n) : Srt lt s (a + c) e := by
  have hq := up_q ha
  exact fun p r h1 h2 h3 => h.srtR p r (by omega) h2 (by omega) (by rw [blk_div (c := c) (q := 2 * q + 1) (k := p) (by omega) (by omega), blk_div (c := c) (q := 2 * q + 1) (k := r) (by omega) (by omega)])
theorem BksM.low (h : BksM lt n s c a) (ha : a = 2 * c * q) (ec : e ≤ a + 2 * c) (en : e ≤ n) : Low s a (a + c) e := by
  have ha2 : a = c * (2 * q) := by rw [ha, Nat.mul_comm 2 c, Nat.mul_assoc]
  have hq := up_q ha
  intro i j h1 h2 h3 h4
  have e1 := h.ownR i h1 (by omega)
  have e2 := h.ownR j (by omega) (by omega)
  rw [blk_div (c := c) (q := 2 * q) (k := i) (by omega) (by omega)] at e1
  rw [blk_div (c := c) (q := 2 * q + 1) (k := j) (by omega) (by omega)] at e2
  apply Nat.lt_of_not_le
  intro g
  have := Nat.div_le_div_right (c := c) g
  omega
end
/-! ### two sorted arrangements are one -/
theorem srt_unique {lt : Nat → Nat → Bool} (H : SW lt) {n : Nat} {s t : Nat → Nat} (gs : Gd n s) (gt : Gd n t) (hs : Srt lt s 0 n) (ht : Srt lt t 0 n) : ∀ k, k < n → s k = t k := by
  have key : ∀ (s t : Nat → Nat), Gd n s → Gd n t → Srt lt s 0 n → Srt lt t 0 n → ∀ k, k < n → (∀ i, i < k → s i = t i) → s k = t k ∨ Pr lt (t k) (s k) := by
    intro s t gs gt hs ht k hk ih
    obtain ⟨j, j1, j2⟩ := gt.sur (s k) (gs.lt k hk)
    rcases Nat.lt_trichotomy j k with g | g | g
    · have := gs.inj j k (by omega) hk ((ih j g).trans j2)
      omega
    · rw [← j2, g]; exact .inl rfl
    · rw [← j2]; exact .inr (ht k j (Nat.zero_le _) g j1)
  intro k
  induction k using Nat.strongRecOn with
  | ind k ih =>
    intro hk
    rcases key s t gs gt hs ht k hk (fun i hi => ih i hi (by omega)) with e | e
    · exact e
    · rcases key t s gt gs ht hs k hk (fun i hi => (ih i hi (by omega)).symm) with f | f
      · exact f.symm
      · exact absurd (e.trans H f) (Pr.irr H)
end Go.Proofs.Ytomoaolomddidaa
