/- What earlier stages proved: Ia Ib Ic Id Ie If Ig Ih. -/
import Derived.Test.YtnaglaecoephnaaKt
import Derived.Test.YtnaglaecoephnaaKu
import Derived.Test.YtnaglaecoephnaaKo
import Derived.Laws.Rows
import Derived.Laws.Tables
import Derived.Laws.ResultCell
import Derived.ChangeKeysEq
import Derived.Test.YtnaglaecoephnaaKe
import Derived.Test.YtnaglaecoephnaaKm
import Derived.Deep.WholeRow
namespace Go.Proofs.Ytnaglaecoephnaa

/-- Easter of a year is on the month and day. -/
def hO (c y m d : Int) : Bool := (marM (uO c y) == m) && (marD (uO c y) == d)
/-- How many days behind 22 March Easter of a year is. -/
def iX (c y : Int) : Int := uO c y - 1
theorem iX_bd {c : Int} (hc : c = 1 ∨ c = 2) (y : Int) : 0 ≤ iX c y ∧ iX c y ≤ 34 := by
  have := eaO_bd c y
  unfold iX; rw [u_easter hc]; omega
theorem bN_iX (c y : Int) : bN c y - 114 = iX c y := by unfold bN iX; omega
theorem hO_iff {c y m d : Int} : hO c y m d = true ↔ marM (uO c y) = m ∧ marD (uO c y) = d := by unfold hO; simp
theorem hO_no {c y m d : Int} (h : m < 3 ∨ 4 < m ∨ d < 1 ∨ 31 < d) (hc : c = 1 ∨ c = 2) : hO c y m d = false := by
  rw [← Bool.not_eq_true, hO_iff]
  have := eaO_bd c y
  rw [← u_easter hc] at this
  unfold marM marD
  split <;> omega
/-- The error of a range of years. -/
def rgE (c f l : Int) : Int := if epE c f = 0 then (if epE c l = 0 ∧ f ≤ l ∧ l - f ≤ 9999 then 0 else 1) else epE c f
theorem rgE_zero {c f l : Int} (h : rgE c f l = 0) : epE c f = 0 ∧ epE c l = 0 ∧ f ≤ l ∧ l - f ≤ 9999 := by
  unfold rgE at h
  split at h
  · rename_i h0
    split at h
    · rename_i h1; exact ⟨h0, h1⟩
    · omega
  · rename_i h0; exact absurd h h0
theorem rgE_of {c f l : Int} (h0 : epE c f = 0) (h1 : epE c l = 0) (h2 : f ≤ l) (h3 : l - f ≤ 9999) : rgE c f l = 0 := by
  unfold rgE; rw [if_pos h0, if_pos ⟨h1, h2, h3⟩]
/-- The years that are accepted make a range. -/
theorem epE_mid {c f l y : Int} (h0 : epE c f = 0) (h1 : epE c l = 0) (h2 : f ≤ y) (h3 : y ≤ l) : epE c y = 0 := by
  have hc := (epE_zero h0).1
  have a := (epE_zero h0).2
  have b := (epE_zero h1).2
  refine epE_ok (okC_iff.2 hc) ?_
  unfold epIn at *
  rcases hc with rfl | rfl
  · rw [if_pos rfl] at *
    rw [inY_iff] at *; omega
  · rw [if_neg (by omega)] at *
    rw [inG_iff] at *; omega
theorem rgE_at {c f l : Int} (h : rgE c f l = 0) {k : Nat} (hk : (k : Int) < l - f + 1) : epE c (f + k) = 0 := by
  obtain ⟨h0, h1, h2, h3⟩ := rgE_zero h
  exact epE_mid h0 h1 (by omega) (by omega)

/-- The years among the first k from f on that have Easter on the month and day. -/
def yrs (c f m d : Int) : Nat → List Int
  | 0 => []
  | k + 1 => if hO c (f + k) m d = true then yrs c f m d k ++ [f + k] else yrs c f m d k
theorem yrs_yes {c f m d : Int} {k : Nat} (h : hO c (f + k) m d = true) : yrs c f m d (k + 1) = yrs c f m d k ++ [f + k] := by rw [yrs, if_pos h]
theorem yrs_no {c f m d : Int} {k : Nat} (h : hO c (f + k) m d = false) : yrs c f m d (k + 1) = yrs c f m d k := by rw [yrs, if_neg (by rw [h]; decide)]
theorem yrs_le (c f m d : Int) (k : Nat) : (yrs c f m d k).length ≤ k := by
  induction k with
  | zero => exact Nat.le_refl _
  | succ k ih =>
    rw [yrs]; split
    · rw [List.length_append, List.length_singleton]; omega
    · omega
theorem yrs_one (c y m d : Int) : (yrs c y m d 1).length = if hO c y m d = true then 1 else 0 := by
  rw [yrs, yrs, show y + ((0 : Nat) : Int) = y by omega]; split <;> rfl

/-- The first year with the earliest Easter, among the first k from f on. -/
def bst (c f : Int) : Nat → Int
  | 0 => f
  | k + 1 => if iX c (f + k) < iX c (bst c f k) then f + k else bst c f k
theorem bst_one (c f : Int) : bst c f 1 = f := by
  have e : f + ((0 : Nat) : Int) = f := by omega
  rw [bst, bst, e, if_neg (by omega)]
theorem bst_lt {c f : Int} {k : Nat} (h : iX c (f + k) < iX c (bst c f k)) : bst c f (k + 1) = f + k := by rw [bst, if_pos h]
theorem bst_ge {c f : Int} {k : Nat} (h : ¬ iX c (f + k) < iX c (bst c f k)) : bst c f (k + 1) = bst c f k := by rw [bst, if_neg h]
theorem bst_in (c f : Int) (k : Nat) : f ≤ bst c f k ∧ (0 < k → bst c f k < f + k) ∧ bst c f k ≤ f + k := by
  induction k with
  | zero => exact ⟨by rw [bst]; omega, by omega, by rw [bst]; omega⟩
  | succ k ih =>
    rw [bst]
    split
    · omega
    · rename_i h
      rcases Nat.eq_zero_or_pos k with rfl | hk
      · rw [bst]; omega
      · omega
theorem bst_min (c f : Int) (k : Nat) (j : Nat) (hj : j < k) : iX c (bst c f k) < iX c (f + j) ∨ (iX c (bst c f k) = iX c (f + j) ∧ bst c f k ≤ f + j) := by
  induction k with
  | zero => omega
  | succ k ih =>
    have hb := bst_in c f k
    by_cases h : iX c (f + k) < iX c (bst c f k)
    · rw [bst_lt h]
      rcases Nat.lt_or_ge j k with g | g
      · have := ih g; omega
      · obtain rfl : j = k := by omega
        right; omega
    · rw [bst_ge h]
      rcases Nat.lt_or_ge j k with g | g
      · exact ih g
      · obtain rfl : j = k := by omega
        rcases Nat.eq_zero_or_pos j with e | e
        · subst e
          right
          have e : f + ((0 : Nat) : Int) = f := by omega
          rw [bst, e]; omega
        · have := hb.2.1 e; omega
theorem bst_zero {c f : Int} (hc : c = 1 ∨ c = 2) {n k : Nat} (hk : k < n) (h0 : iX c (f + k) = 0) (h1 : ∀ j : Nat, j < k → iX c (f + j) ≠ 0) : bst c f n = f + k := by
  have hb := bst_in c f n
  have hm := bst_min c f n k hk
  have := iX_bd hc (bst c f n)
  have : ¬ bst c f n < f + k := fun g => by
    refine h1 (bst c f n - f).toNat (by omega) ?_
    rw [show f + ((bst c f n - f).toNat : Int) = bst c f n by omega]; omega
  omega

/-- How many of the first k years from f on have Easter i days behind 22 March. -/
def hcn (c f : Int) : Nat → Nat → Int
  | 0, _ => 0
  | k + 1, i => hcn c f k i + if iX c (f + k) = i then 1 else 0
theorem hcn_bd (c f : Int) (k i : Nat) : 0 ≤ hcn c f k i ∧ hcn c f k i ≤ k := by
  induction k with
  | zero => exact ⟨Int.le_refl _, Int.le_refl _⟩
  | succ k ih => rw [hcn]; split <;> omega
theorem hcn_add (c f : Int) (a b i : Nat) : hcn c f (a + b) i = hcn c f a i + hcn c (f + a) b i := by
  induction b with
  | zero => rw [Nat.add_zero]; rw [hcn]; omega
  | succ b ih =>
    rw [← Nat.add_assoc, hcn, hcn, ih, show f + ((a + b : Nat) : Int) = f + (a : Int) + (b : Int) by omega]
    omega
/-- The sum of the first i numbers of a histogram. -/
def smm (c f : Int) (k : Nat) : Nat → Int
  | 0 => 0
  | i + 1 => smm c f k i + hcn c f k i
theorem smm_zero (c f : Int) (i : Nat) : smm c f 0 i = 0 := by
  induction i with
  | zero => rfl
  | succ i ih => rw [smm, ih, hcn]; rfl
theorem smm_step (c f : Int) (k i : Nat) (h0 : 0 ≤ iX c (f + k)) : smm c f (k + 1) i = smm c f k i + if iX c (f + k) < i then 1 else 0 := by
  induction i with
  | zero => rw [smm, smm, if_neg (by omega)]; rfl
  | succ i ih =>
    rw [smm, smm, ih, hcn]
    rcases Int.lt_trichotomy (iX c (f + k)) i with h | h | h
    · rw [if_pos h, if_neg (by omega), if_pos (by omega)]; omega
    · rw [if_neg (by omega), if_pos h, if_pos (by omega)]; omega
    · rw [if_neg (by omega), if_neg (by omega), if_neg (by omega)]; omega
theorem smm_all {c : Int} (hc : c = 1 ∨ c = 2) (f : Int) (k : Nat) : smm c f k 35 = k := by
  induction k with
  | zero => rw [smm_zero]; rfl
  | succ k ih =>
    have := iX_bd hc (f + k)
    rw [smm_step c f k 35 this.1, ih, if_pos (by omega)]; omega
theorem smm_bd (c f : Int) (k i : Nat) : 0 ≤ smm c f k i ∧ smm c f k i ≤ k * i := by
  induction i with
  | zero => rw [smm]; omega
  | succ i ih =>
    have := hcn_bd c f k i
    rw [smm, show ((k : Int) * ((i + 1 : Nat) : Int)) = k * i + k by rw [show ((i + 1 : Nat) : Int) = (i : Int) + 1 by omega, Int.mul_add, Int.mul_one]]
    omega

/-- The first year from y on with Easter on the day, or none among n. -/
theorem first_or (c y m d : Int) (n : Nat) : (∃ k : Nat, k < n ∧ hO c (y + k) m d = true ∧ ∀ j : Nat, j < k → hO c (y + j) m d = false) ∨ (∀ k : Nat, k < n → hO c (y + k) m d = false) := by
  induction n with
  | zero => exact .inr (fun k hk => by omega)
  | succ n ih =>
    rcases ih with ⟨k, hk, h⟩ | h
    · exact .inl ⟨k, by omega, h⟩
    · cases e : hO c (y + n) m d
      · refine .inr (fun k hk => ?_)
        rcases Nat.lt_or_ge k n with g | g
        · exact h k g
        · obtain rfl : k = n := by omega
          exact e
      · exact .inl ⟨n, by omega, e, h⟩

theorem q_uM2 (y : Int) : uM 2 y = (15 - (13 + 8 * (y / 100)) / 25 + y / 100 - y / 100 / 4) % 30 := by unfold uM; rw [if_neg (by omega)]
theorem q_uN2 (y : Int) : uN 2 y = (4 + y / 100 - y / 100 / 4) % 7 := by unfold uN; rw [if_neg (by omega)]
theorem q_uX2 (y : Int) : uX 2 y = if uE 2 y = 6 then (if uD 2 y = 29 then 1 else if uD 2 y = 28 ∧ (11 * uM 2 y + 11) % 30 < 19 then 2 else 0) else 0 := by unfold uX; rw [if_neg (by omega)]
theorem q_uE (c y : Int) : uE c y = (2 * (y % 4) + 4 * (y % 7) + 6 * uD c y + uN c y) % 7 := rfl
theorem q_uD (c y : Int) : uD c y = (19 * (y % 19) + uM c y) % 30 := rfl
theorem u_per1 (y : Int) : uO 1 (y + 532) = uO 1 y := by
  have e19 : (y + 532) % 19 = y % 19 := by omega
  have e4 : (y + 532) % 4 = y % 4 := by omega
  have e7 : (y + 532) % 7 = y % 7 := by omega
  have hm : uM 1 (y + 532) = uM 1 y := rfl
  have hn : uN 1 (y + 532) = uN 1 y := rfl
  have hd : uD 1 (y + 532) = uD 1 y := by rw [q_uD, q_uD, e19, hm]
  have he : uE 1 (y + 532) = uE 1 y := by rw [q_uE, q_uE, e4, e7, hd, hn]
  have hx : uX 1 (y + 532) = uX 1 y := rfl
  unfold uO; rw [hx, hd, he]
theorem u_per2 (y : Int) : uO 2 (y + 5700000) = uO 2 y := by
  have e19 : (y + 5700000) % 19 = y % 19 := by omega
  have e4 : (y + 5700000) % 4 = y % 4 := by omega
  have e7 : (y + 5700000) % 7 = (y % 7 + 5) % 7 := by omega
  have hk : (y + 5700000) / 100 = y / 100 + 57000 := by omega
  have hq : (y / 100 + 57000) / 4 = y / 100 / 4 + 14250 := by omega
  have hp : (13 + 8 * (y / 100 + 57000)) / 25 = (13 + 8 * (y / 100)) / 25 + 18240 := by omega
  have hm : uM 2 (y + 5700000) = uM 2 y := by
    rw [q_uM2, q_uM2, hk, hq, hp]
    generalize (13 + 8 * (y / 100)) / 25 = p
    generalize y / 100 / 4 = q
    generalize y / 100 = k
    omega
  have hd : uD 2 (y + 5700000) = uD 2 y := by rw [q_uD, q_uD, e19, hm]
  have hn : uN 2 (y + 5700000) = (uN 2 y + 1) % 7 := by
    rw [q_uN2, q_uN2, hk, hq]
    generalize y / 100 / 4 = q
    generalize y / 100 = k
    omega
  have he : uE 2 (y + 5700000) = uE 2 y := by
    rw [q_uE, q_uE, e4, e7, hd, hn]
    generalize uD 2 y = d
    generalize uN 2 y = n
    generalize y % 4 = a
    generalize y % 7 = b
    omega
  have hx : uX 2 (y + 5700000) = uX 2 y := by rw [q_uX2, q_uX2, he, hd, hm]
  unfold uO; rw [hx, hd, he]
/-- The period of a calendar. -/
def per (c : Int) : Int := if c = 1 then 532 else 5700000
theorem u_per {c : Int} (hc : c = 1 ∨ c = 2) (y : Int) : uO c (y + per c) = uO c y := by
  rcases hc with rfl | rfl
  · exact u_per1 y
  · exact u_per2 y
theorem hO_per {c : Int} (hc : c = 1 ∨ c = 2) (y m d : Int) : hO c (y + per c) m d = hO c y m d := by unfold hO; rw [u_per hc]
end Go.Proofs.Ytnaglaecoephnaa

namespace Go.Proofs.Ytnaglaecoephnaa
open Go.RowKit

/-- What was in memory is as it was, and the blocks made since hold l. -/
structure Blk (W : World) (l : List Obj) (u : World) : Prop where
  b : Below W.heap.size W u
  z : W.heap.size + l.length ≤ u.heap.size
  r : ∀ (i : Nat) (o : Obj), l[i]? = some o → u.heap[W.heap.size + i]? = some o
theorem Blk.nil (W : World) : Blk W [] W := ⟨Below.refl _ _, Nat.le_refl _, fun i o hi => by simp at hi⟩
theorem Blk.grow {W u u' : World} {l : List Obj} (h : Blk W l u) {n : Nat} (hb : Below n u u') (hn : W.heap.size + l.length ≤ n) : Blk W l u' :=
  ⟨h.b.trans (hb.mono (by omega)), Nat.le_trans h.z hb.size, fun i o hi => by
    have : i < l.length := (List.getElem?_eq_some_iff.1 hi).1
    rw [hb.block _ (by omega)]; exact h.r i o hi⟩
theorem Blk.on {W u u' : World} {l : List Obj} (h : Blk W l u) (hb : Below u.heap.size u u') : Blk W l u' := h.grow hb h.z
theorem Blk.al {W u : World} {l : List Obj} (h : Blk W l u) (hs : u.heap.size = W.heap.size + l.length) (o : Obj) : Blk W (l ++ [o]) (u.alloc o) ∧ (u.alloc o).heap.size = W.heap.size + (l ++ [o]).length := by
  refine ⟨⟨h.b.alloc (by omega) o, by simp; omega, fun i x hi => ?_⟩, by simp; omega⟩
  rcases Nat.lt_or_ge i l.length with g | g
  · rw [List.getElem?_append_left g] at hi; exact row_al (h.r i x hi) o
  · rw [List.getElem?_append_right g] at hi
    have : i - l.length = 0 := by
      rcases Nat.eq_zero_or_pos (i - l.length) with e | e
      · exact e
      · rw [List.getElem?_eq_none (by simp; omega)] at hi; cases hi
    rw [this] at hi; simp at hi; subst hi
    have e : W.heap.size + i = u.heap.size := by omega
    rw [e]; exact heap_alloc_new u o
theorem Blk.three (W : World) (o0 o1 o2 : Obj) : Blk W [o0, o1, o2] (((W.alloc o0).alloc o1).alloc o2) := by
  have h0 := Blk.al (Blk.nil W) (by simp) o0
  have h1 := Blk.al h0.1 h0.2 o1
  exact (Blk.al h1.1 h1.2 o2).1
theorem Blk.four (W : World) (o0 o1 o2 o3 : Obj) : Blk W [o0, o1, o2, o3] ((((W.alloc o0).alloc o1).alloc o2).alloc o3) := by
  have h0 := Blk.al (Blk.nil W) (by simp) o0
  have h1 := Blk.al h0.1 h0.2 o1
  have h2 := Blk.al h1.1 h1.2 o2
  exact (Blk.al h2.1 h2.2 o3).1
theorem Blk.five (W : World) (o0 o1 o2 o3 o4 : Obj) : Blk W [o0, o1, o2, o3, o4] (((((W.alloc o0).alloc o1).alloc o2).alloc o3).alloc o4) := by
  have h0 := Blk.al (Blk.nil W) (by simp) o0
  have h1 := Blk.al h0.1 h0.2 o1
  have h2 := Blk.al h1.1 h1.2 o2
  have h3 := Blk.al h2.1 h2.2 o3
  exact (Blk.al h3.1 h3.2 o4).1
theorem Blk.put {W u u' : World} {l : List Obj} (h : Blk W l u) (k : Nat) (o : Obj) (hb : Below W.heap.size W u') (hz : u'.heap.size = u.heap.size) (hk : u'.heap[W.heap.size + k]? = some o) (ho : ∀ b, b ≠ W.heap.size + k → u'.heap[b]? = u.heap[b]?) : Blk W (l.set k o) u' := by
  refine ⟨hb, by rw [List.length_set, hz]; exact h.z, fun i x hi => ?_⟩
  by_cases e : i = k
  · subst e
    rw [List.getElem?_set_self'] at hi
    cases hl : l[i]? with
    | none => rw [hl] at hi; simp at hi
    | some y => rw [hl] at hi; simp at hi; subst hi; exact hk
  · rw [List.getElem?_set_ne (Ne.symm e)] at hi
    rw [ho _ (by omega)]; exact h.r i x hi
theorem Blk.w {W u : World} {l : List Obj} (h : Blk W l u) (k i : Nat) {cs : Array Value} {t : Nat} (hk : l[k]? = some (.cells cs t (0, 0))) (v : Value) : Blk W (l.set k (.cells (cs.setIfInBounds i v) t (0, 0))) (u.setCell ⟨W.heap.size + k, i, none⟩ v) :=
  h.put k _ (h.b.setCell (p := ⟨W.heap.size + k, i, none⟩) (Nat.le_add_right _ _) v) (by simp) (heap_setCell_same u _ i _ _ v (h.r k _ hk)) (fun _ hb => heap_setCell_other _ _ _ _ hb)
theorem Blk.w1 {W u : World} {l : List Obj} (h : Blk W l u) (k : Nat) {x : Value} {t : Nat} (hk : l[k]? = some (.cells #[x] t (0, 0))) (v : Value) : Blk W (l.set k (.cells #[v] t (0, 0))) (u.setCell ⟨W.heap.size + k, 0, none⟩ v) := h.w k 0 hk v
theorem Blk.one {W u : World} {l : List Obj} (h : Blk W l u) (k : Nat) {x : Value} {t : Nat} (hk : l[k]? = some (.cells #[x] t (0, 0))) :
    u.cell? ⟨W.heap.size + k, 0, none⟩ = some x ∧ u.frozen? ⟨W.heap.size + k, 0, none⟩ = false ∧ W.heap.size + k < u.heap.size := by
  have h0 : u.cell? ⟨W.heap.size + k, 0, none⟩ = some x := by rw [cell_of_row u _ 0 _ _ _ (h.r k _ hk)]; rfl
  exact ⟨h0, frozen_of_row u _ 0 _ _ (h.r k _ hk), World.block_lt_of_cell? u _ h0⟩
theorem IntsAt.put {B : Nat} {v : Value} {xs : List Int} {w : World} (h : IntsAt B v xs w) {p : Addr} (hp : p.block < B) (x : Value) : IntsAt B v xs (w.setCell p x) := by
  refine World.ownsRow.kept h ⟨rfl, rfl, rfl, by simp, fun k _ hne => heap_setCell_other _ _ _ _ (fun e => hne (by rw [e]))⟩ (row := some p.block) ?_
  rcases h.2 with ⟨rfl, _⟩ | ⟨g, cap, cur, rfl, hb, _⟩
  · exact .inl rfl
  · right; simp [Value.ownBlock]; omega
abbrev box1 (v : Int) : Obj := .cells #[.int .i64 v] 3 (0, 0)
abbrev boxB (v : Bool) : Obj := .cells #[.bool v] 4 (0, 0)
abbrev boxS (v : Value) : Obj := .cells #[v] 24 (0, 0)

section
variable (c f l : Int) (w : World)
theorem kchk1 (h : c = 1) (k : Int) (hk : (f < 1 ∧ k = 1) ∨ (1 ≤ f ∧ 1000000000 < l ∧ k = 1) ∨ (1 ≤ f ∧ l ≤ 1000000000 ∧ l < f ∧ k = 1) ∨ (1 ≤ f ∧ l ≤ 1000000000 ∧ f ≤ l ∧ 10000 ≤ l - f ∧ k = 1) ∨ (1 ≤ f ∧ l ≤ 1000000000 ∧ f ≤ l ∧ l - f < 10000 ∧ k = 0)) :
    Calls Try.prog 34 #[.int .i64 c, .int .i64 f, .int .i64 l] w fun e w' => e = .returned (.int .i64 k) ∧ w = w' := by
  subst h
  rcases hk with ⟨h1, rfl⟩ | ⟨h1, h2, rfl⟩ | ⟨h1, h2, h3, rfl⟩ | ⟨h1, h2, h3, h4, rfl⟩ | ⟨h1, h2, h3, h4, rfl⟩
  all_goals
    go_enter Try.func34, Try.ntmps34
    go_wp2
    go_ret
    exact ⟨rfl, rfl⟩
theorem kchk2 (h : c = 2) (k : Int) (hk : (f < 1583 ∧ k = 1) ∨ (1583 ≤ f ∧ 1000000000 < l ∧ k = 1) ∨ (1583 ≤ f ∧ l ≤ 1000000000 ∧ l < f ∧ k = 1) ∨ (1583 ≤ f ∧ l ≤ 1000000000 ∧ f ≤ l ∧ 10000 ≤ l - f ∧ k = 1) ∨ (1583 ≤ f ∧ l ≤ 1000000000 ∧ f ≤ l ∧ l - f < 10000 ∧ k = 0)) :
    Calls Try.prog 34 #[.int .i64 c, .int .i64 f, .int .i64 l] w fun e w' => e = .returned (.int .i64 k) ∧ w = w' := by
  subst h
  rcases hk with ⟨h1, rfl⟩ | ⟨h1, h2, rfl⟩ | ⟨h1, h2, h3, rfl⟩ | ⟨h1, h2, h3, h4, rfl⟩ | ⟨h1, h2, h3, h4, rfl⟩
  all_goals
    go_enter Try.func34, Try.ntmps34
    go_wp2
    go_ret
    exact ⟨rfl, rfl⟩
theorem kchk3 (h1 : ¬ c = 1) (h2 : ¬ c = 2) : Calls Try.prog 34 #[.int .i64 c, .int .i64 f, .int .i64 l] w fun e w' => e = .returned (.int .i64 3) ∧ w = w' := by
  go_enter Try.func34, Try.ntmps34
  go_wp2
  go_ret
  exact ⟨rfl, rfl⟩
theorem epE_in1 (y : Int) : (epE 1 y = 0 ∧ 1 ≤ y ∧ y ≤ 1000000000) ∨ (epE 1 y = 1 ∧ ¬ (1 ≤ y ∧ y ≤ 1000000000)) := by
  have e : epE 1 y = eB (inY y) := rfl
  rw [e]
  by_cases hy : 1 ≤ y ∧ y ≤ 1000000000
  · rw [inY_iff.2 hy]; exact .inl ⟨rfl, hy⟩
  · rw [inY_false hy]; exact .inr ⟨rfl, hy⟩
theorem epE_in2 (y : Int) : (epE 2 y = 0 ∧ 1583 ≤ y ∧ y ≤ 1000000000) ∨ (epE 2 y = 1 ∧ ¬ (1583 ≤ y ∧ y ≤ 1000000000)) := by
  have e : epE 2 y = eB (inG y) := rfl
  rw [e]
  cases hy : inG y
  · refine .inr ⟨rfl, fun h => ?_⟩
    rw [inG_iff.2 h] at hy; cases hy
  · exact .inl ⟨rfl, inG_iff.1 hy⟩
theorem rgE_pay {a b : Int} (ha : epE c f = a) (hb : epE c l = b) : rgE c f l = if a = 0 then (if b = 0 ∧ f ≤ l ∧ l - f ≤ 9999 then 0 else 1) else a := by unfold rgE; rw [ha, hb]
theorem kchk_any : Calls Try.prog 34 #[.int .i64 c, .int .i64 f, .int .i64 l] w fun e w' => e = .returned (.int .i64 (rgE c f l)) ∧ w = w' := by
  by_cases h1 : c = 1
  · refine kchk1 c f l w h1 _ ?_
    subst h1
    rcases epE_in1 f with ⟨a, f1, f2⟩ | ⟨a, f1⟩
    · rcases epE_in1 l with ⟨b, l1, l2⟩ | ⟨b, l1⟩
      · rw [rgE_pay 1 f l a b, if_pos rfl]
        by_cases g1 : f ≤ l
        · by_cases g2 : l - f ≤ 9999
          · rw [if_pos ⟨rfl, g1, g2⟩]; omega
          · rw [if_neg (fun h => g2 h.2.2)]; omega
        · rw [if_neg (fun h => g1 h.2.1)]; omega
      · rw [rgE_pay 1 f l a b, if_pos rfl, if_neg (fun h => by omega)]; omega
    · rw [rgE, if_neg (by omega), a]; omega
  · by_cases h2 : c = 2
    · refine kchk2 c f l w h2 _ ?_
      subst h2
      rcases epE_in2 f with ⟨a, f1, f2⟩ | ⟨a, f1⟩
      · rcases epE_in2 l with ⟨b, l1, l2⟩ | ⟨b, l1⟩
        · rw [rgE_pay 2 f l a b, if_pos rfl]
          by_cases g1 : f ≤ l
          · by_cases g2 : l - f ≤ 9999
            · rw [if_pos ⟨rfl, g1, g2⟩]; omega
            · rw [if_neg (fun h => g2 h.2.2)]; omega
          · rw [if_neg (fun h => g1 h.2.1)]; omega
        · rw [rgE_pay 2 f l a b, if_pos rfl, if_neg (fun h => by omega)]; omega
      · rw [rgE, if_neg (by omega), a]; omega
    · have e : epE c f = 3 := by unfold epE; rw [okC_not h1 h2]; rfl
      have : rgE c f l = 3 := by rw [rgE, if_neg (by omega), e]
      rw [this]; exact kchk3 c f l w h1 h2
end

section
variable (c y m d : Int) (w : World)
theorem kheas0 (M D : Int) (b : Bool) (hb : ((M == m) && (D == d)) = b) (H : ∀ w, Calls Try.prog 35 #[.int .i64 c, .int .i64 y] w fun e w' => e = .returned (datv y M D 0) ∧ Below w.heap.size w w') :
    Calls Try.prog 24 #[.int .i64 c, .int .i64 y, .int .i64 m, .int .i64 d] w fun e w' => e = .returned (.bool b) ∧ Below w.heap.size w w' := by
  cases e1 : (M == m) <;> cases e2 : (D == d)
  all_goals
    rw [e1, e2] at hb
    subst hb
    have S0 := Lib.hid (Below.refl w.heap.size w)
    go_enter Try.func24, Try.ntmps24
    go_wp2_with fail
    refine (H _).mono ?_
    rintro e w1 ⟨rfl, hb1⟩
    have S1 := Lib.hid hb1
    clear hb1
    go_wp2_with fail
    go_ret
    exact ⟨rfl, below_al_own S1.out _⟩
theorem kheas_any (h : epE c y = 0) : Calls Try.prog 24 #[.int .i64 c, .int .i64 y, .int .i64 m, .int .i64 d] w fun e w' => e = .returned (.bool (hO c y m d)) ∧ Below w.heap.size w w' :=
  kheas0 c y m d w _ _ _ rfl (fun w => udate_any c y w h)
theorem kday0 (n : Int) (n1 : 114 ≤ n) (n2 : n ≤ 148) (H : ∀ w, Calls Try.prog 36 #[.int .i64 c, .int .i64 y] w fun e w' => e = .returned (numv n 0) ∧ Below w.heap.size w w') :
    Calls Try.prog 26 #[.int .i64 c, .int .i64 y] w fun e w' => e = .returned (.int .i64 (n - 114)) ∧ Below w.heap.size w w' := by
  go_enter Try.func26, Try.ntmps26
  go_wp2_with fail
  refine (H _).mono ?_
  rintro e w1 ⟨rfl, hb1⟩
  have S1 := Lib.hid hb1
  clear hb1
  go_wp2_with fail
  go_ret
  exact ⟨rfl, S1.out⟩
theorem kday_any (h : epE c y = 0) : Calls Try.prog 26 #[.int .i64 c, .int .i64 y] w fun e w' => e = .returned (.int .i64 (iX c y)) ∧ Below w.heap.size w w' := by
  have hb := bN_bd c y (epE_zero h).1
  rw [← bN_iX]
  exact kday0 c y w _ hb.1 hb.2 (fun w => bnum_any c y w h)
end

section
variable (c f l : Int) (F : Nat) (C : Array Value) (n : Nat) (I : Nat → World → Prop) (J : World → Prop) (w : World)
theorem visit_all (f1 : 1 ≤ f) (l2 : l ≤ 1000000000) (hn : l - f + 1 = n) (hn2 : n ≤ 10000)
    (HC : ∀ w, Calls Try.prog 34 #[.int .i64 c, .int .i64 f, .int .i64 l] w fun e w' => e = .returned (.int .i64 0) ∧ w = w')
    (E0 : ∀ (args : Array Value) (w : World), (callFunc F args).run Try.prog w = .ok (.enter F args) w)
    (H : ∀ (k : Nat), k < n → ∀ w, I k w → Calls Try.prog F (#[.int .i64 (f + k)] ++ C) w fun e w' => e = .returned (.bool true) ∧ I (k + 1) w') (hI : I 0 w) :
    Calls Try.prog 22 #[.int .i64 c, .int .i64 f, .int .i64 l, .func (.func F) #[] C] w fun e w' => e = .returned (.int .i64 0) ∧ I n w' := by
  have Q0 := Lib.hid hI
  have HH := Lib.hid H
  clear hI H
  go_enter Try.func22, Try.ntmps22
  go_wp2_with fail
  refine (HC _).mono ?_
  rintro e wq ⟨rfl, rfl⟩
  go_wp2_with fail
  go_loopw [22] (fun i wr => ∃ k : Nat, k ≤ n ∧ i = .int .i64 k ∧ I k wr) (fun i _ => n - (intOf i).toNat)
  case atStart => exact ⟨0, Nat.zero_le _, rfl, Q0.out⟩
  case round =>
    obtain ⟨k, hk, rfl, hq⟩ := hrel
    have Q1 := Lib.hid hq
    clear hq
    by_cases hlt : k < n
    · go_wp2_with fail
      refine (HH.out k hlt _ Q1.out).mono ?_
      rintro e w1 ⟨rfl, hq⟩
      have Q2 := Lib.hid hq
      clear hq
      go_wp2_with fail
      go_roundw
      case rel => exact ⟨k + 1, by omega, by go_num, Q2.out⟩
      case measure => simp [intOf]; omega
    · obtain rfl : k = n := by omega
      go_wp2_with fail
      go_ret
      exact ⟨rfl, Q1.out⟩
theorem visit_stop (m : Nat) (hm : m < n) (f1 : 1 ≤ f) (l2 : l ≤ 1000000000) (hn : l - f + 1 = n) (hn2 : n ≤ 10000)
    (HC : ∀ w, Calls Try.prog 34 #[.int .i64 c, .int .i64 f, .int .i64 l] w fun e w' => e = .returned (.int .i64 0) ∧ w = w')
    (E0 : ∀ (args : Array Value) (w : World), (callFunc F args).run Try.prog w = .ok (.enter F args) w)
    (H : ∀ (k : Nat), k < m → ∀ w, I k w → Calls Try.prog F (#[.int .i64 (f + k)] ++ C) w fun e w' => e = .returned (.bool true) ∧ I (k + 1) w')
    (HS : ∀ w, I m w → Calls Try.prog F (#[.int .i64 (f + m)] ++ C) w fun e w' => e = .returned (.bool false) ∧ J w') (hI : I 0 w) :
    Calls Try.prog 22 #[.int .i64 c, .int .i64 f, .int .i64 l, .func (.func F) #[] C] w fun e w' => e = .returned (.int .i64 0) ∧ J w' := by
  have Q0 := Lib.hid hI
  have HH := Lib.hid H
  have HJ := Lib.hid HS
  clear hI H HS
  go_enter Try.func22, Try.ntmps22
  go_wp2_with fail
  refine (HC _).mono ?_
  rintro e wq ⟨rfl, rfl⟩
  go_wp2_with fail
  go_loopw [22] (fun i wr => ∃ k : Nat, k ≤ m ∧ i = .int .i64 k ∧ I k wr) (fun i _ => n - (intOf i).toNat)
  case atStart => exact ⟨0, Nat.zero_le _, rfl, Q0.out⟩
  case round =>
    obtain ⟨k, hk, rfl, hq⟩ := hrel
    have Q1 := Lib.hid hq
    clear hq
    by_cases hlt : k < m
    · go_wp2_with fail
      refine (HH.out k hlt _ Q1.out).mono ?_
      rintro e w1 ⟨rfl, hq⟩
      have Q2 := Lib.hid hq
      clear hq
      go_wp2_with fail
      go_roundw
      case rel => exact ⟨k + 1, by omega, by go_num, Q2.out⟩
      case measure => simp [intOf]; omega
    · obtain rfl : k = m := by omega
      go_wp2_with fail
      refine (HJ.out _ Q1.out).mono ?_
      rintro e w1 ⟨rfl, hq⟩
      have Q2 := Lib.hid hq
      clear hq
      go_wp2_with fail
      go_ret
      exact ⟨rfl, Q2.out⟩
theorem visit_no (k : Int) (hk : (k != 0) = true) (fn : Value)
    (HC : ∀ w, Calls Try.prog 34 #[.int .i64 c, .int .i64 f, .int .i64 l] w fun e w' => e = .returned (.int .i64 k) ∧ w = w') :
    Calls Try.prog 22 #[.int .i64 c, .int .i64 f, .int .i64 l, fn] w fun e w' => e = .returned (.int .i64 k) ∧ w = w' := by
  go_enter Try.func22, Try.ntmps22
  go_wp2_with fail
  refine (HC _).mono ?_
  rintro e wq ⟨rfl, rfl⟩
  go_wp2_with fail
  go_ret
  exact ⟨rfl, rfl⟩
end
end Go.Proofs.Ytnaglaecoephnaa

namespace Go.Proofs.Ytnaglaecoephnaa
open Go.RowKit

theorem kper1 (w : World) : Calls Try.prog 19 #[.int .i64 1] w fun e w' => e = .returned (numv 532 0) ∧ w = w' := by
  go_enter Try.func19, Try.ntmps19
  go_wp2
  go_ret2
  exact ⟨rfl, rfl⟩
theorem kper2 (w : World) : Calls Try.prog 19 #[.int .i64 2] w fun e w' => e = .returned (numv 5700000 0) ∧ w = w' := by
  go_enter Try.func19, Try.ntmps19
  go_wp2
  go_ret2
  exact ⟨rfl, rfl⟩

theorem IntsAt.some1 {B : Nat} {v : Value} {xs : List Int} {a : Int} {w : World} (h : IntsAt B v (xs ++ [a]) w) : ∃ g cap, v = .slice (some ⟨g, 0, none⟩) (xs.length + 1) cap := by
  rcases h.get with ⟨_, hx⟩ | ⟨g, cap, rfl, _⟩
  · simp at hx
  · exact ⟨g, cap, by rw [List.length_append]; rfl⟩
section
variable (W : World) (c m d : Int)
/-- Before a round of Years: what is captured, and the years found so far. -/
def Yst (xs : List Int) (u : World) : Prop := ∃ v, Blk W [box1 c, box1 m, box1 d, boxS v] u ∧ IntsAt (W.heap.size + 4) v xs u
abbrev ycap : Array Value := #[.pointer (some ⟨W.heap.size, 0, none⟩), .pointer (some ⟨W.heap.size + 1, 0, none⟩), .pointer (some ⟨W.heap.size + 2, 0, none⟩), .pointer (some ⟨W.heap.size + 3, 0, none⟩)]
theorem kyrs_no (y : Int) (H : ∀ w, Calls Try.prog 24 #[.int .i64 c, .int .i64 y, .int .i64 m, .int .i64 d] w fun e w' => e = .returned (.bool false) ∧ Below w.heap.size w w')
    (xs : List Int) (u : World) (hu : Yst W c m d xs u) : Calls Try.prog 23 (#[.int .i64 y] ++ ycap W) u fun e u' => e = .returned (.bool true) ∧ Yst W c m d xs u' := by
  obtain ⟨v, hq, hv⟩ := hu
  have Q0 := Lib.hid hq
  have V0 := Lib.hid hv
  clear hq hv
  obtain ⟨c0, g0, z0⟩ := Q0.out.one 0 rfl
  rw [Nat.add_zero] at c0 g0 z0
  obtain ⟨c1, g1, z1⟩ := Q0.out.one 1 rfl
  obtain ⟨c2, g2, z2⟩ := Q0.out.one 2 rfl
  show Calls Try.prog 23 #[.int .i64 y, .pointer (some ⟨W.heap.size, 0, none⟩), .pointer (some ⟨W.heap.size + 1, 0, none⟩), .pointer (some ⟨W.heap.size + 2, 0, none⟩), .pointer (some ⟨W.heap.size + 3, 0, none⟩)] u _
  go_enter Try.func23, Try.ntmps23
  go_wp2_with fail
  refine (H _).mono ?_
  rintro e u1 ⟨rfl, hb⟩
  have Q1 := Lib.hid (Q0.out.on hb)
  have V1 := Lib.hid (V0.out.on hb)
  clear hb
  go_wp2_with fail
  go_ret
  exact ⟨rfl, v, Q1.out, V1.out⟩
theorem kyrs_yes (y : Int) (H : ∀ w, Calls Try.prog 24 #[.int .i64 c, .int .i64 y, .int .i64 m, .int .i64 d] w fun e w' => e = .returned (.bool true) ∧ Below w.heap.size w w')
    (xs : List Int) (hle : xs.length ≤ 10000) (u : World) (hu : Yst W c m d xs u) : Calls Try.prog 23 (#[.int .i64 y] ++ ycap W) u fun e u' => e = .returned (.bool true) ∧ Yst W c m d (xs ++ [y]) u' := by
  obtain ⟨i0, hi, hz0, hz1, hz2⟩ := info_parts infoInt
  obtain ⟨v, hq, hv⟩ := hu
  have Q0 := Lib.hid hq
  have V0 := Lib.hid hv
  clear hq hv
  obtain ⟨c0, g0, z0⟩ := Q0.out.one 0 rfl
  rw [Nat.add_zero] at c0 g0 z0
  obtain ⟨c1, g1, z1⟩ := Q0.out.one 1 rfl
  obtain ⟨c2, g2, z2⟩ := Q0.out.one 2 rfl
  show Calls Try.prog 23 #[.int .i64 y, .pointer (some ⟨W.heap.size, 0, none⟩), .pointer (some ⟨W.heap.size + 1, 0, none⟩), .pointer (some ⟨W.heap.size + 2, 0, none⟩), .pointer (some ⟨W.heap.size + 3, 0, none⟩)] u _
  go_enter Try.func23, Try.ntmps23
  go_wp2_with fail
  refine (H _).mono ?_
  rintro e u1 ⟨rfl, hb⟩
  have Q1 := Lib.hid (Q0.out.on hb)
  have V1 := Lib.hid (V0.out.on hb)
  clear hb
  clear c0 g0 z0 c1 g1 z1 c2 g2 z2
  obtain ⟨c3, g3, z3⟩ := Q1.out.one 3 rfl
  have hz := Lib.hid Q1.out.z
  go_wp2_with (at_builtin; refine wpList_append_own _ rfl _ _ 24 rfl (W.heap.size + 4) 3 i0 (.int .i64 0) 1 8 Try.underlying24 hi hz0 hz1 hz2 rfl (by decide) _ _ _ rfl (V1.out.al _) ⟨u1.heap.size, 0, none⟩ 1 1 [.int .i64 y] rfl rfl (cell_one_new _ _ _) (by simp [Value.oneCell']) (by unfold maxLen; omega) (by omega) (by have := hz.out; simp at this; simp; omega) ?_; intro v' u2 hown' hgrow _; obtain ⟨hv2, hb2⟩ := V1.out.app (Below.refl _ _) (by have := hz.out; simp at this; omega) hown' hgrow; have V2 := Lib.hid hv2; have Q2 := Lib.hid (Q1.out.grow hb2 (by simp)); clear hown' hgrow hv2 hb2 c3 g3 z3; obtain ⟨c3, g3, z3⟩ := Q2.out.one 3 rfl; obtain ⟨g', cap', rfl⟩ := V2.out.some1)
  go_ret
  exact ⟨rfl, _, Q2.out.w1 3 rfl _, V2.out.put (p := ⟨W.heap.size + 3, 0, none⟩) (Nat.lt_succ_self _) _⟩
end
/-- What Years hands back. -/
def RetY (xs : List Int) (k : Int) (W : World) (e : Ending) (w' : World) : Prop := ∃ v, e = .returned (.tuple #[v, .int .i64 k]) ∧ IntsAt W.heap.size v xs w' ∧ Below W.heap.size W w'
theorem mk_any (fn : Fn) (first cap : Array Value) (w : World) : (Instr.makeFunc fn first cap).run Try.prog w = .ok (.func fn first cap) w := rfl
section
variable (c f l m d : Int) (W : World)
theorem kyears_ok (n : Nat) (h : rgE c f l = 0) (hn : l - f + 1 = n) : Calls Try.prog 10 #[.int .i64 c, .int .i64 f, .int .i64 l, .int .i64 m, .int .i64 d] W (RetY (yrs c f m d n) 0 W) := by
  obtain ⟨h0, h1, h2, h3⟩ := rgE_zero h
  have b0 := epE_inY h0
  have b1 := epE_inY h1
  have HC := fun w => kchk_any c f l w
  rw [h] at HC
  have HV := Lib.hid (fun w (hw : Yst W c m d [] w) => visit_all c f l 23 (ycap W) n (fun k u => Yst W c m d (yrs c f m d k) u) w b0.1 b1.2 hn (by omega) HC Try.call23
    (fun k hk u hu => by
      have HE := fun w => kheas_any c (f + k) m d w (rgE_at h (by omega))
      have hle := yrs_le c f m d k
      cases e : hO c (f + k) m d
      · rw [e] at HE
        rw [yrs_no e]
        exact kyrs_no W c m d _ HE _ u hu
      · rw [e] at HE
        rw [yrs_yes e]
        exact kyrs_yes W c m d _ HE _ (by omega) u hu) hw)
  have hmf := mk_any
  clear HC b0 b1 h0 h1 h2 h3 h hn
  generalize yrs c f m d n = xs at *
  go_enter Try.func10, Try.ntmps10
  go_wp2_with fail
  refine (HV.out _ ⟨_, Blk.four W _ _ _ _, IntsAt.nil _ _⟩).mono ?_
  rintro e u ⟨rfl, v, hq, hv⟩
  have Q1 := Lib.hid hq
  have V1 := Lib.hid hv
  clear hq hv
  obtain ⟨c3, g3, z3⟩ := Q1.out.one 3 rfl
  go_wp2_with fail
  go_ret2
  exact ⟨_, rfl, V1.out.lower (by omega), Q1.out.b⟩
theorem kyears_no (k : Int) (h : rgE c f l = k) (hk : (k != 0) = true) : Calls Try.prog 10 #[.int .i64 c, .int .i64 f, .int .i64 l, .int .i64 m, .int .i64 d] W (RetY [] k W) := by
  have HC := fun w => kchk_any c f l w
  rw [h] at HC
  have HV := Lib.hid (fun fn w => visit_no c f l w k hk fn HC)
  have hmf := mk_any
  clear HC h hk
  go_enter Try.func10, Try.ntmps10
  go_wp2_with fail
  refine (HV.out _ _).mono ?_
  rintro e u ⟨rfl, rfl⟩
  have Q1 := Lib.hid (Blk.four W (box1 c) (box1 m) (box1 d) (boxS (.slice none 0 0)))
  obtain ⟨c3, g3, z3⟩ := Q1.out.one 3 rfl
  go_wp2_with fail
  go_ret2
  exact ⟨_, rfl, IntsAt.nil _ _, Q1.out.b⟩
end

section
variable (W : World) (c m d : Int)
abbrev ncap : Array Value := #[.pointer (some ⟨W.heap.size, 0, none⟩), .pointer (some ⟨W.heap.size + 1, 0, none⟩), .pointer (some ⟨W.heap.size + 2, 0, none⟩), .pointer (some ⟨W.heap.size + 3, 0, none⟩), .pointer (some ⟨W.heap.size + 4, 0, none⟩)]
abbrev nblk (b : Bool) (k : Int) : List Obj := [box1 c, box1 m, box1 d, boxB b, box1 k]
theorem knx_no (y : Int) (H : ∀ w, Calls Try.prog 24 #[.int .i64 c, .int .i64 y, .int .i64 m, .int .i64 d] w fun e w' => e = .returned (.bool false) ∧ Below w.heap.size w w')
    (u : World) (hu : Blk W (nblk c m d false 0) u) : Calls Try.prog 31 (#[.int .i64 y] ++ ncap W) u fun e u' => e = .returned (.bool true) ∧ Blk W (nblk c m d false 0) u' := by
  have Q0 := Lib.hid hu
  clear hu
  obtain ⟨c0, g0, z0⟩ := Q0.out.one 0 rfl
  rw [Nat.add_zero] at c0 g0 z0
  obtain ⟨c1, g1, z1⟩ := Q0.out.one 1 rfl
  obtain ⟨c2, g2, z2⟩ := Q0.out.one 2 rfl
  show Calls Try.prog 31 #[.int .i64 y, .pointer (some ⟨W.heap.size, 0, none⟩), .pointer (some ⟨W.heap.size + 1, 0, none⟩), .pointer (some ⟨W.heap.size + 2, 0, none⟩), .pointer (some ⟨W.heap.size + 3, 0, none⟩), .pointer (some ⟨W.heap.size + 4, 0, none⟩)] u _
  go_enter Try.func31, Try.ntmps31
  go_wp2_with fail
  refine (H _).mono ?_
  rintro e u1 ⟨rfl, hb⟩
  have Q1 := Lib.hid (Q0.out.on hb)
  clear hb
  clear c0 g0 z0 c1 g1 z1 c2 g2 z2
  obtain ⟨c3, g3, z3⟩ := Q1.out.one 3 rfl
  go_wp2_with fail
  go_ret
  exact ⟨rfl, Q1.out⟩
theorem knx_yes (y : Int) (H : ∀ w, Calls Try.prog 24 #[.int .i64 c, .int .i64 y, .int .i64 m, .int .i64 d] w fun e w' => e = .returned (.bool true) ∧ Below w.heap.size w w')
    (u : World) (hu : Blk W (nblk c m d false 0) u) : Calls Try.prog 31 (#[.int .i64 y] ++ ncap W) u fun e u' => e = .returned (.bool false) ∧ Blk W (nblk c m d true y) u' := by
  have Q0 := Lib.hid hu
  clear hu
  obtain ⟨c0, g0, z0⟩ := Q0.out.one 0 rfl
  rw [Nat.add_zero] at c0 g0 z0
  obtain ⟨c1, g1, z1⟩ := Q0.out.one 1 rfl
  obtain ⟨c2, g2, z2⟩ := Q0.out.one 2 rfl
  show Calls Try.prog 31 #[.int .i64 y, .pointer (some ⟨W.heap.size, 0, none⟩), .pointer (some ⟨W.heap.size + 1, 0, none⟩), .pointer (some ⟨W.heap.size + 2, 0, none⟩), .pointer (some ⟨W.heap.size + 3, 0, none⟩), .pointer (some ⟨W.heap.size + 4, 0, none⟩)] u _
  go_enter Try.func31, Try.ntmps31
  go_wp2_with fail
  refine (H _).mono ?_
  rintro e u1 ⟨rfl, hb⟩
  have Q1 := Lib.hid (Q0.out.on hb)
  clear hb
  clear c0 g0 z0 c1 g1 z1 c2 g2 z2
  obtain ⟨c3, g3, z3⟩ := Q1.out.one 3 rfl
  obtain ⟨c4, g4, z4⟩ := Q1.out.one 4 rfl
  go_wp2_with fail
  go_ret
  exact ⟨rfl, (Q1.out.w1 3 rfl _).w1 4 rfl _⟩
end
section
variable (W : World) (c f : Int)
abbrev ecap : Array Value := #[.pointer (some ⟨W.heap.size, 0, none⟩), .pointer (some ⟨W.heap.size + 1, 0, none⟩), .pointer (some ⟨W.heap.size + 3, 0, none⟩), .pointer (some ⟨W.heap.size + 2, 0, none⟩)]
abbrev eblk (e i : Int) : List Obj := [box1 c, box1 f, box1 e, box1 i]
theorem kea_new (y i e0 i0 : Int) (hw : y = f ∨ (¬ y = f ∧ i < i0)) (H : ∀ w, Calls Try.prog 26 #[.int .i64 c, .int .i64 y] w fun e w' => e = .returned (.int .i64 i) ∧ Below w.heap.size w w')
    (u : World) (hu : Blk W (eblk c f e0 i0) u) : Calls Try.prog 27 (#[.int .i64 y] ++ ecap W) u fun e u' => e = .returned (.bool true) ∧ Blk W (eblk c f y i) u' := by
  have Q0 := Lib.hid hu
  clear hu
  show Calls Try.prog 27 #[.int .i64 y, .pointer (some ⟨W.heap.size, 0, none⟩), .pointer (some ⟨W.heap.size + 1, 0, none⟩), .pointer (some ⟨W.heap.size + 3, 0, none⟩), .pointer (some ⟨W.heap.size + 2, 0, none⟩)] u _
  rcases hw with rfl | ⟨hw1, hw2⟩
  · obtain ⟨c0, g0, z0⟩ := Q0.out.one 0 rfl
    rw [Nat.add_zero] at c0 g0 z0
    go_enter Try.func27, Try.ntmps27
    go_wp2_with fail
    refine (H _).mono ?_
    rintro e u1 ⟨rfl, hb⟩
    have Q1 := Lib.hid (Q0.out.on hb)
    clear hb
    clear c0 g0 z0
    obtain ⟨c1, g1, z1⟩ := Q1.out.one 1 rfl
    obtain ⟨c2, g2, z2⟩ := Q1.out.one 2 rfl
    obtain ⟨c3, g3, z3⟩ := Q1.out.one 3 rfl
    go_wp2_with fail
    go_ret
    exact ⟨rfl, (Q1.out.w1 2 rfl _).w1 3 rfl _⟩
  · have e1 : (y == f) = false := by simpa using hw1
    obtain ⟨c0, g0, z0⟩ := Q0.out.one 0 rfl
    rw [Nat.add_zero] at c0 g0 z0
    go_enter Try.func27, Try.ntmps27
    go_wp2_with fail
    refine (H _).mono ?_
    rintro e u1 ⟨rfl, hb⟩
    have Q1 := Lib.hid (Q0.out.on hb)
    clear hb
    clear c0 g0 z0
    obtain ⟨c1, g1, z1⟩ := Q1.out.one 1 rfl
    obtain ⟨c2, g2, z2⟩ := Q1.out.one 2 rfl
    obtain ⟨c3, g3, z3⟩ := Q1.out.one 3 rfl
    go_wp2_with fail
    go_ret
    exact ⟨rfl, (Q1.out.w1 2 rfl _).w1 3 rfl _⟩
theorem kea_old (y i e0 i0 : Int) (hw1 : ¬ y = f) (hw2 : ¬ i < i0) (H : ∀ w, Calls Try.prog 26 #[.int .i64 c, .int .i64 y] w fun e w' => e = .returned (.int .i64 i) ∧ Below w.heap.size w w')
    (u : World) (hu : Blk W (eblk c f e0 i0) u) : Calls Try.prog 27 (#[.int .i64 y] ++ ecap W) u fun e u' => e = .returned (.bool true) ∧ Blk W (eblk c f e0 i0) u' := by
  have Q0 := Lib.hid hu
  clear hu
  have e1 : (y == f) = false := by simpa using hw1
  obtain ⟨c0, g0, z0⟩ := Q0.out.one 0 rfl
  rw [Nat.add_zero] at c0 g0 z0
  show Calls Try.prog 27 #[.int .i64 y, .pointer (some ⟨W.heap.size, 0, none⟩), .pointer (some ⟨W.heap.size + 1, 0, none⟩), .pointer (some ⟨W.heap.size + 3, 0, none⟩), .pointer (some ⟨W.heap.size + 2, 0, none⟩)] u _
  go_enter Try.func27, Try.ntmps27
  go_wp2_with fail
  refine (H _).mono ?_
  rintro e u1 ⟨rfl, hb⟩
  have Q1 := Lib.hid (Q0.out.on hb)
  clear hb
  clear c0 g0 z0
  obtain ⟨c1, g1, z1⟩ := Q1.out.one 1 rfl
  obtain ⟨c3, g3, z3⟩ := Q1.out.one 3 rfl
  go_wp2_with fail
  go_ret
  exact ⟨rfl, Q1.out⟩
/-- What the round k of Earliest finds. -/
def Est (k : Nat) (u : World) : Prop := Blk W (eblk c f (if k = 0 then 0 else bst c f k) (if k = 0 then 0 else iX c (bst c f k))) u
theorem kea_any (k : Nat) (h : epE c (f + k) = 0) (u : World) (hu : Est W c f k u) : Calls Try.prog 27 (#[.int .i64 (f + k)] ++ ecap W) u fun e u' => e = .returned (.bool true) ∧ Est W c f (k + 1) u' := by
  have H := fun w => kday_any c (f + k) w h
  unfold Est at *
  rw [if_neg (Nat.succ_ne_zero k), if_neg (Nat.succ_ne_zero k)]
  rcases Nat.eq_zero_or_pos k with rfl | hk
  · have e : bst c f (0 + 1) = f + ((0 : Nat) : Int) := by rw [bst_one]; omega
    rw [e]
    exact kea_new W c f _ _ _ _ (.inl (by omega)) H u hu
  · rw [if_neg (by omega), if_neg (by omega)] at hu
    by_cases g : iX c (f + k) < iX c (bst c f k)
    · rw [bst_lt g]
      exact kea_new W c f _ _ _ _ (.inr ⟨by omega, g⟩) H u hu
    · rw [bst_ge g]
      exact kea_old W c f _ _ _ _ (by omega) g H u hu
end
section
variable (c f l : Int) (W : World)
theorem kearl_ok (n : Nat) (h : rgE c f l = 0) (hn : l - f + 1 = n) : Calls Try.prog 12 #[.int .i64 c, .int .i64 f, .int .i64 l] W fun e w' => e = .returned (numv (bst c f n) 0) ∧ Below W.heap.size W w' := by
  obtain ⟨h0, h1, h2, h3⟩ := rgE_zero h
  have b0 := epE_inY h0
  have b1 := epE_inY h1
  have HC := fun w => kchk_any c f l w
  rw [h] at HC
  have HV := Lib.hid (fun w (hw : Est W c f 0 w) => visit_all c f l 27 (ecap W) n (fun k u => Est W c f k u) w b0.1 b1.2 hn (by omega) HC Try.call27
    (fun k hk u hu => kea_any W c f k (rgE_at h (by omega)) u hu) hw)
  have hmf := mk_any
  have hn0 : n ≠ 0 := by omega
  clear HC b0 b1 h0 h1 h2 h3 h hn
  go_enter Try.func12, Try.ntmps12
  go_wp2_with fail
  refine (HV.out _ (Blk.four W _ _ _ _)).mono ?_
  rintro e u ⟨rfl, hq⟩
  unfold Est at hq
  rw [if_neg hn0, if_neg hn0] at hq
  have Q1 := Lib.hid hq
  clear hq
  obtain ⟨c2, g2, z2⟩ := Q1.out.one 2 rfl
  go_wp2_with fail
  go_ret2
  exact ⟨rfl, Q1.out.b⟩
theorem kearl_no (k : Int) (h : rgE c f l = k) (hk : (k != 0) = true) : Calls Try.prog 12 #[.int .i64 c, .int .i64 f, .int .i64 l] W fun e w' => e = .returned (numv 0 k) ∧ Below W.heap.size W w' := by
  have HC := fun w => kchk_any c f l w
  rw [h] at HC
  have HV := Lib.hid (fun fn w => visit_no c f l w k hk fn HC)
  have hmf := mk_any
  clear HC h hk
  go_enter Try.func12, Try.ntmps12
  go_wp2_with fail
  refine (HV.out _ _).mono ?_
  rintro e u ⟨rfl, rfl⟩
  have Q1 := Lib.hid (Blk.four W (box1 c) (box1 f) (box1 0) (box1 0))
  obtain ⟨c2, g2, z2⟩ := Q1.out.one 2 rfl
  go_wp2_with fail
  go_ret2
  exact ⟨rfl, Q1.out.b⟩
end
end Go.Proofs.Ytnaglaecoephnaa

namespace Go.Proofs.Ytnaglaecoephnaa
open Go.RowKit

section
variable (c y m d : Int) (W : World)
/-- The last year that Next tries. -/
def nlast (y : Int) : Int := (if y ≤ 999990001 then y else 999990001) + 9999
theorem rgE_next (h : epE c y = 0) : rgE c y (nlast y) = 0 := by
  have hc := (epE_zero h).1
  have hb := epE_inY h
  have hl : y ≤ nlast y ∧ nlast y ≤ 1000000000 ∧ nlast y - y ≤ 9999 ∧ 1583 ≤ nlast y := by unfold nlast; split <;> omega
  refine rgE_of h ?_ hl.1 hl.2.2.1
  rcases hc with rfl | rfl
  · rcases epE_in1 (nlast y) with h | h
    · exact h.1
    · omega
  · rcases epE_in2 (nlast y) with h | h
    · exact h.1
    · omega
set_option maxHeartbeats 1000000 in
theorem knext_some (n k : Nat) (l : Int) (hl : nlast y = l) (h : rgE c y l = 0) (hn : l - y + 1 = n) (hk : k < n) (h1 : hO c (y + k) m d = true) (h0 : ∀ j : Nat, j < k → hO c (y + j) m d = false) :
    Calls Try.prog 17 #[.int .i64 c, .int .i64 y, .int .i64 m, .int .i64 d] W fun e w' => e = .returned (numv (y + k) 0) ∧ Below W.heap.size W w' := by
  obtain ⟨g0, g1, g2, g3⟩ := rgE_zero h
  have b0 := epE_inY g0
  have b1 := epE_inY g1
  have HC := fun w => kchk_any c y l w
  rw [h] at HC
  have HV := Lib.hid (fun w (hw : Blk W (nblk c m d false 0) w) => visit_stop c y l 31 (ncap W) n (fun _ u => Blk W (nblk c m d false 0) u) (fun u => Blk W (nblk c m d true (y + k)) u) w k hk b0.1 b1.2 hn (by omega) HC Try.call31
    (fun j hj u hu => by
      have HE := fun w => kheas_any c (y + j) m d w (rgE_at h (by omega))
      rw [h0 j hj] at HE
      exact knx_no W c m d _ HE u hu)
    (fun u hu => by
      have HE := fun w => kheas_any c (y + k) m d w (rgE_at h (by omega))
      rw [h1] at HE
      exact knx_yes W c m d _ HE u hu) hw)
  have hmf := mk_any
  clear HC h h0 h1 hk
  have hl' : (y ≤ 999990001 ∧ l = y + 10000 - 1) ∨ (999990001 < y ∧ l = 1000000000) := by subst hl; unfold nlast; split <;> omega
  clear hl
  rcases hl' with ⟨k1, rfl⟩ | ⟨k1, rfl⟩
  all_goals
    go_enter Try.func17, Try.ntmps17
    go_wp2_with fail
    refine (HV.out _ (Blk.five W _ _ _ _ _)).mono ?_
    rintro e u ⟨rfl, hq⟩
    have Q1 := Lib.hid hq
    clear hq
    obtain ⟨c3, g3, z3⟩ := Q1.out.one 3 rfl
    obtain ⟨c4, g4, z4⟩ := Q1.out.one 4 rfl
    go_wp2_with fail
    go_ret2
    exact ⟨rfl, Q1.out.b⟩
set_option maxHeartbeats 1000000 in
theorem knext_none (n : Nat) (l : Int) (hl : nlast y = l) (h : rgE c y l = 0) (hn : l - y + 1 = n) (h0 : ∀ j : Nat, j < n → hO c (y + j) m d = false) :
    Calls Try.prog 17 #[.int .i64 c, .int .i64 y, .int .i64 m, .int .i64 d] W fun e w' => e = .returned (numv 0 3) ∧ Below W.heap.size W w' := by
  obtain ⟨g0, g1, g2, g3⟩ := rgE_zero h
  have b0 := epE_inY g0
  have b1 := epE_inY g1
  have HC := fun w => kchk_any c y l w
  rw [h] at HC
  have HV := Lib.hid (fun w (hw : Blk W (nblk c m d false 0) w) => visit_all c y l 31 (ncap W) n (fun _ u => Blk W (nblk c m d false 0) u) w b0.1 b1.2 hn (by omega) HC Try.call31
    (fun j hj u hu => by
      have HE := fun w => kheas_any c (y + j) m d w (rgE_at h (by omega))
      rw [h0 j hj] at HE
      exact knx_no W c m d _ HE u hu) hw)
  have hmf := mk_any
  clear HC h h0
  have hl' : (y ≤ 999990001 ∧ l = y + 10000 - 1) ∨ (999990001 < y ∧ l = 1000000000) := by subst hl; unfold nlast; split <;> omega
  clear hl
  rcases hl' with ⟨k1, rfl⟩ | ⟨k1, rfl⟩
  all_goals
    go_enter Try.func17, Try.ntmps17
    go_wp2_with fail
    refine (HV.out _ (Blk.five W _ _ _ _ _)).mono ?_
    rintro e u ⟨rfl, hq⟩
    have Q1 := Lib.hid hq
    clear hq
    obtain ⟨c3, g3, z3⟩ := Q1.out.one 3 rfl
    go_wp2_with fail
    go_ret2
    exact ⟨rfl, Q1.out.b⟩
set_option maxHeartbeats 1000000 in
theorem knext_bad (k : Int) (h : epE c y = k) (hk : (k != 0) = true) (y1 : -9223372036854775808 ≤ y) (y2 : y ≤ 9223372036854775807) :
    Calls Try.prog 17 #[.int .i64 c, .int .i64 y, .int .i64 m, .int .i64 d] W fun e w' => e = .returned (numv 0 k) ∧ Below W.heap.size W w' := by
  have HC := fun w => kchk_any c y (nlast y) w
  rw [show rgE c y (nlast y) = k by rw [rgE, if_neg (by rw [h]; simpa using hk), h]] at HC
  have HV := Lib.hid (fun fn w => visit_no c y (nlast y) w k hk fn HC)
  have hmf := mk_any
  have hl' : (y ≤ 999990001 ∧ nlast y = y + 10000 - 1) ∨ (999990001 < y ∧ nlast y = 1000000000) := by unfold nlast; split <;> omega
  generalize nlast y = l at *
  clear HC h
  rcases hl' with ⟨k1, rfl⟩ | ⟨k1, rfl⟩
  all_goals
    go_enter Try.func17, Try.ntmps17
    go_wp2_with fail
    refine (HV.out _ _).mono ?_
    rintro e u ⟨rfl, rfl⟩
    go_wp2_with fail
    go_ret2
    exact ⟨rfl, (Blk.five W _ _ _ _ _).b⟩
end

end Go.Proofs.Ytnaglaecoephnaa

namespace Go.Proofs.Ytnaglaecoephnaa
open Go.RowKit

/-- The array whose number at i is g i. -/
def hrow (g : Nat → Int) : Array Value := ((List.range 35).map fun i => Value.int .i64 (g i)).toArray
theorem hrow_size (g : Nat → Int) : (hrow g).size = 35 := by simp [hrow]
theorem hrow_get (g : Nat → Int) (i : Nat) (hi : i < 35) : (hrow g)[i]? = some (.int .i64 (g i)) := by
  simp [hrow, hi]
theorem hrow_ext {g g' : Nat → Int} (h : ∀ i, i < 35 → g i = g' i) : hrow g = hrow g' := by
  unfold hrow; congr 1
  exact List.map_congr_left fun i hi => by rw [h i (List.mem_range.1 hi)]
theorem hrow_set (g : Nat → Int) (j : Nat) (v : Int) : (hrow g).setIfInBounds j (.int .i64 v) = hrow (fun i => if i = j then v else g i) := by
  apply Array.ext_getElem?
  intro i
  rw [Array.getElem?_setIfInBounds]
  by_cases hi : i < 35
  · rw [hrow_get _ i hi, hrow_get _ i hi, hrow_size]
    by_cases e : j = i
    · subst e; rw [if_pos rfl, if_pos hi, if_pos rfl]
    · rw [if_neg e, if_neg (fun h => e h.symm)]
  · have h1 : (hrow g)[i]? = none := Array.getElem?_eq_none (by rw [hrow_size]; omega)
    have h2 : (hrow fun i => if i = j then v else g i)[i]? = none := Array.getElem?_eq_none (by rw [hrow_size]; omega)
    rw [h1, h2, hrow_size]
    by_cases e : j = i
    · subst e; rw [if_pos rfl, if_neg hi]
    · rw [if_neg e]
theorem hrow_one (g : Nat → Int) : (hrow g).all (·.oneCell') = true := by
  rw [Array.all_eq_true_iff_forall_mem]
  intro v hv
  simp only [hrow, List.mem_toArray, List.mem_map] at hv
  obtain ⟨i, _, rfl⟩ := hv
  rfl
abbrev hzero : Array Value := #[.int .i64 0, .int .i64 0, .int .i64 0, .int .i64 0, .int .i64 0, .int .i64 0, .int .i64 0, .int .i64 0, .int .i64 0, .int .i64 0, .int .i64 0, .int .i64 0, .int .i64 0, .int .i64 0, .int .i64 0, .int .i64 0, .int .i64 0, .int .i64 0, .int .i64 0, .int .i64 0, .int .i64 0, .int .i64 0, .int .i64 0, .int .i64 0, .int .i64 0, .int .i64 0, .int .i64 0, .int .i64 0, .int .i64 0, .int .i64 0, .int .i64 0, .int .i64 0, .int .i64 0, .int .i64 0, .int .i64 0]
theorem hrow_zero : hzero = hrow (fun _ => 0) := rfl
abbrev arrO (cs : Array Value) : Obj := .cells cs 28 (0, 0)
theorem infoArr : (Try.prog.info? 28).map (·.size) = some 35 := by kernel_rfl
theorem infoHrow (g : Nat → Int) : (Try.prog.info? 28).map (·.size) = some (hrow g).size := by rw [hrow_size]; exact infoArr
theorem below_setRow {W u : World} (h : Below W.heap.size W u) {b : Nat} (hb : W.heap.size ≤ b) (cs : Array Value) : Below W.heap.size W (u.setRow b cs) :=
  ⟨by rw [setRow_os]; exact h.os, by rw [setRow_tape]; exact h.tape, by rw [setRow_output]; exact h.output, by rw [setRow_size]; exact h.size, fun k hk => by rw [setRow_other _ _ _ _ (by omega)]; exact h.block k hk⟩

/-- The number at j grown by one. -/
def upd (g : Nat → Int) (j : Nat) : Nat → Int := fun i => if i = j then g j + 1 else g i
theorem upd_hcn (c f : Int) (k j : Nat) (h : iX c (f + k) = j) : hrow (upd (hcn c f k) j) = hrow (hcn c f (k + 1)) := by
  refine hrow_ext fun i _ => ?_
  rw [upd, hcn, h]
  by_cases e : i = j
  · subst e; rw [if_pos rfl, if_pos rfl]
  · rw [if_neg e, if_neg (by omega)]; omega
section
variable (W : World) (c : Int)
abbrev hcap : Array Value := #[.pointer (some ⟨W.heap.size + 2, 0, none⟩), .pointer (some ⟨W.heap.size, 0, none⟩)]
abbrev hblk (g : Nat → Int) : List Obj := [box1 c, arrO (hrow fun _ => 0), arrO (hrow g)]
theorem khis_one (y : Int) (g : Nat → Int) (j : Nat) (hj : j < 35) (g1 : 0 ≤ g j) (g2 : g j ≤ 10000) (H : ∀ w, Calls Try.prog 26 #[.int .i64 c, .int .i64 y] w fun e w' => e = .returned (.int .i64 (j : Int)) ∧ Below w.heap.size w w')
    (u : World) (hu : Blk W (hblk c g) u) : Calls Try.prog 25 (#[.int .i64 y] ++ hcap W) u fun e u' => e = .returned (.bool true) ∧ Blk W (hblk c (upd g j)) u' := by
  have Q0 := Lib.hid hu
  clear hu
  obtain ⟨c0, g0, z0⟩ := Q0.out.one 0 rfl
  rw [Nat.add_zero] at c0 g0 z0
  show Calls Try.prog 25 #[.int .i64 y, .pointer (some ⟨W.heap.size + 2, 0, none⟩), .pointer (some ⟨W.heap.size, 0, none⟩)] u _
  go_enter Try.func25, Try.ntmps25
  go_wp2_with fail
  refine (H _).mono ?_
  rintro e u1 ⟨rfl, hb⟩
  have Q1 := Lib.hid (Q0.out.on hb)
  clear hb
  clear c0 g0 z0
  have R1 := Q1.out.r 2 _ rfl
  have c2 : u1.cell? ⟨W.heap.size + 2, j, none⟩ = some (.int .i64 (g j)) := by rw [cell_of_row _ _ _ _ _ _ R1, hrow_get _ _ hj]
  have f2 : u1.frozen? ⟨W.heap.size + 2, j, none⟩ = false := frozen_of_row _ _ _ _ _ R1
  have z2 : W.heap.size + 2 < u1.heap.size := World.block_lt_of_cell? u1 _ c2
  have k0 : (0 : Int) ≤ (j : Int) := by omega
  have k1 : (j : Int) < 35 := by omega
  have HG := Lib.hid (hrow_set g j (g j + 1))
  clear R1
  generalize hx : g j = x at *
  have HX := Lib.hid hx
  clear hx
  go_wp2_with fail
  go_ret
  refine ⟨rfl, ?_⟩
  have := Q1.out.w 2 j rfl (.int .i64 (x + 1))
  rw [HG.out] at this
  have e : (fun i => if i = j then x + 1 else g i) = upd g j := by funext i; rw [upd, HX.out]
  rw [e] at this
  exact this
theorem khis_any (f : Int) (k : Nat) (hk : k < 10000) (h : epE c (f + k) = 0) (u : World) (hu : Blk W (hblk c (hcn c f k)) u) : Calls Try.prog 25 (#[.int .i64 (f + k)] ++ hcap W) u fun e u' => e = .returned (.bool true) ∧ Blk W (hblk c (hcn c f (k + 1))) u' := by
  have H := fun w => kday_any c (f + k) w h
  have hb := iX_bd (epE_zero h).1 (f + k)
  obtain ⟨j, hj⟩ : ∃ j : Nat, iX c (f + k) = j := ⟨(iX c (f + k)).toNat, by omega⟩
  rw [hj] at H
  have hc := hcn_bd c f k j
  have := khis_one W c (f + k) (hcn c f k) j (by omega) hc.1 (by omega) H u hu
  unfold hblk at *
  rw [upd_hcn c f k j hj] at this
  exact this
end
abbrev retH (g : Nat → Int) (k : Int) : Value := .tuple #[.agg (hrow g), .int .i64 k]
section
variable (c f l : Int) (W : World)
set_option maxHeartbeats 400000 in
theorem khist_end (g : Nat → Int) (k : Int)
    (HV : ∀ w, Blk W (hblk c fun _ => 0) w → Calls Try.prog 22 #[.int .i64 c, .int .i64 f, .int .i64 l, .func (.func 25) #[] (hcap W)] w fun e w' => e = .returned (.int .i64 k) ∧ Blk W (hblk c g) w') :
    Calls Try.prog 11 #[.int .i64 c, .int .i64 f, .int .i64 l] W fun e w' => e = .returned (retH g k) ∧ Below W.heap.size W w' := by
  have HVh := Lib.hid HV
  clear HV
  have hmf := mk_any
  go_enter Try.func11, Try.ntmps11
  go_wp2_with fail
  refine (HVh.out _ (Blk.three W _ _ _)).mono ?_
  rintro e u ⟨rfl, hq⟩
  have Q1 := Lib.hid hq
  clear hq
  have R1 := Lib.hid (Q1.out.r 1 _ rfl)
  have R2 := Lib.hid (Q1.out.r 2 _ rfl)
  have I1 := Lib.hid (infoHrow g)
  have I0 := Lib.hid (hrow_one g)
  have I2 := Lib.hid ((hrow_size fun _ => 0).trans (hrow_size g).symm)
  have B1 := Lib.hid Q1.out.b
  clear Q1
  have HG : Hid (retH g k = .tuple #[.agg (hrow g), .int .i64 k]) := Lib.hid rfl
  generalize hrow g = G at *
  generalize (hrow fun _ => 0) = Z at *
  have hld : (loadVar 28 ⟨W.heap.size + 1, 0, none⟩).run Try.prog (u.setRow (W.heap.size + 1) G) = .ok (.agg G) (u.setRow (W.heap.size + 1) G) :=
    run_loadVar_row _ _ _ _ _ (0, 0) _ (setRow_heap _ _ _ _ _ _ R1.out) Try.underlying28 rfl I1.out
  have HL := Lib.hid hld
  clear hld
  go_wp2_with (first | refine wpList_load_row rfl _ _ rfl (W.heap.size + 2) rfl _ G _ _ R2.out Try.underlying28 rfl I1.out ?_ | refine wpList_store_row rfl _ _ _ rfl (W.heap.size + 1) G rfl rfl _ Z R1.out I1.out I2.out I0.out ?_)
  refine bodyPost_ret (v := .tuple #[.agg G, .int .i64 k]) ?_ rfl ⟨by rw [HG.out], below_setRow B1.out (by omega) _⟩
  rw [results_cell_tmp rfl]
  simp [asAddr, Result.andThen, HL.out]
theorem khist_ok (n : Nat) (h : rgE c f l = 0) (hn : l - f + 1 = n) : Calls Try.prog 11 #[.int .i64 c, .int .i64 f, .int .i64 l] W fun e w' => e = .returned (retH (hcn c f n) 0) ∧ Below W.heap.size W w' := by
  obtain ⟨h0, h1, h2, h3⟩ := rgE_zero h
  have b0 := epE_inY h0
  have b1 := epE_inY h1
  have HC := fun w => kchk_any c f l w
  rw [h] at HC
  exact khist_end c f l W _ _ (fun w hw => visit_all c f l 25 (hcap W) n (fun k u => Blk W (hblk c (hcn c f k)) u) w b0.1 b1.2 hn (by omega) HC Try.call25
    (fun k hk u hu => khis_any W c f k (by omega) (rgE_at h (by omega)) u hu) hw)
theorem khist_no (k : Int) (h : rgE c f l = k) (hk : (k != 0) = true) : Calls Try.prog 11 #[.int .i64 c, .int .i64 f, .int .i64 l] W fun e w' => e = .returned (retH (fun _ => 0) k) ∧ Below W.heap.size W w' := by
  have HC := fun w => kchk_any c f l w
  rw [h] at HC
  exact khist_end c f l W _ _ (fun w hw => (visit_no c f l w k hk _ HC).mono fun e w' hr => ⟨hr.1, hr.2 ▸ hw⟩)
end
end Go.Proofs.Ytnaglaecoephnaa

namespace Go.Proofs.Ytnaglaecoephnaa
open Go.RowKit

section
variable (c f l : Int) (w : World)
theorem r14f0 (k : Int) (hk : (k != 0) = true) (H : ∀ w, Calls Try.prog 28 #[.int .i64 c, .int .i64 f] w fun e w' => e = .returned (.int .i64 k) ∧ w = w') :
    Calls Try.prog 13 #[.int .i64 c, .int .i64 f, .int .i64 l] w fun e w' => e = .returned (.int .i64 k) ∧ w = w' := by
  go_enter Try.func13, Try.ntmps13
  go_wp2_with fail
  refine (H _).mono ?_
  rintro e wq ⟨rfl, rfl⟩
  go_wp2_with fail
  refine (H _).mono ?_
  rintro e wq ⟨rfl, rfl⟩
  go_wp2_with fail
  go_ret
  exact ⟨rfl, rfl⟩
theorem r14f1 (k : Int) (hk : (k != 0) = true) (H : ∀ w, Calls Try.prog 28 #[.int .i64 c, .int .i64 f] w fun e w' => e = .returned (.int .i64 0) ∧ w = w')
    (HL : ∀ w, Calls Try.prog 28 #[.int .i64 c, .int .i64 l] w fun e w' => e = .returned (.int .i64 k) ∧ w = w') :
    Calls Try.prog 13 #[.int .i64 c, .int .i64 f, .int .i64 l] w fun e w' => e = .returned (.int .i64 1) ∧ w = w' := by
  go_enter Try.func13, Try.ntmps13
  go_wp2_with fail
  refine (H _).mono ?_
  rintro e wq ⟨rfl, rfl⟩
  go_wp2_with fail
  refine (HL _).mono ?_
  rintro e wq ⟨rfl, rfl⟩
  go_wp2_with fail
  go_ret
  exact ⟨rfl, rfl⟩
theorem r14f2 (k : Int) (f1 : 1 ≤ f) (f2 : f ≤ 1000000000) (l1 : 1 ≤ l) (l2 : l ≤ 1000000000) (hk : (l < f ∧ k = 1) ∨ (f ≤ l ∧ 9999 < l - f ∧ k = 1) ∨ (f ≤ l ∧ l - f ≤ 9999 ∧ k = 0)) (H : ∀ w, Calls Try.prog 28 #[.int .i64 c, .int .i64 f] w fun e w' => e = .returned (.int .i64 0) ∧ w = w')
    (HL : ∀ w, Calls Try.prog 28 #[.int .i64 c, .int .i64 l] w fun e w' => e = .returned (.int .i64 0) ∧ w = w') :
    Calls Try.prog 13 #[.int .i64 c, .int .i64 f, .int .i64 l] w fun e w' => e = .returned (.int .i64 k) ∧ w = w' := by
  rcases hk with ⟨h1, rfl⟩ | ⟨h1, h2, rfl⟩ | ⟨h1, h2, rfl⟩
  all_goals
    go_enter Try.func13, Try.ntmps13
    go_wp2_with fail
    refine (H _).mono ?_
    rintro e wq ⟨rfl, rfl⟩
    go_wp2_with fail
    refine (HL _).mono ?_
    rintro e wq ⟨rfl, rfl⟩
    go_wp2_with fail
    go_ret
    exact ⟨rfl, rfl⟩
theorem r14fail_any : Calls Try.prog 13 #[.int .i64 c, .int .i64 f, .int .i64 l] w fun e w' => e = .returned (.int .i64 (rgE c f l)) ∧ w = w' := by
  have H := fun w => rfail_any c f w
  have HL := fun w => rfail_any c l w
  by_cases h0 : epE c f = 0
  · rw [h0] at H
    by_cases h1 : epE c l = 0
    · rw [h1] at HL
      obtain ⟨f1, f2⟩ := epE_inY h0
      obtain ⟨l1, l2⟩ := epE_inY h1
      refine r14f2 c f l w _ f1 f2 l1 l2 ?_ H HL
      rw [rgE, if_pos h0]
      by_cases g1 : f ≤ l
      · by_cases g2 : l - f ≤ 9999
        · rw [if_pos ⟨h1, g1, g2⟩]; omega
        · rw [if_neg (fun h => g2 h.2.2)]; omega
      · rw [if_neg (fun h => g1 h.2.1)]; omega
    · rw [rgE, if_pos h0, if_neg (fun h => h1 h.1)]
      exact r14f1 c f l w _ (by simpa using h1) H HL
  · rw [rgE, if_neg h0]
    exact r14f0 c f l w _ (by simpa using h0) H
end
section
variable (c y m d : Int) (w : World)
theorem r14on0 (M D : Int) (b : Bool) (hb : ((M == m) && (D == d)) = b) (H : ∀ w, Calls Try.prog 29 #[.int .i64 c, .int .i64 y] w fun e w' => e = .returned (dtv y M D) ∧ Below w.heap.size w w') :
    Calls Try.prog 30 #[.int .i64 c, .int .i64 y, .int .i64 m, .int .i64 d] w fun e w' => e = .returned (.bool b) ∧ Below w.heap.size w w' := by
  cases e1 : (M == m) <;> cases e2 : (D == d)
  all_goals
    rw [e1, e2] at hb
    subst hb
    go_enter Try.func30, Try.ntmps30
    go_wp2_with fail
    refine (H _).mono ?_
    rintro e w1 ⟨rfl, hb1⟩
    have S1 := Lib.hid hb1
    clear hb1
    go_wp2_with fail
    go_ret
    exact ⟨rfl, below_al_own S1.out _⟩
theorem r14on_any (h : epE c y = 0) : Calls Try.prog 30 #[.int .i64 c, .int .i64 y, .int .i64 m, .int .i64 d] w fun e w' => e = .returned (.bool (hO c y m d)) ∧ Below w.heap.size w w' :=
  r14on0 c y m d w _ _ _ rfl (fun w => r11date_any c y w h)
theorem r14ix0 (M D k : Int) (hk : (M = 3 ∧ k = D - 22) ∨ (M = 4 ∧ k = D + 9)) (d1 : 1 ≤ D) (d2 : D ≤ 31) (H : ∀ w, Calls Try.prog 29 #[.int .i64 c, .int .i64 y] w fun e w' => e = .returned (dtv y M D) ∧ Below w.heap.size w w') :
    Calls Try.prog 14 #[.int .i64 c, .int .i64 y] w fun e w' => e = .returned (.int .i64 k) ∧ Below w.heap.size w w' := by
  rcases hk with ⟨rfl, rfl⟩ | ⟨rfl, rfl⟩
  all_goals
    go_enter Try.func14, Try.ntmps14
    go_wp2_with fail
    refine (H _).mono ?_
    rintro e w1 ⟨rfl, hb1⟩
    have S1 := Lib.hid hb1
    clear hb1
    go_wp2_with fail
    go_ret
    exact ⟨rfl, below_al_own S1.out _⟩
theorem r14ix_any (h : epE c y = 0) : Calls Try.prog 14 #[.int .i64 c, .int .i64 y] w fun e w' => e = .returned (.int .i64 (iX c y)) ∧ Below w.heap.size w w' := by
  have hb := iX_bd (epE_zero h).1 y
  have e : iX c y = uO c y - 1 := rfl
  refine r14ix0 c y w (marM (uO c y)) (marD (uO c y)) _ ?_ ?_ ?_ (fun w => r11date_any c y w h)
  · rw [e]; unfold marM marD
    split
    · exact .inl ⟨rfl, by omega⟩
    · exact .inr ⟨rfl, by omega⟩
  · unfold marD; split <;> omega
  · unfold marD; split <;> omega
end

section
variable (c f l m d : Int) (W : World)
set_option maxHeartbeats 400000 in
theorem r14yrs_any (n : Nat) (h : rgE c f l = 0) (hn : l - f + 1 = n) : Calls Try.prog 16 #[.int .i64 c, .int .i64 f, .int .i64 l, .int .i64 m, .int .i64 d] W (RetInts (yrs c f m d n) W) := by
  obtain ⟨i0, hi, hz0, hz1, hz2⟩ := info_parts infoInt
  obtain ⟨h0, h1, h2, h3⟩ := rgE_zero h
  have f1 := (epE_inY h0).1
  have l2 := (epE_inY h1).2
  have HO := Lib.hid (fun (k : Nat) (hk : k < n) w => r14on_any c (f + k) m d w (rgE_at h (by omega)))
  clear h h0 h1
  go_enter Try.func16, Try.ntmps16
  go_wp2
  go_loopw [11, 12] (fun v i wr => ∃ k : Nat, k ≤ n ∧ i = .int .i64 (f + k) ∧ Below W.heap.size W wr ∧ IntsAt W.heap.size v (yrs c f m d k) wr) (fun _ i _ => (l + 1 - intOf i).toNat)
  case atStart => exact ⟨0, Nat.zero_le _, by go_num, Below.refl _ _, IntsAt.nil _ _⟩
  case round =>
    obtain ⟨k, hk, rfl, hb, hv⟩ := hrel
    have HB := Lib.hid hb
    have HV := Lib.hid hv
    clear hb hv
    by_cases hlt : k < n
    · have hle := yrs_le c f m d k
      have HR := HO.out k hlt
      cases hbr : hO c (f + k) m d
      · have HP := Lib.hid (yrs_no hbr)
        rw [hbr] at HR
        have HR' := Lib.hid HR
        clear hbr HR
        go_wp2_with fail
        refine (HR'.out _).mono ?_
        rintro e w1 ⟨rfl, hb1⟩
        have HB1 := Lib.hid (below_on HB.out hb1)
        have HV1 := Lib.hid (HV.out.on hb1)
        clear hb1
        go_wp2_with fail
        go_roundw
        case rel => exact ⟨k + 1, by omega, by go_num, HB1.out, by rw [HP.out]; exact HV1.out⟩
        case measure => simp [intOf]; omega
      · have HP := Lib.hid (yrs_yes hbr)
        rw [hbr] at HR
        have HR' := Lib.hid HR
        clear hbr HR
        go_wp2_with fail
        refine (HR'.out _).mono ?_
        rintro e w1 ⟨rfl, hb1⟩
        have HB1 := Lib.hid (below_on HB.out hb1)
        have HV1 := Lib.hid (HV.out.on hb1)
        have hz := Lib.hid (Nat.le_trans HB.out.size hb1.size)
        clear hb1
        go_wp2_with (at_builtin; refine wpList_append_own _ rfl _ _ 24 rfl W.heap.size 3 i0 (.int .i64 0) 1 8 Try.underlying24 hi hz0 hz1 hz2 rfl (by decide) _ _ _ rfl (HV1.out.al _) ⟨w1.heap.size, 0, none⟩ 1 1 [.int .i64 (f + k)] rfl rfl (cell_one_new _ _ _) (by simp [Value.oneCell']) (by unfold maxLen; omega) (by omega) (by have := hz.out; simp; omega) ?_; intro v' w2 hown' hgrow _; obtain ⟨hv2, hb2⟩ := HV1.out.app HB1.out hz.out hown' hgrow; have HV2 := Lib.hid hv2; have HB2 := Lib.hid hb2; clear hown' hgrow hv2 hb2)
        go_roundw
        case rel => exact ⟨k + 1, by omega, by go_num, HB2.out, by rw [HP.out]; exact HV2.out⟩
        case measure => simp [intOf]; omega
    · obtain rfl : k = n := by omega
      go_wp2_with fail
      go_ret
      exact ⟨_, rfl, HV.out, HB.out⟩
end
section
variable (c y m d : Int) (W : World)
theorem r14nx_bad (k : Int) (hk : (k != 0) = true) (H : ∀ w, Calls Try.prog 28 #[.int .i64 c, .int .i64 y] w fun e w' => e = .returned (.int .i64 k) ∧ w = w') :
    Calls Try.prog 18 #[.int .i64 c, .int .i64 y, .int .i64 m, .int .i64 d] W fun e w' => e = .returned (numv 0 k) ∧ Below W.heap.size W w' := by
  go_enter Try.func18, Try.ntmps18
  go_wp2_with fail
  refine (H _).mono ?_
  rintro e wq ⟨rfl, rfl⟩
  go_wp2_with fail
  go_ret2
  exact ⟨rfl, Below.refl _ _⟩
theorem r14nx_day (hq : m < 3 ∨ (3 ≤ m ∧ 4 < m) ∨ (3 ≤ m ∧ m ≤ 4 ∧ d < 1) ∨ (3 ≤ m ∧ m ≤ 4 ∧ 1 ≤ d ∧ 31 < d)) (H : ∀ w, Calls Try.prog 28 #[.int .i64 c, .int .i64 y] w fun e w' => e = .returned (.int .i64 0) ∧ w = w') :
    Calls Try.prog 18 #[.int .i64 c, .int .i64 y, .int .i64 m, .int .i64 d] W fun e w' => e = .returned (numv 0 3) ∧ Below W.heap.size W w' := by
  rcases hq with h1 | ⟨h1, h2⟩ | ⟨h1, h2, h3⟩ | ⟨h1, h2, h3, h4⟩
  all_goals
    go_enter Try.func18, Try.ntmps18
    go_wp2_with fail
    refine (H _).mono ?_
    rintro e wq ⟨rfl, rfl⟩
    go_wp2_with fail
    go_ret2
    exact ⟨rfl, Below.refl _ _⟩
set_option maxHeartbeats 400000 in
theorem r14nx_some (n k : Nat) (h0 : epE c y = 0) (hn : nlast y - y + 1 = n) (m1 : 3 ≤ m) (m2 : m ≤ 4) (d1 : 1 ≤ d) (d2 : d ≤ 31) (hk : k < n) (h1 : hO c (y + k) m d = true) (hj : ∀ j : Nat, j < k → hO c (y + j) m d = false) :
    Calls Try.prog 18 #[.int .i64 c, .int .i64 y, .int .i64 m, .int .i64 d] W fun e w' => e = .returned (numv (y + k) 0) ∧ Below W.heap.size W w' := by
  obtain ⟨y1, y2⟩ := epE_inY h0
  have H := fun w => rfail_any c y w
  rw [h0] at H
  have hl : (n : Int) ≤ 10000 ∧ y + n ≤ 1000000001 := by unfold nlast at hn; split at hn <;> omega
  have HO := Lib.hid (fun (j : Nat) (hj : j < n) w => r14on_any c (y + j) m d w (rgE_at (rgE_next c y h0) (by omega)))
  have HJ := Lib.hid hj
  have HK := Lib.hid h1
  clear h0 hn hj h1
  go_enter Try.func18, Try.ntmps18
  go_wp2_with fail
  refine (H _).mono ?_
  rintro e wq ⟨rfl, rfl⟩
  go_wp2_with fail
  go_loopw [11] (fun i wr => ∃ j : Nat, j ≤ k ∧ i = .int .i64 (y + j) ∧ Below W.heap.size W wr) (fun i _ => (1000000001 - intOf i).toNat)
  case atStart => exact ⟨0, Nat.zero_le _, by go_num, Below.refl _ _⟩
  case round =>
    obtain ⟨j, hj, rfl, hb⟩ := hrel
    have HB := Lib.hid hb
    clear hb
    have HR := HO.out j (by omega)
    by_cases hlt : j < k
    · rw [HJ.out j hlt] at HR
      have HR' := Lib.hid HR
      clear HR
      go_wp2_with fail
      refine (HR'.out _).mono ?_
      rintro e w1 ⟨rfl, hb1⟩
      have HB1 := Lib.hid (below_on HB.out hb1)
      clear hb1
      go_wp2_with fail
      go_roundw
      case rel => exact ⟨j + 1, by omega, by go_num, HB1.out⟩
      case measure => simp [intOf]; omega
    · obtain rfl : j = k := by omega
      rw [HK.out] at HR
      have HR' := Lib.hid HR
      clear HR
      go_wp2_with fail
      refine (HR'.out _).mono ?_
      rintro e w1 ⟨rfl, hb1⟩
      have HB1 := Lib.hid (below_on HB.out hb1)
      clear hb1
      go_wp2_with fail
      go_ret2
      exact ⟨rfl, HB1.out⟩
set_option maxHeartbeats 400000 in
theorem r14nx_none (n : Nat) (h0 : epE c y = 0) (hn : nlast y - y + 1 = n) (m1 : 3 ≤ m) (m2 : m ≤ 4) (d1 : 1 ≤ d) (d2 : d ≤ 31) (hj : ∀ j : Nat, j < n → hO c (y + j) m d = false) :
    Calls Try.prog 18 #[.int .i64 c, .int .i64 y, .int .i64 m, .int .i64 d] W fun e w' => e = .returned (numv 0 3) ∧ Below W.heap.size W w' := by
  obtain ⟨y1, y2⟩ := epE_inY h0
  have H := fun w => rfail_any c y w
  rw [h0] at H
  have hl : ((n : Int) = 10000 ∧ y + n ≤ 1000000001) ∨ (y + n = 1000000001 ∧ (n : Int) ≤ 10000) := by unfold nlast at hn; split at hn <;> omega
  have HO := Lib.hid (fun (j : Nat) (hj : j < n) w => r14on_any c (y + j) m d w (rgE_at (rgE_next c y h0) (by omega)))
  have HJ := Lib.hid hj
  clear h0 hn hj
  go_enter Try.func18, Try.ntmps18
  go_wp2_with fail
  refine (H _).mono ?_
  rintro e wq ⟨rfl, rfl⟩
  go_wp2_with fail
  go_loopw [11] (fun i wr => ∃ j : Nat, j ≤ n ∧ i = .int .i64 (y + j) ∧ Below W.heap.size W wr) (fun i _ => (1000000001 - intOf i).toNat)
  case atStart => exact ⟨0, Nat.zero_le _, by go_num, Below.refl _ _⟩
  case round =>
    obtain ⟨j, hj, rfl, hb⟩ := hrel
    have HB := Lib.hid hb
    clear hb
    by_cases hlt : j < n
    · have HR := HO.out j hlt
      rw [HJ.out j hlt] at HR
      have HR' := Lib.hid HR
      clear HR
      go_wp2_with fail
      refine (HR'.out _).mono ?_
      rintro e w1 ⟨rfl, hb1⟩
      have HB1 := Lib.hid (below_on HB.out hb1)
      clear hb1
      go_wp2_with fail
      go_roundw
      case rel => exact ⟨j + 1, by omega, by go_num, HB1.out⟩
      case measure => simp [intOf]; omega
    · obtain rfl : j = n := by omega
      rcases hl with ⟨hl, hl2⟩ | ⟨hl, hl2⟩
      · go_wp2_with fail
        go_ret2
        exact ⟨rfl, HB.out⟩
      · by_cases hq : y + (j : Int) ≤ y + 9999
        · go_wp2_with fail
          go_ret2
          exact ⟨rfl, HB.out⟩
        · go_wp2_with fail
          go_ret2
          exact ⟨rfl, HB.out⟩
end
end Go.Proofs.Ytnaglaecoephnaa

namespace Go.Proofs.Ytnaglaecoephnaa
open Go.RowKit

theorem aw_yrs : yrs 2 1583 3 22 618 = [1598, 1693, 1761, 1818] := by kernel_rfl
theorem aw_nx1 : hO 2 (2000 + ((285 : Nat) : Int)) 3 22 = true := by kernel_rfl
theorem aw_nx0 (j : Nat) (hj : j < 285) : hO 2 (2000 + (j : Int)) 3 22 = false := by
  have := all_lt 285 (fun j => !hO 2 (2000 + (j : Int)) 3 22) (by kernel_rfl) j hj
  simpa using this
theorem aw_e1 : iX 2 (1583 + ((15 : Nat) : Int)) = 0 := by kernel_rfl
theorem aw_e0 (j : Nat) (hj : j < 15) : iX 2 (1583 + (j : Int)) ≠ 0 := by
  have := all_lt 15 (fun j => !(iX 2 (1583 + (j : Int)) == 0)) (by kernel_rfl) j hj
  simpa using this
theorem aw_21 (y : Int) : hO 1 y 3 21 = false := by
  rw [← Bool.not_eq_true, hO_iff]
  have := eaO_bd 1 y
  rw [← u_easter (.inl rfl)] at this
  unfold marM marD
  split <;> omega
theorem IntsAt.made4 (w : World) (a b c d : Int) : IntsAt w.heap.size (.slice (some ⟨w.heap.size, 0, none⟩) 4 4) [a, b, c, d] (w.alloc (.cells #[.int .i64 a, .int .i64 b, .int .i64 c, .int .i64 d] 3)) :=
  ⟨by simp, .inr ⟨w.heap.size, 4, #[.int .i64 a, .int .i64 b, .int .i64 c, .int .i64 d], rfl, Nat.le_refl _, heap_alloc_new w _, Nat.le_refl _, by unfold maxLen; omega, rfl, rfl⟩⟩
set_option maxRecDepth 100000 in
set_option maxHeartbeats 800000 in
theorem c14awake_any (W : World) : Calls Try.prog 8 #[] W fun e w' => e = .returned (.bool true) ∧ Below W.heap.size W w' := by
  have H1 : ∀ w, Calls Try.prog 10 #[.int .i64 2, .int .i64 1583, .int .i64 2200, .int .i64 3, .int .i64 22] w (RetY [1598, 1693, 1761, 1818] 0 w) := fun w => by
    have := kyears_ok 2 1583 2200 3 22 w 618 (by kernel_rfl) (by decide)
    rwa [aw_yrs] at this
  have H2 : ∀ w, Calls Try.prog 17 #[.int .i64 2, .int .i64 2000, .int .i64 3, .int .i64 22] w fun e w' => e = .returned (numv 2285 0) ∧ Below w.heap.size w w' := fun w =>
    knext_some 2 2000 3 22 w 10000 285 11999 (by kernel_rfl) (by kernel_rfl) (by decide) (by decide) aw_nx1 aw_nx0
  have H4 : ∀ w, Calls Try.prog 10 #[.int .i64 2, .int .i64 1582, .int .i64 2200, .int .i64 3, .int .i64 22] w (RetY [] 1 w) := fun w =>
    kyears_no 2 1582 2200 3 22 w 1 (by kernel_rfl) (by decide)
  have H5 : ∀ w, Calls Try.prog 17 #[.int .i64 1, .int .i64 2000, .int .i64 3, .int .i64 21] w fun e w' => e = .returned (numv 0 3) ∧ Below w.heap.size w w' := fun w =>
    knext_none 1 2000 3 21 w 10000 11999 (by kernel_rfl) (by kernel_rfl) (by decide) (fun j _ => aw_21 _)
  have H6 : ∀ w, Calls Try.prog 12 #[.int .i64 2, .int .i64 1583, .int .i64 2200] w fun e w' => e = .returned (numv 1598 0) ∧ Below w.heap.size w w' := fun w => by
    have := kearl_ok 2 1583 2200 w 618 (by kernel_rfl) (by decide)
    rwa [bst_zero (.inr rfl) (k := 15) (by decide) aw_e1 aw_e0, show (1583 : Int) + ((15 : Nat) : Int) = 1598 from rfl] at this
  have S0 := Lib.hid (Below.refl W.heap.size W)
  go_enter Try.func8, Try.ntmps8
  go_wp2_with fail
  refine (H1 _).mono ?_
  rintro e w1 ⟨v, rfl, hv, hb1⟩
  have S1 := Lib.hid (below_on S0.out hb1)
  have V1 := Lib.hid hv
  clear hb1 hv
  go_wp2_with fail
  refine (H2 _).mono ?_
  rintro e w2 ⟨rfl, hb2⟩
  have S2 := Lib.hid (below_on S1.out hb2)
  have V2 := Lib.hid (V1.out.on hb2)
  clear hb2 V1
  go_wp2_with fail
  refine (kper1 _).mono ?_
  rintro e wq ⟨rfl, rfl⟩
  go_wp2_with fail
  refine (H4 _).mono ?_
  rintro e w3 ⟨v3, rfl, _, hb3⟩
  have S3 := Lib.hid (below_on S2.out hb3)
  have V3 := Lib.hid (V2.out.on hb3)
  clear hb3 V2
  go_wp2_with fail
  refine (H5 _).mono ?_
  rintro e w4 ⟨rfl, hb4⟩
  have S4 := Lib.hid (below_on S3.out hb4)
  have V4 := Lib.hid (V3.out.on hb4)
  clear hb4 V3
  go_wp2_with fail
  refine (H6 _).mono ?_
  rintro e w5 ⟨rfl, hb5⟩
  have S5 := Lib.hid (below_on S4.out hb5)
  have V5 := Lib.hid (V4.out.on hb5)
  clear hb5 V4
  go_wp2_with fail
  refine (nums_yes _ _ [1598, 1693, 1761, 1818] _ (V5.out.al _) (IntsAt.made4 _ _ _ _ _)).mono ?_
  rintro e w6 ⟨rfl, hb6⟩
  have S6 := Lib.hid (below_on (below_al_own S5.out _) hb6)
  clear hb6
  go_wp2_with fail
  go_ret
  exact ⟨rfl, S6.out⟩
end Go.Proofs.Ytnaglaecoephnaa

namespace Go.Proofs.Ytnaglaecoephnaa
open Go.RowKit

section
variable {P : Program} {ops : Array Oper} {rest : List Oper} {o : Oper} {a : Act} {w : World} {Q : Exit → Act → World → Prop}
theorem load_row_g (hw : Region.wanted o (yielded ops a.tmps) = true) (ty : TypeId) (x : Operand) (ho : o.op = .load ty x)
    (g : Nat) (hx : a.eval x = .pointer (some ⟨g, 0, none⟩)) (t : TypeId) (cs : Array Value) (fr : Nat × Nat) (d : TypeDesc) (hg : w.heap[g]? = some (.cells cs t fr))
    (hu : P.underlying ty = some d) (hd : (match d with | .struct _ | .array _ _ => true | _ => false) = true) (hi : (P.info? ty).map (·.size) = some cs.size)
    (h : wpList P ops Q rest (a.put o.dst (.agg cs)) w) : wpList P ops Q (o :: rest) a w :=
  wpList_step fun _ hK => by rw [if_pos hw]; exact wp_load_row ty x ho g hx t cs fr d hg hu hd hi (hK _ _ h)
theorem store_new (hgd : o.guard = none) (ty : TypeId) (x y : Operand) (ho : o.op = .store ty x y)
    (cells : Array Value) (t : TypeId) (old : Array Value) (hx : a.eval x = .pointer (some ⟨w.heap.size, 0, none⟩)) (hy : a.eval y = .agg cells)
    (hi : (P.info? ty).map (·.size) = some cells.size) (hold : old.size = cells.size) (h1 : cells.all (·.oneCell') = true)
    (h : wpList P ops Q rest (a.put o.dst undef) (w.alloc (.cells cells t))) : wpList P ops Q (o :: rest) a (w.alloc (.cells old t)) :=
  wpList_store_row hgd ty x y ho w.heap.size cells hx hy t old (heap_alloc_new w _) hi hold h1 (by rw [World.setRow_alloc_new]; exact h)
end
theorem items_same (d e : Nat) (he : Try.prog.underlying e = some (.int .i64)) (hs : Try.prog.cellsOf e = 1) (g : Nat → Int) (w : World) : ∀ (is : List Nat), (∀ i ∈ is, i < 35) → (Op.eqItems (d + 1) e (Try.prog.cellsOf e) (hrow g) (hrow g) is).run Try.prog w = .ok true w
  | [], _ => by simp [Op.eqItems]
  | i :: is, h => by
    have hi := h i (by simp)
    have hp : (part e (hrow g) (i * 1)).run Try.prog w = .ok (.int .i64 (g i)) w := by
      have := hrow_get g i hi
      simp [part, isAgg, run_underlying he, this]
    have ih := items_same d e he hs g w is (fun j hj => h j (by simp [hj]))
    rw [hs] at ih ⊢
    simp only [Op.eqItems, Sem.run_bind, hp, Result.andThen_ok, run_equalIn_int w d e .i64 .i64 _ _ he, beq_self_eq_true, Bool.not_true, Bool.false_eq_true, if_false]
    exact ih
theorem eqI (g : Nat → Int) (w : World) : (Op.equalIn 10000 28 (.agg (hrow g)) (.agg (hrow g))).run Try.prog w = .ok true w := by
  obtain ⟨i0, hi, _⟩ := info_parts infoInt
  rw [run_equalIn_array w 9999 (hrow g) (hrow g) Try.underlying28 hi, items_same 9998 3 Try.underlying3 (by kernel_rfl) g w _ (fun i hi => List.mem_range.1 hi)]
theorem eqH (g : Nat → Int) (w : World) : (binOp .eql 28 (.agg (hrow g)) (.agg (hrow g))).run Try.prog w = .ok (.bool true) w := by
  rw [run_eql_struct, eqI]
  rfl
theorem eqZ (w : World) : (Op.equalIn 10000 28 (.agg (hrow fun _ => 0)) (.agg hzero)).run Try.prog w = .ok true w := by
  have h := eqI (fun _ => 0) w
  have e : (Value.agg hzero) = .agg (hrow fun _ => 0) := congrArg _ hrow_zero
  rw [e]; exact h
theorem IntsAt.len {B : Nat} {v : Value} {xs : List Int} {w : World} (h : IntsAt B v xs w) : ∃ ba cap, v = .slice ba xs.length cap := by
  rcases h.get with ⟨rfl, rfl⟩ | ⟨g, cap, rfl, _⟩
  · exact ⟨none, 0, rfl⟩
  · exact ⟨_, cap, rfl⟩
/-- A slice of n numbers and an error are handed back. -/
def RetL (n : Nat) (k : Int) (W : World) (e : Ending) (w' : World) : Prop := ∃ ba cap, e = .returned (.tuple #[.slice ba n cap, .int .i64 k]) ∧ Below W.heap.size W w'
theorem RetY.len {xs : List Int} {n : Nat} {k : Int} {W : World} {e : Ending} {w' : World} (h : RetY xs k W e w') (hn : xs.length = n) : RetL n k W e w' := by
  obtain ⟨v, rfl, hv, hb⟩ := h
  obtain ⟨ba, cap, rfl⟩ := hv.len
  exact ⟨ba, cap, by rw [hn], hb⟩
/-- One year more is counted. -/
theorem cnt_put {c f : Int} {k j : Nat} {x : Int} {w : World} {b : Nat} (hR : w.heap[b]? = some (arrO (hrow (hcn c f k)))) (hj : iX c (f + k) = j) (hx : hcn c f k j = x) :
    (w.setCell ⟨b, j, none⟩ (.int .i64 (x + 1))).heap[b]? = some (arrO (hrow (hcn c f (k + 1)))) := by
  rw [heap_setCell_same w b j _ _ _ hR, hrow_set, ← upd_hcn c f k j hj]
  congr 3
  funext i
  rw [upd, hx]
theorem cell_row {g : Nat → Int} {w : World} {b : Nat} (hR : w.heap[b]? = some (arrO (hrow g))) {j : Nat} (hj : j < 35) : w.cell? ⟨b, j, none⟩ = some (.int .i64 (g j)) ∧ w.frozen? ⟨b, j, none⟩ = false ∧ b < w.heap.size := by
  have h0 : w.cell? ⟨b, j, none⟩ = some (.int .i64 (g j)) := by rw [cell_of_row _ _ _ _ _ _ hR, hrow_get _ _ hj]
  exact ⟨h0, frozen_of_row _ _ _ _ _ hR, World.block_lt_of_cell? w _ h0⟩
theorem smm_le {c f : Int} (n i : Nat) (hn : n ≤ 600) (hi : i ≤ 35) : 0 ≤ smm c f n i ∧ smm c f n i ≤ 21000 := by
  have h := smm_bd c f n i
  have : (n : Int) * i ≤ 600 * 35 := Int.mul_le_mul (by omega) (by omega) (by omega) (by omega)
  omega
end Go.Proofs.Ytnaglaecoephnaa
