/- Scanning, plain: what a number, an identifier and a word of a text are, where they end, and what they are worth. -/
import Derived.Test.YtlodijncaojifaaDoorKz
namespace Go.Proofs.YtlodijncaojifaaDoor
open Go.RowKit

theorem dtrue {p : Prop} [Decidable p] (h : p) : decide p = true := decide_eq_true h
theorem dfalse {p : Prop} [Decidable p] (h : ¬ p) : decide p = false := decide_eq_false h

/-! Numbers -/
def dg (S : ByteArray) (i : Nat) : Bool := decide (i < S.size) && (decide (48 ≤ bt S i) && decide (bt S i ≤ 57))
theorem dg_iff {S : ByteArray} {i : Nat} : dg S i = true ↔ i < S.size ∧ 48 ≤ bt S i ∧ bt S i ≤ 57 := by simp [dg]
theorem dg_no {S : ByteArray} {i : Nat} (h : ¬ (i < S.size ∧ 48 ≤ bt S i ∧ bt S i ≤ 57)) : dg S i = false := by
  cases e : dg S i
  · rfl
  · exact absurd (dg_iff.1 e) h
/-- How many digits follow one another from an index, n at most. -/
def dgs (S : ByteArray) (i : Nat) : Nat → Nat
  | 0 => 0
  | n + 1 => if dg S i then dgs S (i + 1) n + 1 else 0
theorem dgs_eq {S : ByteArray} {n : Nat} : ∀ {i m : Nat}, m ≤ n → (∀ j, j < m → dg S (i + j) = true) → (m = n ∨ dg S (i + m) = false) → dgs S i n = m := by
  induction n with
  | zero => intro i m h _ _; unfold dgs; omega
  | succ n ih =>
    intro i m h1 h2 h3
    cases m with
    | zero =>
      have : dg S i = false := by rcases h3 with h | h; omega; exact h
      unfold dgs; rw [this]; rfl
    | succ m =>
      have h0 := h2 0 (by omega)
      rw [Nat.add_zero] at h0
      unfold dgs
      rw [h0, if_pos rfl, ih (i := i + 1) (m := m) (by omega) (fun j hj => by rw [show i + 1 + j = i + (j + 1) by omega]; exact h2 (j + 1) (by omega)) (by rcases h3 with h | h; (left; omega); (right; rw [show i + 1 + m = i + (m + 1) by omega]; exact h))]
theorem dgs_le (S : ByteArray) (i n : Nat) : dgs S i n ≤ n := by
  induction n generalizing i with
  | zero => exact Nat.le_refl _
  | succ n ih => unfold dgs; split; have := ih (i + 1); omega; omega
theorem dgs_all (S : ByteArray) (n : Nat) : ∀ i j, j < dgs S i n → dg S (i + j) = true := by
  induction n with
  | zero => intro i j h; simp [dgs] at h
  | succ n ih =>
    intro i j h
    unfold dgs at h
    split at h
    · rename_i h0
      cases j with
      | zero => exact h0
      | succ j => rw [show i + (j + 1) = i + 1 + j by omega]; exact ih (i + 1) j (by omega)
    · omega
theorem dgs_end (S : ByteArray) (n : Nat) : ∀ i, dgs S i n = n ∨ dg S (i + dgs S i n) = false := by
  induction n with
  | zero => intro i; exact .inl rfl
  | succ n ih =>
    intro i
    cases h0 : dg S i
    · right; unfold dgs; rw [h0]; exact h0
    · have : dgs S i (n + 1) = dgs S (i + 1) n + 1 := by show (if dg S i then _ else _) = _; rw [h0]; rfl
      rw [this]
      rcases ih (i + 1) with h | h
      · left; omega
      · right; rw [show i + (dgs S (i + 1) n + 1) = i + 1 + dgs S (i + 1) n by omega]; exact h
/-- The value of m digits from an index. -/
def vl (S : ByteArray) (i : Nat) : Nat → Int
  | 0 => 0
  | m + 1 => 10 * vl S i m + (bt S (i + m) - 48)
theorem vl_succ (S : ByteArray) (i m : Nat) : vl S i (m + 1) = 10 * vl S i m + (bt S (i + m) - 48) := rfl
def pw : Nat → Int
  | 0 => 1
  | m + 1 => 10 * pw m
theorem vl_bd {S : ByteArray} {i : Nat} : ∀ {m : Nat}, (∀ j, j < m → dg S (i + j) = true) → 0 ≤ vl S i m ∧ vl S i m < pw m := by
  intro m
  induction m with
  | zero => intro _; simp [vl, pw]
  | succ m ih =>
    intro h
    have h1 := ih (fun j hj => h j (by omega))
    have h2 := dg_iff.1 (h m (by omega))
    rw [vl_succ]
    have : pw (m + 1) = 10 * pw m := rfl
    omega
theorem pw_mono {a b : Nat} (h : a ≤ b) : pw a ≤ pw b := by
  induction b with
  | zero => rw [show a = 0 by omega]; exact Int.le_refl _
  | succ b ih =>
    by_cases e : a = b + 1
    · rw [e]; exact Int.le_refl _
    · have h1 := ih (by omega)
      have h2 : pw (b + 1) = 10 * pw b := rfl
      have h3 : 1 ≤ pw b := by
        clear ih h h1 h2 e
        induction b with
        | zero => exact Int.le_refl _
        | succ b ih => have : pw (b + 1) = 10 * pw b := rfl; omega
      omega
theorem vl_lt {S : ByteArray} {i m : Nat} (h : ∀ j, j < m → dg S (i + j) = true) (hm : m ≤ 10) : 0 ≤ vl S i m ∧ vl S i m < 10000000000 := by
  have h1 := vl_bd h
  have h2 := pw_mono hm
  have h3 : pw 10 = 10000000000 := rfl
  omega
def nuZ (S : ByteArray) (k : Nat) : Bool := decide (k < S.size) && decide (bt S k = 48)
def nuN (S : ByteArray) (k : Nat) : Bool := decide (k < S.size) && decide (bt S k = 45)
def nuI (S : ByteArray) (k : Nat) : Nat := if nuN S k then k + 1 else k
def nuD (S : ByteArray) (k : Nat) : Bool := dg S (nuI S k) && !decide (bt S (nuI S k) = 48)
/-- Where a scan of a number ends, whether it fails, and its value. -/
def nuK (S : ByteArray) (k : Nat) : Nat := if nuZ S k then k + 1 else if nuD S k then nuI S k + dgs S (nuI S k) 10 else nuI S k
def nuB (S : ByteArray) (k : Nat) : Bool := !nuZ S k && !nuD S k
def nuV (S : ByteArray) (k : Nat) : Int := if nuZ S k then 0 else if nuD S k then (if nuN S k then - vl S (nuI S k) (dgs S (nuI S k) 10) else vl S (nuI S k) (dgs S (nuI S k) 10)) else 0
theorem nuI_le (S : ByteArray) (k : Nat) (h : k ≤ S.size) : nuI S k ≤ S.size := by
  unfold nuI nuN
  split
  · rename_i e; simp at e; omega
  · exact h
theorem dgs_size (S : ByteArray) (i n : Nat) (h : i ≤ S.size) : i + dgs S i n ≤ S.size := by
  rcases Nat.eq_zero_or_pos (dgs S i n) with e | e
  · omega
  · have := (dg_iff.1 (dgs_all S n i (dgs S i n - 1) (by omega))).1
    omega
theorem nuK_le (S : ByteArray) (k : Nat) (h : k ≤ S.size) : k ≤ nuK S k ∧ nuK S k ≤ S.size := by
  have h1 := nuI_le S k h
  have h2 : k ≤ nuI S k := by unfold nuI; split <;> omega
  have h3 := dgs_size S (nuI S k) 10 h1
  unfold nuK
  split
  · rename_i e; simp [nuZ] at e; omega
  · split <;> omega

/-! Identifiers -/
def lt (S : ByteArray) (i : Nat) : Bool := decide (i < S.size) && (decide (97 ≤ bt S i) && decide (bt S i ≤ 122))
theorem lt_iff {S : ByteArray} {i : Nat} : lt S i = true ↔ i < S.size ∧ 97 ≤ bt S i ∧ bt S i ≤ 122 := by simp [lt]
theorem lt_no {S : ByteArray} {i : Nat} (h : ¬ (i < S.size ∧ 97 ≤ bt S i ∧ bt S i ≤ 122)) : lt S i = false := by
  cases e : lt S i
  · rfl
  · exact absurd (lt_iff.1 e) h
/-- The byte ahead of the i-th one behind k; ahead of the first one as if it were a hyphen. -/
def bfo (S : ByteArray) (k i : Nat) : Int := if i = 0 then 45 else bt S (k + i - 1)
theorem bfo_succ (S : ByteArray) (k i : Nat) : bfo S k (i + 1) = bt S (k + i) := by unfold bfo; rw [if_neg (by omega)]; rfl
/-- Is the i-th byte behind k accepted, if those ahead of it have been? -/
def idP (S : ByteArray) (k i : Nat) : Prop := k + i < S.size ∧ i < 40 ∧ ((97 ≤ bt S (k + i) ∧ bt S (k + i) ≤ 122) ∨ (48 ≤ bt S (k + i) ∧ bt S (k + i) ≤ 57 ∧ 0 < i) ∨ (bt S (k + i) = 45 ∧ bfo S k i ≠ 45 ∧ i ≠ 39))
instance (S : ByteArray) (k i : Nat) : Decidable (idP S k i) := by unfold idP; infer_instance
def idLn (S : ByteArray) (k i : Nat) : Nat → Nat
  | 0 => i
  | n + 1 => if idP S k i then idLn S k (i + 1) n else i
/-- How many bytes are accepted behind k. -/
def idL (S : ByteArray) (k : Nat) : Nat := idLn S k 0 41
theorem idLn_eq {S : ByteArray} {k n : Nat} : ∀ {i m : Nat}, i ≤ m → m < i + n → (∀ j, i ≤ j → j < m → idP S k j) → ¬ idP S k m → idLn S k i n = m := by
  induction n with
  | zero => intro i m h1 h2; omega
  | succ n ih =>
    intro i m h1 h2 h3 h4
    unfold idLn
    by_cases e : i = m
    · rw [e, if_neg h4]
    · rw [if_pos (h3 i (Nat.le_refl _) (by omega))]
      exact ih (by omega) (by omega) (fun j g1 g2 => h3 j (by omega) g2) h4
theorem idP_none (S : ByteArray) (k : Nat) : ¬ idP S k 40 := fun h => by unfold idP at h; omega
theorem idL_eq {S : ByteArray} {k m : Nat} (h3 : ∀ j, j < m → idP S k j) (h4 : ¬ idP S k m) : idL S k = m := by
  have : m < 41 := by
    rcases Nat.lt_or_ge m 41 with h | h
    · exact h
    · exact absurd (h3 40 (by omega)) (idP_none S k)
  exact idLn_eq (Nat.zero_le _) (by omega) (fun j _ h => h3 j h) h4
theorem idLn_spec (S : ByteArray) (k : Nat) : ∀ n i, (∀ j, j < i → idP S k j) → i + n = 41 → (∀ j, j < idLn S k i n → idP S k j) ∧ ¬ idP S k (idLn S k i n) := by
  intro n
  induction n with
  | zero => intro i h e; exact absurd (h 40 (by omega)) (idP_none S k)
  | succ n ih =>
    intro i h e
    unfold idLn
    by_cases g : idP S k i
    · rw [if_pos g]
      exact ih (i + 1) (fun j hj => by by_cases q : j < i; exact h j q; rw [show j = i by omega]; exact g) (by omega)
    · rw [if_neg g]; exact ⟨h, g⟩
theorem idL_all (S : ByteArray) (k : Nat) : (∀ j, j < idL S k → idP S k j) ∧ ¬ idP S k (idL S k) := idLn_spec S k 41 0 (fun j hj => absurd hj (by omega)) rfl
def idB (S : ByteArray) (k : Nat) : Bool := decide (bfo S k (idL S k) = 45)
def idV (S : ByteArray) (k : Nat) : ByteArray := if idB S k then ⟨#[]⟩ else S.extract k (k + idL S k)
theorem idL_le (S : ByteArray) (k : Nat) (h : k ≤ S.size) : idL S k ≤ 40 ∧ k + idL S k ≤ S.size := by
  have h1 := (idL_all S k).1
  rcases Nat.eq_zero_or_pos (idL S k) with e | e
  · omega
  · have h2 := h1 (idL S k - 1) (by omega)
    unfold idP at h2
    omega
theorem bt_ext {S : ByteArray} {k m i : Nat} (h : k + i < m) : bt (S.extract k m) i = bt S (k + i) := by
  unfold bt
  congr 2
  rw [Lib.extract_data, List.getD_eq_getElem?_getD, List.getD_eq_getElem?_getD, List.getElem?_take, if_pos (by omega), List.getElem?_drop]
theorem ext_size {S : ByteArray} {k m : Nat} (hk : k ≤ m) (hm : m ≤ S.size) : (S.extract k m).size = m - k := by rw [ByteArray.size_extract]; omega
/-- The first bytes behind k are all as in an identifier. -/
theorem pc_ext {S : ByteArray} {k m i : Nat} (h : k + i < m) : pcB (S.extract k m) i ↔ ((97 ≤ bt S (k + i) ∧ bt S (k + i) ≤ 122) ∨ (48 ≤ bt S (k + i) ∧ bt S (k + i) ≤ 57 ∧ 0 < i) ∨ (bt S (k + i) = 45 ∧ bfo S k i ≠ 45)) := by
  have e : bfr (S.extract k m) i = bfo S k i := by
    unfold bfr bfo
    by_cases g : i = 0
    · rw [if_pos g, if_pos g]
    · rw [if_neg g, if_neg g, bt_ext (by omega), show k + (i - 1) = k + i - 1 by omega]
  unfold pcB
  rw [bt_ext h, e]
theorem idn_ext {S : ByteArray} {k n : Nat} (hm : k + n ≤ S.size) : idn (S.extract k (k + n)) = true ↔ n ≤ 40 ∧ (∀ i, i < n → ((97 ≤ bt S (k + i) ∧ bt S (k + i) ≤ 122) ∨ (48 ≤ bt S (k + i) ∧ bt S (k + i) ≤ 57 ∧ 0 < i) ∨ (bt S (k + i) = 45 ∧ bfo S k i ≠ 45))) ∧ bfo S k n ≠ 45 := by
  have hs : (S.extract k (k + n)).size = n := by rw [ext_size (by omega) hm]; omega
  rw [idn_pc, hs]
  have e : bfr (S.extract k (k + n)) n = bfo S k n := by
    unfold bfr bfo
    by_cases g : n = 0
    · rw [if_pos g, if_pos g]
    · rw [if_neg g, if_neg g, bt_ext (by omega), show k + (n - 1) = k + n - 1 by omega]
  rw [e]
  constructor
  · rintro ⟨a, b, c⟩; exact ⟨a, fun i hi => (pc_ext (by omega)).1 (b i hi), c⟩
  · rintro ⟨a, b, c⟩; exact ⟨a, fun i hi => (pc_ext (by omega)).2 (b i hi), c⟩
/-- With an 'a' behind it. -/
theorem bt_app (s t : ByteArray) (i : Nat) : bt (s ++ t) i = if i < s.size then bt s i else bt t (i - s.size) := by
  unfold bt
  have e : (s ++ t).data.toList = s.data.toList ++ t.data.toList := by rw [ByteArray.data_append, Array.toList_append]
  have l : s.data.toList.length = s.size := by simp
  rw [e]
  split
  · rename_i h; rw [List.getD_eq_getElem?_getD, List.getElem?_append_left (by omega), ← List.getD_eq_getElem?_getD]
  · rename_i h; rw [List.getD_eq_getElem?_getD, List.getElem?_append_right (by omega), ← List.getD_eq_getElem?_getD, l]
theorem idn_a {s : ByteArray} : idn (s ++ ⟨#[97]⟩) = true ↔ s.size ≤ 39 ∧ ∀ i, i < s.size → pcB s i := by
  have hs : (s ++ (⟨#[97]⟩ : ByteArray)).size = s.size + 1 := by rw [ByteArray.size_append]; rfl
  have pc : ∀ i, i < s.size → (pcB (s ++ ⟨#[97]⟩) i ↔ pcB s i) := fun i hi => by
    have e : bfr (s ++ ⟨#[97]⟩) i = bfr s i := by
      unfold bfr
      split
      · rfl
      · rw [bt_app, if_pos (by omega)]
    unfold pcB
    rw [bt_app, if_pos hi, e]
  have la : bt (s ++ ⟨#[97]⟩) s.size = 97 := by rw [bt_app, if_neg (by omega), Nat.sub_self]; rfl
  rw [idn_pc, hs]
  constructor
  · rintro ⟨a, b, c⟩; exact ⟨by omega, fun i hi => (pc i hi).1 (b i (by omega))⟩
  · rintro ⟨a, b⟩
    refine ⟨by omega, fun i hi => ?_, by rw [bfr_succ, la]; decide⟩
    by_cases g : i < s.size
    · exact (pc i g).2 (b i g)
    · rw [show i = s.size by omega]; left; rw [la]; decide
/-- May a scanner that has accepted n bytes accept one more? As the program asks. -/
theorem begins_ext {S : ByteArray} {k n : Nat} (hm : k + n < S.size) (hall : ∀ j, j < n → idP S k j) : (idn (S.extract k (k + (n + 1))) || idn (S.extract k (k + (n + 1)) ++ ⟨#[97]⟩)) = decide (idP S k n) := by
  have key : (idn (S.extract k (k + (n + 1))) || idn (S.extract k (k + (n + 1)) ++ ⟨#[97]⟩)) = true ↔ idP S k n := by
    rw [Bool.or_eq_true, idn_a, idn_ext (by omega), bfo_succ, ext_size (by omega) (by omega)]
    constructor
    · rintro (⟨a, b, c⟩ | ⟨a, b⟩)
      · have := b n (by omega)
        refine ⟨hm, by omega, ?_⟩
        rcases this with h | h | ⟨h, g⟩
        · exact .inl h
        · exact .inr (.inl h)
        · exact absurd h c
      · have := (pc_ext (by omega)).1 (b n (by omega))
        refine ⟨hm, by omega, ?_⟩
        rcases this with h | h | ⟨h, g⟩
        · exact .inl h
        · exact .inr (.inl h)
        · exact .inr (.inr ⟨h, g, by omega⟩)
    · intro hp
      have hq : ∀ i, i < n + 1 → idP S k i := fun i hi => by
        by_cases g : i < n
        · exact hall i g
        · rw [show i = n by omega]; exact hp
      have hr : ∀ i, i < n + 1 → ((97 ≤ bt S (k + i) ∧ bt S (k + i) ≤ 122) ∨ (48 ≤ bt S (k + i) ∧ bt S (k + i) ≤ 57 ∧ 0 < i) ∨ (bt S (k + i) = 45 ∧ bfo S k i ≠ 45)) := fun i hi => by
        rcases (hq i hi).2.2 with h | h | ⟨h, g, _⟩
        · exact .inl h
        · exact .inr (.inl h)
        · exact .inr (.inr ⟨h, g⟩)
      obtain ⟨p1, p2, p3⟩ := hp
      by_cases c : bt S (k + n) = 45
      · right
        exact ⟨by omega, fun i hi => (pc_ext (by omega)).2 (hr i (by omega))⟩
      · left
        exact ⟨by omega, hr, c⟩
  cases a : (idn (S.extract k (k + (n + 1))) || idn (S.extract k (k + (n + 1)) ++ ⟨#[97]⟩))
  · exact (dfalse (fun h => by rw [key.2 h] at a; cases a)).symm
  · exact (dtrue (key.1 a)).symm
theorem idn_fin {S : ByteArray} {k : Nat} (h : k ≤ S.size) : idn (S.extract k (k + idL S k)) = !idB S k := by
  have h1 := idL_le S k h
  have h2 := (idL_all S k).1
  have key : idn (S.extract k (k + idL S k)) = true ↔ ¬ bfo S k (idL S k) = 45 := by
    rw [idn_ext h1.2]
    constructor
    · rintro ⟨_, _, c⟩; exact c
    · intro c
      refine ⟨h1.1, fun i hi => ?_, c⟩
      rcases (h2 i hi).2.2 with h | h | ⟨h, g, _⟩
      · exact .inl h
      · exact .inr (.inl h)
      · exact .inr (.inr ⟨h, g⟩)
  unfold idB
  cases a : idn (S.extract k (k + idL S k))
  · rw [dtrue (Classical.byContradiction fun c => by rw [key.2 c] at a; cases a)]; rfl
  · rw [dfalse (key.1 a)]; rfl

/-! Words -/
def cmn (S : ByteArray) (k : Nat) (w : ByteArray) (i : Nat) : Nat → Nat
  | 0 => i
  | n + 1 => if i < w.size ∧ k + i < S.size ∧ bt S (k + i) = bt w i then cmn S k w (i + 1) n else i
/-- How many bytes the text behind k and a word have in common. -/
def cm (S : ByteArray) (k : Nat) (w : ByteArray) : Nat := cmn S k w 0 w.size
theorem cmn_eq {S : ByteArray} {k n : Nat} {w : ByteArray} : ∀ {i m : Nat}, i ≤ m → m ≤ i + n → i + n = w.size → (∀ j, i ≤ j → j < m → k + j < S.size ∧ bt S (k + j) = bt w j) → (m = w.size ∨ ¬ (k + m < S.size ∧ bt S (k + m) = bt w m)) → cmn S k w i n = m := by
  induction n with
  | zero => intro i m h1 h2 h3 _ _; unfold cmn; omega
  | succ n ih =>
    intro i m h1 h2 h3 h4 h5
    unfold cmn
    by_cases e : i = m
    · rw [if_neg]
      · exact e
      · rintro ⟨a, b, c⟩
        rcases h5 with h | h
        · omega
        · rw [e] at b c; exact h ⟨b, c⟩
    · have := h4 i (Nat.le_refl _) (by omega)
      rw [if_pos ⟨by omega, this.1, this.2⟩]
      exact ih (by omega) (by omega) (by omega) (fun j g1 g2 => h4 j (by omega) g2) h5
theorem cm_eq {S : ByteArray} {k m : Nat} {w : ByteArray} (h1 : m ≤ w.size) (h2 : ∀ j, j < m → k + j < S.size ∧ bt S (k + j) = bt w j) (h3 : m = w.size ∨ ¬ (k + m < S.size ∧ bt S (k + m) = bt w m)) : cm S k w = m :=
  cmn_eq (Nat.zero_le _) (by omega) (by omega) (fun j _ h => h2 j h) h3
theorem cmn_spec {S : ByteArray} {k n : Nat} {w : ByteArray} : ∀ {i : Nat}, i + n = w.size → (∀ j, j < i → k + j < S.size ∧ bt S (k + j) = bt w j) → cmn S k w i n ≤ w.size ∧ (∀ j, j < cmn S k w i n → k + j < S.size ∧ bt S (k + j) = bt w j) ∧ (cmn S k w i n = w.size ∨ ¬ (k + cmn S k w i n < S.size ∧ bt S (k + cmn S k w i n) = bt w (cmn S k w i n))) := by
  induction n with
  | zero => intro i h1 h2; unfold cmn; exact ⟨by omega, h2, .inl (by omega)⟩
  | succ n ih =>
    intro i h1 h2
    unfold cmn
    by_cases e : i < w.size ∧ k + i < S.size ∧ bt S (k + i) = bt w i
    · rw [if_pos e]
      exact ih (by omega) (fun j hj => by by_cases g : j < i; exact h2 j g; rw [show j = i by omega]; exact e.2)
    · rw [if_neg e]
      exact ⟨by omega, h2, .inr (fun g => e ⟨by omega, g⟩)⟩
theorem cm_spec (S : ByteArray) (k : Nat) (w : ByteArray) : cm S k w ≤ w.size ∧ (∀ j, j < cm S k w → k + j < S.size ∧ bt S (k + j) = bt w j) ∧ (cm S k w = w.size ∨ ¬ (k + cm S k w < S.size ∧ bt S (k + cm S k w) = bt w (cm S k w))) :=
  cmn_spec (Nat.zero_add _) (fun j hj => absurd hj (by omega))
/-- Are the first n bytes behind k those of the word? -/
theorem cm_ge {S : ByteArray} {k n : Nat} {w : ByteArray} : n ≤ cm S k w ↔ n ≤ w.size ∧ ∀ j, j < n → k + j < S.size ∧ bt S (k + j) = bt w j := by
  obtain ⟨h1, h2, h3⟩ := cm_spec S k w
  constructor
  · intro h; exact ⟨by omega, fun j hj => h2 j (by omega)⟩
  · rintro ⟨a, b⟩
    rcases Nat.lt_or_ge (cm S k w) n with h | h
    · rcases h3 with g | g
      · omega
      · exact absurd (b _ h) g
    · exact h
/-- The words may be given: none is empty, none is a prefix of another one. -/
def Wok (ws : List ByteArray) : Prop := (∀ i, i < ws.length → 1 ≤ (ws.getD i ByteArray.empty).size) ∧ ∀ i j, i < ws.length → j < ws.length → i ≠ j → ¬ ((ws.getD i ByteArray.empty).size ≤ (ws.getD j ByteArray.empty).size ∧ ∀ p, p < (ws.getD i ByteArray.empty).size → bt (ws.getD i ByteArray.empty) p = bt (ws.getD j ByteArray.empty) p)
def hitB (S : ByteArray) (k : Nat) (w : ByteArray) : Bool := decide (cm S k w = w.size)
def mxW (S : ByteArray) (k : Nat) : List ByteArray → Nat
  | [] => 0
  | w :: ws => max (cm S k w) (mxW S k ws)
theorem mxW_ge {S : ByteArray} {k : Nat} {ws : List ByteArray} {w : ByteArray} (h : w ∈ ws) : cm S k w ≤ mxW S k ws := by
  induction ws with
  | nil => cases h
  | cons a ws ih =>
    unfold mxW
    rcases List.mem_cons.1 h with rfl | h
    · omega
    · have := ih h; omega
theorem mxW_le {S : ByteArray} {k n : Nat} {ws : List ByteArray} (h : ∀ w ∈ ws, cm S k w ≤ n) : mxW S k ws ≤ n := by
  induction ws with
  | nil => exact Nat.zero_le _
  | cons a ws ih =>
    unfold mxW
    have h1 := h a List.mem_cons_self
    have h2 := ih (fun w hw => h w (List.mem_cons_of_mem _ hw))
    omega
theorem mxW_size {S : ByteArray} {k : Nat} (hk : k ≤ S.size) (ws : List ByteArray) : k + mxW S k ws ≤ S.size := by
  have : mxW S k ws ≤ S.size - k := mxW_le fun w _ => by
    obtain ⟨_, h2, _⟩ := cm_spec S k w
    rcases Nat.eq_zero_or_pos (cm S k w) with e | e
    · omega
    · have := (h2 (cm S k w - 1) (by omega)).1; omega
  omega
def wdF (S : ByteArray) (k : Nat) (ws : List ByteArray) : Option Nat := ws.findIdx? (hitB S k)
/-- The result of a scan of words, where it ends, whether it fails. -/
def wdI (S : ByteArray) (k : Nat) (ws : List ByteArray) : Int := match wdF S k ws with | some i => (i : Int) | none => -1
def wdK (S : ByteArray) (k : Nat) (ws : List ByteArray) : Nat := match wdF S k ws with | some i => k + (ws.getD i ByteArray.empty).size | none => k + mxW S k ws
def wdB (S : ByteArray) (k : Nat) (ws : List ByteArray) : Bool := (wdF S k ws).isNone
theorem hit_bd {S : ByteArray} {k : Nat} (hk : k ≤ S.size) {w : ByteArray} (h : hitB S k w = true) : k + w.size ≤ S.size := by
  have h1 : cm S k w = w.size := of_decide_eq_true h
  obtain ⟨_, h2, _⟩ := cm_spec S k w
  rcases Nat.eq_zero_or_pos w.size with e | e
  · omega
  · have := (h2 (w.size - 1) (by omega)).1; omega
theorem getD_mem {ws : List ByteArray} {i : Nat} (h : i < ws.length) : ws.getD i ByteArray.empty ∈ ws := by
  rw [List.getD_eq_getElem?_getD, List.getElem?_eq_getElem h]; exact List.getElem_mem h
theorem wdF_some {S : ByteArray} {k i : Nat} {ws : List ByteArray} (h : wdF S k ws = some i) : i < ws.length ∧ hitB S k (ws.getD i ByteArray.empty) = true ∧ ∀ j, j < i → hitB S k (ws.getD j ByteArray.empty) = false := by
  unfold wdF at h
  rw [List.findIdx?_eq_some_iff_getElem] at h
  obtain ⟨h1, h2, h3⟩ := h
  have e : ∀ j (hj : j < ws.length), ws.getD j ByteArray.empty = ws[j] := fun j hj => by rw [List.getD_eq_getElem?_getD, List.getElem?_eq_getElem hj]; rfl
  refine ⟨h1, by rw [e i h1]; exact h2, fun j hj => ?_⟩
  rw [e j (by omega)]
  have := h3 j hj
  simpa using this
theorem wdF_none {S : ByteArray} {k : Nat} {ws : List ByteArray} (h : wdF S k ws = none) : ∀ j, j < ws.length → hitB S k (ws.getD j ByteArray.empty) = false := by
  unfold wdF at h
  rw [List.findIdx?_eq_none_iff] at h
  intro j hj
  simpa using h _ (getD_mem hj)
theorem wdF_is {S : ByteArray} {k i : Nat} {ws : List ByteArray} (h1 : i < ws.length) (h2 : hitB S k (ws.getD i ByteArray.empty) = true) (h3 : ∀ j, j < i → hitB S k (ws.getD j ByteArray.empty) = false) : wdF S k ws = some i := by
  cases e : wdF S k ws with
  | none => rw [wdF_none e i h1] at h2; cases h2
  | some m =>
    obtain ⟨g1, g2, g3⟩ := wdF_some e
    rcases Nat.lt_trichotomy i m with h | h | h
    · rw [g3 i h] at h2; cases h2
    · rw [h]
    · rw [h3 m h] at g2; cases g2
theorem wdF_is_none {S : ByteArray} {k : Nat} {ws : List ByteArray} (h : ∀ j, j < ws.length → hitB S k (ws.getD j ByteArray.empty) = false) : wdF S k ws = none := by
  cases e : wdF S k ws with
  | none => rfl
  | some m =>
    obtain ⟨g1, g2, g3⟩ := wdF_some e
    rw [h m g1] at g2; cases g2
theorem wdK_le {S : ByteArray} {k : Nat} (hk : k ≤ S.size) (ws : List ByteArray) : k ≤ wdK S k ws ∧ wdK S k ws ≤ S.size := by
  unfold wdK
  cases e : wdF S k ws with
  | none => exact ⟨Nat.le_add_right _ _, mxW_size hk ws⟩
  | some i => exact ⟨Nat.le_add_right _ _, hit_bd hk (wdF_some e).2.1⟩
/-- Two words of which one has been read whole and the other one as far: they are one. -/
theorem wok_one {ws : List ByteArray} (hw : Wok ws) {S : ByteArray} {k i j : Nat} (hi : i < ws.length) (hj : j < ws.length) (h1 : hitB S k (ws.getD i ByteArray.empty) = true) (h2 : (ws.getD i ByteArray.empty).size ≤ cm S k (ws.getD j ByteArray.empty)) : i = j := by
  refine Classical.byContradiction fun h => hw.2 i j hi hj h ?_
  have e : cm S k (ws.getD i ByteArray.empty) = (ws.getD i ByteArray.empty).size := of_decide_eq_true h1
  obtain ⟨a, b⟩ := cm_ge.1 h2
  refine ⟨a, fun p hp => ?_⟩
  have q1 := (cm_ge.1 (Nat.le_of_eq e.symm)).2 p hp
  have q2 := b p hp
  rw [← q1.2, ← q2.2]
/-- The indices of the words that are possible behind n bytes. -/
def poss (S : ByteArray) (k : Nat) (ws : List ByteArray) (n : Nat) : List Nat := (List.range ws.length).filter fun i => decide (n ≤ cm S k (ws.getD i ByteArray.empty))
theorem poss_mem {S : ByteArray} {k n i : Nat} {ws : List ByteArray} : i ∈ poss S k ws n ↔ i < ws.length ∧ n ≤ cm S k (ws.getD i ByteArray.empty) := by
  unfold poss; rw [List.mem_filter, List.mem_range, decide_eq_true_eq]
theorem poss_zero (S : ByteArray) (k : Nat) (ws : List ByteArray) : poss S k ws 0 = List.range ws.length := by
  unfold poss; rw [List.filter_eq_self]; intro a _; exact decide_eq_true (Nat.zero_le _)
/-- Is the next byte of the text that of the word behind n bytes? -/
def contB (S : ByteArray) (k : Nat) (w : ByteArray) (n : Nat) : Bool := decide (k < S.size) && (decide (n < w.size) && decide (bt w n = bt S k))
theorem poss_succ (S : ByteArray) (k n : Nat) (ws : List ByteArray) : (poss S k ws n).filter (fun i => contB S (k + n) (ws.getD i ByteArray.empty) n) = poss S k ws (n + 1) := by
  unfold poss
  rw [List.filter_filter]
  congr 1
  funext i
  have h : (contB S (k + n) (ws.getD i ByteArray.empty) n && decide (n ≤ cm S k (ws.getD i ByteArray.empty))) = true ↔ decide (n + 1 ≤ cm S k (ws.getD i ByteArray.empty)) = true := by
    rw [Bool.and_eq_true, decide_eq_true_eq, decide_eq_true_eq, cm_ge, cm_ge]
    unfold contB
    simp only [Bool.and_eq_true, decide_eq_true_eq]
    constructor
    · rintro ⟨⟨a, b, c⟩, d, e⟩
      exact ⟨by omega, fun j hj => by by_cases g : j < n; exact e j g; rw [show j = n by omega]; exact ⟨a, c.symm⟩⟩
    · rintro ⟨a, b⟩
      have := b n (by omega)
      exact ⟨⟨this.1, by omega, this.2.symm⟩, by omega, fun j hj => b j (by omega)⟩
  exact Bool.eq_iff_iff.2 h
/-- The length of the longest word. -/
def lgW : List ByteArray → Nat
  | [] => 0
  | w :: ws => max w.size (lgW ws)
theorem lgW_ge {ws : List ByteArray} {w : ByteArray} (h : w ∈ ws) : w.size ≤ lgW ws := by
  induction ws with
  | nil => cases h
  | cons a ws ih =>
    unfold lgW
    rcases List.mem_cons.1 h with rfl | h
    · omega
    · have := ih h; omega
theorem lgW_snoc (xs : List ByteArray) (w : ByteArray) : lgW (xs ++ [w]) = max (lgW xs) w.size := by
  induction xs with
  | nil => simp [lgW]
  | cons a xs ih => simp only [List.cons_append, lgW, ih]; omega
end Go.Proofs.YtlodijncaojifaaDoor
