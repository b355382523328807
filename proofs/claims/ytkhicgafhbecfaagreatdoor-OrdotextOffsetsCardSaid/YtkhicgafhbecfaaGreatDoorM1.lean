/- What earlier stages proved: Na Nb Nc Nd Ne. -/
import Derived.Test.YtkhicgafhbecfaaGreatDoorKz
import Derived.Test.YtkhicgafhbecfaaGreatDoorKa
import Derived.Defers
import Derived.Recover
namespace Go.Proofs.YtkhicgafhbecfaaGreatDoor
open Go.RowKit

theorem dtrue {p : Prop} [Decidable p] (h : p) : decide p = true := decide_eq_true h
theorem dfalse {p : Prop} [Decidable p] (h : ¬ p) : decide p = false := decide_eq_false h

def dg (S : ByteArray) (i : Nat) : Bool := decide (i < S.size) && (decide (48 ≤ bt S i) && decide (bt S i ≤ 57))
theorem dg_iff {S : ByteArray} {i : Nat} : dg S i = true ↔ i < S.size ∧ 48 ≤ bt S i ∧ bt S i ≤ 57 := by simp [dg]
theorem dg_no {S : ByteArray} {i : Nat} (h : ¬ (i < S.size ∧ 48 ≤ bt S i ∧ bt S i ≤ 57)) : dg S i = false := by
  cases e : dg S i
  · rfl
  · exact absurd (dg_iff.1 e) h
/-- How many digits follow one another from an index, n at most. -/
def dgs (S : ByteArray) (i : Nat) : Nat → Nat
  | 0 => 0
  | n + 1 => if dg S i then dgs S (i + 1) n + 1 else 0
theorem dgs_eq {S : ByteArray} {n : Nat} : ∀ {i m : Nat}, m ≤ n → (∀ j, j < m → dg S (i + j) = true) → (m = n ∨ dg S (i + m) = false) → dgs S i n = m := by
  induction n with
  | zero => intro i m h _ _; unfold dgs; omega
  | succ n ih =>
    intro i m h1 h2 h3
    cases m with
    | zero =>
      have : dg S i = false := by rcases h3 with h | h; omega; exact h
      unfold dgs; rw [this]; rfl
    | succ m =>
      have h0 := h2 0 (by omega)
      rw [Nat.add_zero] at h0
      unfold dgs
      rw [h0, if_pos rfl, ih (i := i + 1) (m := m) (by omega) (fun j hj => by rw [show i + 1 + j = i + (j + 1) by omega]; exact h2 (j + 1) (by omega)) (by rcases h3 with h | h; (left; omega); (right; rw [show i + 1 + m = i + (m + 1) by omega]; exact h))]
theorem dgs_le (S : ByteArray) (i n : Nat) : dgs S i n ≤ n := by
  induction n generalizing i with
  | zero => exact Nat.le_refl _
  | succ n ih => unfold dgs; split; have := ih (i + 1); omega; omega
theorem dgs_all (S : ByteArray) (n : Nat) : ∀ i j, j < dgs S i n → dg S (i + j) = true := by
  induction n with
  | zero => intro i j h; simp [dgs] at h
  | succ n ih =>
    intro i j h
    unfold dgs at h
    split at h
    · rename_i h0
      cases j with
      | zero => exact h0
      | succ j => rw [show i + (j + 1) = i + 1 + j by omega]; exact ih (i + 1) j (by omega)
    · omega
theorem dgs_end (S : ByteArray) (n : Nat) : ∀ i, dgs S i n = n ∨ dg S (i + dgs S i n) = false := by
  induction n with
  | zero => intro i; exact .inl rfl
  | succ n ih =>
    intro i
    cases h0 : dg S i
    · right; unfold dgs; rw [h0]; exact h0
    · have : dgs S i (n + 1) = dgs S (i + 1) n + 1 := by show (if dg S i then _ else _) = _; rw [h0]; rfl
      rw [this]
      rcases ih (i + 1) with h | h
      · left; omega
      · right; rw [show i + (dgs S (i + 1) n + 1) = i + 1 + dgs S (i + 1) n by omega]; exact h
/-- The value of m digits from an index. -/
def vl (S : ByteArray) (i : Nat) : Nat → Int
  | 0 => 0
  | m + 1 => 10 * vl S i m + (bt S (i + m) - 48)
theorem vl_succ (S : ByteArray) (i m : Nat) : vl S i (m + 1) = 10 * vl S i m + (bt S (i + m) - 48) := rfl
def pw : Nat → Int
  | 0 => 1
  | m + 1 => 10 * pw m
theorem vl_bd {S : ByteArray} {i : Nat} : ∀ {m : Nat}, (∀ j, j < m → dg S (i + j) = true) → 0 ≤ vl S i m ∧ vl S i m < pw m := by
  intro m
  induction m with
  | zero => intro _; simp [vl, pw]
  | succ m ih =>
    intro h
    have h1 := ih (fun j hj => h j (by omega))
    have h2 := dg_iff.1 (h m (by omega))
    rw [vl_succ]
    have : pw (m + 1) = 10 * pw m := rfl
    omega
theorem pw_mono {a b : Nat} (h : a ≤ b) : pw a ≤ pw b := by
  induction b with
  | zero => rw [show a = 0 by omega]; exact Int.le_refl _
  | succ b ih =>
    by_cases e : a = b + 1
    · rw [e]; exact Int.le_refl _
    · have h1 := ih (by omega)
      have h2 : pw (b + 1) = 10 * pw b := rfl
      have h3 : 1 ≤ pw b := by
        clear ih h h1 h2 e
        induction b with
        | zero => exact Int.le_refl _
        | succ b ih => have : pw (b + 1) = 10 * pw b := rfl; omega
      omega
theorem vl_lt {S : ByteArray} {i m : Nat} (h : ∀ j, j < m → dg S (i + j) = true) (hm : m ≤ 10) : 0 ≤ vl S i m ∧ vl S i m < 10000000000 := by
  have h1 := vl_bd h
  have h2 := pw_mono hm
  have h3 : pw 10 = 10000000000 := rfl
  omega
def nuZ (S : ByteArray) (k : Nat) : Bool := decide (k < S.size) && decide (bt S k = 48)
def nuN (S : ByteArray) (k : Nat) : Bool := decide (k < S.size) && decide (bt S k = 45)
def nuI (S : ByteArray) (k : Nat) : Nat := if nuN S k then k + 1 else k
def nuD (S : ByteArray) (k : Nat) : Bool := dg S (nuI S k) && !decide (bt S (nuI S k) = 48)
/-- Where a scan of a number ends, whether it fails, and its value. -/
def nuK (S : ByteArray) (k : Nat) : Nat := if nuZ S k then k + 1 else if nuD S k then nuI S k + dgs S (nuI S k) 10 else nuI S k
def nuB (S : ByteArray) (k : Nat) : Bool := !nuZ S k && !nuD S k
def nuV (S : ByteArray) (k : Nat) : Int := if nuZ S k then 0 else if nuD S k then (if nuN S k then - vl S (nuI S k) (dgs S (nuI S k) 10) else vl S (nuI S k) (dgs S (nuI S k) 10)) else 0
theorem nuI_le (S : ByteArray) (k : Nat) (h : k ≤ S.size) : nuI S k ≤ S.size := by
  unfold nuI nuN
  split
  · rename_i e; simp at e; omega
  · exact h
theorem dgs_size (S : ByteArray) (i n : Nat) (h : i ≤ S.size) : i + dgs S i n ≤ S.size := by
  rcases Nat.eq_zero_or_pos (dgs S i n) with e | e
  · omega
  · have := (dg_iff.1 (dgs_all S n i (dgs S i n - 1) (by omega))).1
    omega
theorem nuK_le (S : ByteArray) (k : Nat) (h : k ≤ S.size) : k ≤ nuK S k ∧ nuK S k ≤ S.size := by
  have h1 := nuI_le S k h
  have h2 : k ≤ nuI S k := by unfold nuI; split <;> omega
  have h3 := dgs_size S (nuI S k) 10 h1
  unfold nuK
  split
  · rename_i e; simp [nuZ] at e; omega
  · split <;> omega

def lt (S : ByteArray) (i : Nat) : Bool := decide (i < S.size) && (decide (97 ≤ bt S i) && decide (bt S i ≤ 122))
theorem lt_iff {S : ByteArray} {i : Nat} : lt S i = true ↔ i < S.size ∧ 97 ≤ bt S i ∧ bt S i ≤ 122 := by simp [lt]
theorem lt_no {S : ByteArray} {i : Nat} (h : ¬ (i < S.size ∧ 97 ≤ bt S i ∧ bt S i ≤ 122)) : lt S i = false := by
  cases e : lt S i
  · rfl
  · exact absurd (lt_iff.1 e) h
/-- The byte ahead of the i-th one behind k; ahead of the first one as if it were a hyphen. -/
def bfo (S : ByteArray) (k i : Nat) : Int := if i = 0 then 45 else bt S (k + i - 1)
theorem bfo_succ (S : ByteArray) (k i : Nat) : bfo S k (i + 1) = bt S (k + i) := by unfold bfo; rw [if_neg (by omega)]; rfl
/-- Is the i-th byte behind k accepted, if those ahead of it have been? -/
def idP (S : ByteArray) (k i : Nat) : Prop := k + i < S.size ∧ i < 40 ∧ ((97 ≤ bt S (k + i) ∧ bt S (k + i) ≤ 122) ∨ (48 ≤ bt S (k + i) ∧ bt S (k + i) ≤ 57 ∧ 0 < i) ∨ (bt S (k + i) = 45 ∧ bfo S k i ≠ 45 ∧ i ≠ 39))
instance (S : ByteArray) (k i : Nat) : Decidable (idP S k i) := by unfold idP; infer_instance
def idLn (S : ByteArray) (k i : Nat) : Nat → Nat
  | 0 => i
  | n + 1 => if idP S k i then idLn S k (i + 1) n else i
/-- How many bytes are accepted behind k. -/
def idL (S : ByteArray) (k : Nat) : Nat := idLn S k 0 41
theorem idLn_eq {S : ByteArray} {k n : Nat} : ∀ {i m : Nat}, i ≤ m → m < i + n → (∀ j, i ≤ j → j < m → idP S k j) → ¬ idP S k m → idLn S k i n = m := by
  induction n with
  | zero => intro i m h1 h2; omega
  | succ n ih =>
    intro i m h1 h2 h3 h4
    unfold idLn
    by_cases e : i = m
    · rw [e, if_neg h4]
    · rw [if_pos (h3 i (Nat.le_refl _) (by omega))]
      exact ih (by omega) (by omega) (fun j g1 g2 => h3 j (by omega) g2) h4
theorem idP_none (S : ByteArray) (k : Nat) : ¬ idP S k 40 := fun h => by unfold idP at h; omega
theorem idL_eq {S : ByteArray} {k m : Nat} (h3 : ∀ j, j < m → idP S k j) (h4 : ¬ idP S k m) : idL S k = m := by
  have : m < 41 := by
    rcases Nat.lt_or_ge m 41 with h | h
    · exact h
    · exact absurd (h3 40 (by omega)) (idP_none S k)
  exact idLn_eq (Nat.zero_le _) (by omega) (fun j _ h => h3 j h) h4
theorem idLn_spec (S : ByteArray) (k : Nat) : ∀ n i, (∀ j, j < i → idP S k j) → i + n = 41 → (∀ j, j < idLn S k i n → idP S k j) ∧ ¬ idP S k (idLn S k i n) := by
  intro n
  induction n with
  | zero => intro i h e; exact absurd (h 40 (by omega)) (idP_none S k)
  | succ n ih =>
    intro i h e
    unfold idLn
    by_cases g : idP S k i
    · rw [if_pos g]
      exact ih (i + 1) (fun j hj => by by_cases q : j < i; exact h j q; rw [show j = i by omega]; exact g) (by omega)
    · rw [if_neg g]; exact ⟨h, g⟩
theorem idL_all (S : ByteArray) (k : Nat) : (∀ j, j < idL S k → idP S k j) ∧ ¬ idP S k (idL S k) := idLn_spec S k 41 0 (fun j hj => absurd hj (by omega)) rfl
def idB (S : ByteArray) (k : Nat) : Bool := decide (bfo S k (idL S k) = 45)
def idV (S : ByteArray) (k : Nat) : ByteArray := if idB S k then ⟨#[]⟩ else S.extract k (k + idL S k)
theorem idL_le (S : ByteArray) (k : Nat) (h : k ≤ S.size) : idL S k ≤ 40 ∧ k + idL S k ≤ S.size := by
  have h1 := (idL_all S k).1
  rcases Nat.eq_zero_or_pos (idL S k) with e | e
  · omega
  · have h2 := h1 (idL S k - 1) (by omega)
    unfold idP at h2
    omega
theorem bt_ext {S : ByteArray} {k m i : Nat} (h : k + i < m) : bt (S.extract k m) i = bt S (k + i) := by
  unfold bt
  congr 2
  rw [Lib.extract_data, List.getD_eq_getElem?_getD, List.getD_eq_getElem?_getD, List.getElem?_take, if_pos (by omega), List.getElem?_drop]
theorem ext_size {S : ByteArray} {k m : Nat} (hk : k ≤ m) (hm : m ≤ S.size) : (S.extract k m).size = m - k := by rw [ByteArray.size_extract]; omega
/-- The first bytes behind k are all as in an identifier. -/
theorem pc_ext {S : ByteArray} {k m i : Nat} (h : k + i < m) : pcB (S.extract k m) i ↔ ((97 ≤ bt S (k + i) ∧ bt S (k + i) ≤ 122) ∨ (48 ≤ bt S (k + i) ∧ bt S (k + i) ≤ 57 ∧ 0 < i) ∨ (bt S (k + i) = 45 ∧ bfo S k i ≠ 45)) := by
  have e : bfr (S.extract k m) i = bfo S k i := by
    unfold bfr bfo
    by_cases g : i = 0
    · rw [if_pos g, if_pos g]
    · rw [if_neg g, if_neg g, bt_ext (by omega), show k + (i - 1) = k + i - 1 by omega]
  unfold pcB
  rw [bt_ext h, e]
theorem idn_ext {S : ByteArray} {k n : Nat} (hm : k + n ≤ S.size) : idn (S.extract k (k + n)) = true ↔ n ≤ 40 ∧ (∀ i, i < n → ((97 ≤ bt S (k + i) ∧ bt S (k + i) ≤ 122) ∨ (48 ≤ bt S (k + i) ∧ bt S (k + i) ≤ 57 ∧ 0 < i) ∨ (bt S (k + i) = 45 ∧ bfo S k i ≠ 45))) ∧ bfo S k n ≠ 45 := by
  have hs : (S.extract k (k + n)).size = n := by rw [ext_size (by omega) hm]; omega
  rw [idn_pc, hs]
  have e : bfr (S.extract k (k + n)) n = bfo S k n := by
    unfold bfr bfo
    by_cases g : n = 0
    · rw [if_pos g, if_pos g]
    · rw [if_neg g, if_neg g, bt_ext (by omega), show k + (n - 1) = k + n - 1 by omega]
  rw [e]
  constructor
  · rintro ⟨a, b, c⟩; exact ⟨a, fun i hi => (pc_ext (by omega)).1 (b i hi), c⟩
  · rintro ⟨a, b, c⟩; exact ⟨a, fun i hi => (pc_ext (by omega)).2 (b i hi), c⟩
/-- With an 'a' behind it. -/
theorem bt_app (s t : ByteArray) (i : Nat) : bt (s ++ t) i = if i < s.size then bt s i else bt t (i - s.size) := by
  unfold bt
  have e : (s ++ t).data.toList = s.data.toList ++ t.data.toList := by rw [ByteArray.data_append, Array.toList_append]
  have l : s.data.toList.length = s.size := by simp
  rw [e]
  split
  · rename_i h; rw [List.getD_eq_getElem?_getD, List.getElem?_append_left (by omega), ← List.getD_eq_getElem?_getD]
  · rename_i h; rw [List.getD_eq_getElem?_getD, List.getElem?_append_right (by omega), ← List.getD_eq_getElem?_getD, l]
theorem idn_a {s : ByteArray} : idn (s ++ ⟨#[97]⟩) = true ↔ s.size ≤ 39 ∧ ∀ i, i < s.size → pcB s i := by
  have hs : (s ++ (⟨#[97]⟩ : ByteArray)).size = s.size + 1 := by rw [ByteArray.size_append]; rfl
  have pc : ∀ i, i < s.size → (pcB (s ++ ⟨#[97]⟩) i ↔ pcB s i) := fun i hi => by
    have e : bfr (s ++ ⟨#[97]⟩) i = bfr s i := by
      unfold bfr
      split
      · rfl
      · rw [bt_app, if_pos (by omega)]
    unfold pcB
    rw [bt_app, if_pos hi, e]
  have la : bt (s ++ ⟨#[97]⟩) s.size = 97 := by rw [bt_app, if_neg (by omega), Nat.sub_self]; rfl
  rw [idn_pc, hs]
  constructor
  · rintro ⟨a, b, c⟩; exact ⟨by omega, fun i hi => (pc i hi).1 (b i (by omega))⟩
  · rintro ⟨a, b⟩
    refine ⟨by omega, fun i hi => ?_, by rw [bfr_succ, la]; decide⟩
    by_cases g : i < s.size
    · exact (pc i g).2 (b i g)
    · rw [show i = s.size by omega]; left; rw [la]; decide
/-- May a scanner that has accepted n bytes accept one more? As the program asks. -/
theorem begins_ext {S : ByteArray} {k n : Nat} (hm : k + n < S.size) (hall : ∀ j, j < n → idP S k j) : (idn (S.extract k (k + (n + 1))) || idn (S.extract k (k + (n + 1)) ++ ⟨#[97]⟩)) = decide (idP S k n) := by
  have key : (idn (S.extract k (k + (n + 1))) || idn (S.extract k (k + (n + 1)) ++ ⟨#[97]⟩)) = true ↔ idP S k n := by
    rw [Bool.or_eq_true, idn_a, idn_ext (by omega), bfo_succ, ext_size (by omega) (by omega)]
    constructor
    · rintro (⟨a, b, c⟩ | ⟨a, b⟩)
      · have := b n (by omega)
        refine ⟨hm, by omega, ?_⟩
        rcases this with h | h | ⟨h, g⟩
        · exact .inl h
        · exact .inr (.inl h)
        · exact absurd h c
      · have := (pc_ext (by omega)).1 (b n (by omega))
        refine ⟨hm, by omega, ?_⟩
        rcases this with h | h | ⟨h, g⟩
        · exact .inl h
        · exact .inr (.inl h)
        · exact .inr (.inr ⟨h, g, by omega⟩)
    · intro hp
      have hq : ∀ i, i < n + 1 → idP S k i := fun i hi => by
        by_cases g : i < n
        · exact hall i g
        · rw [show i = n by omega]; exact hp
      have hr : ∀ i, i < n + 1 → ((97 ≤ bt S (k + i) ∧ bt S (k + i) ≤ 122) ∨ (48 ≤ bt S (k + i) ∧ bt S (k + i) ≤ 57 ∧ 0 < i) ∨ (bt S (k + i) = 45 ∧ bfo S k i ≠ 45)) := fun i hi => by
        rcases (hq i hi).2.2 with h | h | ⟨h, g, _⟩
        · exact .inl h
        · exact .inr (.inl h)
        · exact .inr (.inr ⟨h, g⟩)
      obtain ⟨p1, p2, p3⟩ := hp
      by_cases c : bt S (k + n) = 45
      · right
        exact ⟨by omega, fun i hi => (pc_ext (by omega)).2 (hr i (by omega))⟩
      · left
        exact ⟨by omega, hr, c⟩
  cases a : (idn (S.extract k (k + (n + 1))) || idn (S.extract k (k + (n + 1)) ++ ⟨#[97]⟩))
  · exact (dfalse (fun h => by rw [key.2 h] at a; cases a)).symm
  · exact (dtrue (key.1 a)).symm
theorem idn_fin {S : ByteArray} {k : Nat} (h : k ≤ S.size) : idn (S.extract k (k + idL S k)) = !idB S k := by
  have h1 := idL_le S k h
  have h2 := (idL_all S k).1
  have key : idn (S.extract k (k + idL S k)) = true ↔ ¬ bfo S k (idL S k) = 45 := by
    rw [idn_ext h1.2]
    constructor
    · rintro ⟨_, _, c⟩; exact c
    · intro c
      refine ⟨h1.1, fun i hi => ?_, c⟩
      rcases (h2 i hi).2.2 with h | h | ⟨h, g, _⟩
      · exact .inl h
      · exact .inr (.inl h)
      · exact .inr (.inr ⟨h, g⟩)
  unfold idB
  cases a : idn (S.extract k (k + idL S k))
  · rw [dtrue (Classical.byContradiction fun c => by rw [key.2 c] at a; cases a)]; rfl
  · rw [dfalse (key.1 a)]; rfl

def cmn (S : ByteArray) (k : Nat) (w : ByteArray) (i : Nat) : Nat → Nat
  | 0 => i
  | n + 1 => if i < w.size ∧ k + i < S.size ∧ bt S (k + i) = bt w i then cmn S k w (i + 1) n else i
/-- How many bytes the text behind k and a word have in common. -/
def cm (S : ByteArray) (k : Nat) (w : ByteArray) : Nat := cmn S k w 0 w.size
theorem cmn_eq {S : ByteArray} {k n : Nat} {w : ByteArray} : ∀ {i m : Nat}, i ≤ m → m ≤ i + n → i + n = w.size → (∀ j, i ≤ j → j < m → k + j < S.size ∧ bt S (k + j) = bt w j) → (m = w.size ∨ ¬ (k + m < S.size ∧ bt S (k + m) = bt w m)) → cmn S k w i n = m := by
  induction n with
  | zero => intro i m h1 h2 h3 _ _; unfold cmn; omega
  | succ n ih =>
    intro i m h1 h2 h3 h4 h5
    unfold cmn
    by_cases e : i = m
    · rw [if_neg]
      · exact e
      · rintro ⟨a, b, c⟩
        rcases h5 with h | h
        · omega
        · rw [e] at b c; exact h ⟨b, c⟩
    · have := h4 i (Nat.le_refl _) (by omega)
      rw [if_pos ⟨by omega, this.1, this.2⟩]
      exact ih (by omega) (by omega) (by omega) (fun j g1 g2 => h4 j (by omega) g2) h5
theorem cm_eq {S : ByteArray} {k m : Nat} {w : ByteArray} (h1 : m ≤ w.size) (h2 : ∀ j, j < m → k + j < S.size ∧ bt S (k + j) = bt w j) (h3 : m = w.size ∨ ¬ (k + m < S.size ∧ bt S (k + m) = bt w m)) : cm S k w = m :=
  cmn_eq (Nat.zero_le _) (by omega) (by omega) (fun j _ h => h2 j h) h3
theorem cmn_spec {S : ByteArray} {k n : Nat} {w : ByteArray} : ∀ {i : Nat}, i + n = w.size → (∀ j, j < i → k + j < S.size ∧ bt S (k + j) = bt w j) → cmn S k w i n ≤ w.size ∧ (∀ j, j < cmn S k w i n → k + j < S.size ∧ bt S (k + j) = bt w j) ∧ (cmn S k w i n = w.size ∨ ¬ (k + cmn S k w i n < S.size ∧ bt S (k + cmn S k w i n) = bt w (cmn S k w i n))) := by
  induction n with
  | zero => intro i h1 h2; unfold cmn; exact ⟨by omega, h2, .inl (by omega)⟩
  | succ n ih =>
    intro i h1 h2
    unfold cmn
    by_cases e : i < w.size ∧ k + i < S.size ∧ bt S (k + i) = bt w i
    · rw [if_pos e]
      exact ih (by omega) (fun j hj => by by_cases g : j < i; exact h2 j g; rw [show j = i by omega]; exact e.2)
    · rw [if_neg e]
      exact ⟨by omega, h2, .inr (fun g => e ⟨by omega, g⟩)⟩
theorem cm_spec (S : ByteArray) (k : Nat) (w : ByteArray) : cm S k w ≤ w.size ∧ (∀ j, j < cm S k w → k + j < S.size ∧ bt S (k + j) = bt w j) ∧ (cm S k w = w.size ∨ ¬ (k + cm S k w < S.size ∧ bt S (k + cm S k w) = bt w (cm S k w))) :=
  cmn_spec (Nat.zero_add _) (fun j hj => absurd hj (by omega))
/-- Are the first n bytes behind k those of the word? -/
theorem cm_ge {S : ByteArray} {k n : Nat} {w : ByteArray} : n ≤ cm S k w ↔ n ≤ w.size ∧ ∀ j, j < n → k + j < S.size ∧ bt S (k + j) = bt w j := by
  obtain ⟨h1, h2, h3⟩ := cm_spec S k w
  constructor
  · intro h; exact ⟨by omega, fun j hj => h2 j (by omega)⟩
  · rintro ⟨a, b⟩
    rcases Nat.lt_or_ge (cm S k w) n with h | h
    · rcases h3 with g | g
      · omega
      · exact absurd (b _ h) g
    · exact h
/-- The words may be given: none is empty, none is a prefix of another one. -/
def Wok (ws : List ByteArray) : Prop := (∀ i, i < ws.length → 1 ≤ (ws.getD i ByteArray.empty).size) ∧ ∀ i j, i < ws.length → j < ws.length → i ≠ j → ¬ ((ws.getD i ByteArray.empty).size ≤ (ws.getD j ByteArray.empty).size ∧ ∀ p, p < (ws.getD i ByteArray.empty).size → bt (ws.getD i ByteArray.empty) p = bt (ws.getD j ByteArray.empty) p)
def hitB (S : ByteArray) (k : Nat) (w : ByteArray) : Bool := decide (cm S k w = w.size)
def mxW (S : ByteArray) (k : Nat) : List ByteArray → Nat
  | [] => 0
  | w :: ws => max (cm S k w) (mxW S k ws)
theorem mxW_ge {S : ByteArray} {k : Nat} {ws : List ByteArray} {w : ByteArray} (h : w ∈ ws) : cm S k w ≤ mxW S k ws := by
  induction ws with
  | nil => cases h
  | cons a ws ih =>
    unfold mxW
    rcases List.mem_cons.1 h with rfl | h
    · omega
    · have := ih h; omega
theorem mxW_le {S : ByteArray} {k n : Nat} {ws : List ByteArray} (h : ∀ w ∈ ws, cm S k w ≤ n) : mxW S k ws ≤ n := by
  induction ws with
  | nil => exact Nat.zero_le _
  | cons a ws ih =>
    unfold mxW
    have h1 := h a List.mem_cons_self
    have h2 := ih (fun w hw => h w (List.mem_cons_of_mem _ hw))
    omega
theorem mxW_size {S : ByteArray} {k : Nat} (hk : k ≤ S.size) (ws : List ByteArray) : k + mxW S k ws ≤ S.size := by
  have : mxW S k ws ≤ S.size - k := mxW_le fun w _ => by
    obtain ⟨_, h2, _⟩ := cm_spec S k w
    rcases Nat.eq_zero_or_pos (cm S k w) with e | e
    · omega
    · have := (h2 (cm S k w - 1) (by omega)).1; omega
  omega
def wdF (S : ByteArray) (k : Nat) (ws : List ByteArray) : Option Nat := ws.findIdx? (hitB S k)
/-- The result of a scan of words, where it ends, whether it fails. -/
def wdI (S : ByteArray) (k : Nat) (ws : List ByteArray) : Int := match wdF S k ws with | some i => (i : Int) | none => -1
def wdK (S : ByteArray) (k : Nat) (ws : List ByteArray) : Nat := match wdF S k ws with | some i => k + (ws.getD i ByteArray.empty).size | none => k + mxW S k ws
def wdB (S : ByteArray) (k : Nat) (ws : List ByteArray) : Bool := (wdF S k ws).isNone
theorem hit_bd {S : ByteArray} {k : Nat} (hk : k ≤ S.size) {w : ByteArray} (h : hitB S k w = true) : k + w.size ≤ S.size := by
  have h1 : cm S k w = w.size := of_decide_eq_true h
  obtain ⟨_, h2, _⟩ := cm_spec S k w
  rcases Nat.eq_zero_or_pos w.size with e | e
  · omega
  · have := (h2 (w.size - 1) (by omega)).1; omega
theorem getD_mem {ws : List ByteArray} {i : Nat} (h : i < ws.length) : ws.getD i ByteArray.empty ∈ ws := by
  rw [List.getD_eq_getElem?_getD, List.getElem?_eq_getElem h]; exact List.getElem_mem h
theorem wdF_some {S : ByteArray} {k i : Nat} {ws : List ByteArray} (h : wdF S k ws = some i) : i < ws.length ∧ hitB S k (ws.getD i ByteArray.empty) = true ∧ ∀ j, j < i → hitB S k (ws.getD j ByteArray.empty) = false := by
  unfold wdF at h
  rw [List.findIdx?_eq_some_iff_getElem] at h
  obtain ⟨h1, h2, h3⟩ := h
  have e : ∀ j (hj : j < ws.length), ws.getD j ByteArray.empty = ws[j] := fun j hj => by rw [List.getD_eq_getElem?_getD, List.getElem?_eq_getElem hj]; rfl
  refine ⟨h1, by rw [e i h1]; exact h2, fun j hj => ?_⟩
  rw [e j (by omega)]
  have := h3 j hj
  simpa using this
theorem wdF_none {S : ByteArray} {k : Nat} {ws : List ByteArray} (h : wdF S k ws = none) : ∀ j, j < ws.length → hitB S k (ws.getD j ByteArray.empty) = false := by
  unfold wdF at h
  rw [List.findIdx?_eq_none_iff] at h
  intro j hj
  simpa using h _ (getD_mem hj)
theorem wdF_is {S : ByteArray} {k i : Nat} {ws : List ByteArray} (h1 : i < ws.length) (h2 : hitB S k (ws.getD i ByteArray.empty) = true) (h3 : ∀ j, j < i → hitB S k (ws.getD j ByteArray.empty) = false) : wdF S k ws = some i := by
  cases e : wdF S k ws with
  | none => rw [wdF_none e i h1] at h2; cases h2
  | some m =>
    obtain ⟨g1, g2, g3⟩ := wdF_some e
    rcases Nat.lt_trichotomy i m with h | h | h
    · rw [g3 i h] at h2; cases h2
    · rw [h]
    · rw [h3 m h] at g2; cases g2
theorem wdF_is_none {S : ByteArray} {k : Nat} {ws : List ByteArray} (h : ∀ j, j < ws.length → hitB S k (ws.getD j ByteArray.empty) = false) : wdF S k ws = none := by
  cases e : wdF S k ws with
  | none => rfl
  | some m =>
    obtain ⟨g1, g2, g3⟩ := wdF_some e
    rw [h m g1] at g2; cases g2
theorem wdK_le {S : ByteArray} {k : Nat} (hk : k ≤ S.size) (ws : List ByteArray) : k ≤ wdK S k ws ∧ wdK S k ws ≤ S.size := by
  unfold wdK
  cases e : wdF S k ws with
  | none => exact ⟨Nat.le_add_right _ _, mxW_size hk ws⟩
  | some i => exact ⟨Nat.le_add_right _ _, hit_bd hk (wdF_some e).2.1⟩
/-- Two words of which one has been read whole and the other one as far: they are one. -/
theorem wok_one {ws : List ByteArray} (hw : Wok ws) {S : ByteArray} {k i j : Nat} (hi : i < ws.length) (hj : j < ws.length) (h1 : hitB S k (ws.getD i ByteArray.empty) = true) (h2 : (ws.getD i ByteArray.empty).size ≤ cm S k (ws.getD j ByteArray.empty)) : i = j := by
  refine Classical.byContradiction fun h => hw.2 i j hi hj h ?_
  have e : cm S k (ws.getD i ByteArray.empty) = (ws.getD i ByteArray.empty).size := of_decide_eq_true h1
  obtain ⟨a, b⟩ := cm_ge.1 h2
  refine ⟨a, fun p hp => ?_⟩
  have q1 := (cm_ge.1 (Nat.le_of_eq e.symm)).2 p hp
  have q2 := b p hp
  rw [← q1.2, ← q2.2]
/-- The indices of the words that are possible behind n bytes. -/
def poss (S : ByteArray) (k : Nat) (ws : List ByteArray) (n : Nat) : List Nat := (List.range ws.length).filter fun i => decide (n ≤ cm S k (ws.getD i ByteArray.empty))
theorem poss_mem {S : ByteArray} {k n i : Nat} {ws : List ByteArray} : i ∈ poss S k ws n ↔ i < ws.length ∧ n ≤ cm S k (ws.getD i ByteArray.empty) := by
  unfold poss; rw [List.mem_filter, List.mem_range, decide_eq_true_eq]
theorem poss_zero (S : ByteArray) (k : Nat) (ws : List ByteArray) : poss S k ws 0 = List.range ws.length := by
  unfold poss; rw [List.filter_eq_self]; intro a _; exact decide_eq_true (Nat.zero_le _)
/-- Is the next byte of the text that of the word behind n bytes? -/
def contB (S : ByteArray) (k : Nat) (w : ByteArray) (n : Nat) : Bool := decide (k < S.size) && (decide (n < w.size) && decide (bt w n = bt S k))
theorem poss_succ (S : ByteArray) (k n : Nat) (ws : List ByteArray) : (poss S k ws n).filter (fun i => contB S (k + n) (ws.getD i ByteArray.empty) n) = poss S k ws (n + 1) := by
  unfold poss
  rw [List.filter_filter]
  congr 1
  funext i
  have h : (contB S (k + n) (ws.getD i ByteArray.empty) n && decide (n ≤ cm S k (ws.getD i ByteArray.empty))) = true ↔ decide (n + 1 ≤ cm S k (ws.getD i ByteArray.empty)) = true := by
    rw [Bool.and_eq_true, decide_eq_true_eq, decide_eq_true_eq, cm_ge, cm_ge]
    unfold contB
    simp only [Bool.and_eq_true, decide_eq_true_eq]
    constructor
    · rintro ⟨⟨a, b, c⟩, d, e⟩
      exact ⟨by omega, fun j hj => by by_cases g : j < n; exact e j g; rw [show j = n by omega]; exact ⟨a, c.symm⟩⟩
    · rintro ⟨a, b⟩
      have := b n (by omega)
      exact ⟨⟨this.1, by omega, this.2.symm⟩, by omega, fun j hj => b j (by omega)⟩
  exact Bool.eq_iff_iff.2 h
/-- The length of the longest word. -/
def lgW : List ByteArray → Nat
  | [] => 0
  | w :: ws => max w.size (lgW ws)
theorem lgW_ge {ws : List ByteArray} {w : ByteArray} (h : w ∈ ws) : w.size ≤ lgW ws := by
  induction ws with
  | nil => cases h
  | cons a ws ih =>
    unfold lgW
    rcases List.mem_cons.1 h with rfl | h
    · omega
    · have := ih h; omega
theorem lgW_snoc (xs : List ByteArray) (w : ByteArray) : lgW (xs ++ [w]) = max (lgW xs) w.size := by
  induction xs with
  | nil => simp [lgW]
  | cons a xs ih => simp only [List.cons_append, lgW, ih]; omega
end Go.Proofs.YtkhicgafhbecfaaGreatDoor

namespace Go.Proofs.YtkhicgafhbecfaaGreatDoor
open Go.RowKit

structure Bt (b : Nat) (w w' : World) : Prop where
  os : w'.os = w.os
  tape : w'.tape = w.tape
  output : w'.output = w.output
  size : w.heap.size ≤ w'.heap.size
  block : ∀ j, j < w.heap.size → j ≠ b → w'.heap[j]? = w.heap[j]?
theorem Bt.refl (b : Nat) (w : World) : Bt b w w := ⟨rfl, rfl, rfl, Nat.le_refl _, fun _ _ _ => rfl⟩
theorem Bt.trans {b : Nat} {w w' w'' : World} (h : Bt b w w') (h' : Bt b w' w'') : Bt b w w'' :=
  ⟨h'.os.trans h.os, h'.tape.trans h.tape, h'.output.trans h.output, Nat.le_trans h.size h'.size, fun j h1 h2 => (h'.block j (Nat.lt_of_lt_of_le h1 h.size) h2).trans (h.block j h1 h2)⟩
theorem Bt.of_below {b : Nat} {w w' : World} (h : Below w.heap.size w w') : Bt b w w' := ⟨h.os, h.tape, h.output, h.size, fun j h1 _ => h.block j h1⟩
theorem Bt.dn (b : Nat) (w : World) (n : Nat) : Bt b w (w.drewN n) := ⟨rfl, rfl, rfl, Nat.le_refl _, fun _ _ _ => rfl⟩
theorem Bt.set (b : Nat) (w : World) (o : Nat) (v : Value) : Bt b w (w.setCell ⟨b, o, none⟩ v) := ⟨rfl, rfl, rfl, by simp, fun j _ h2 => Below.heap_setCell _ _ _ _ h2⟩
theorem Bt.al (b : Nat) (w : World) (o : Obj) : Bt b w (w.alloc o) := .of_below ((Below.refl _ _).alloc (Nat.le_refl _) o)
theorem Bt.below {b B : Nat} {w w' : World} (h : Bt b w w') (hB : B ≤ b) (hs : B ≤ w.heap.size) : Below B w w' := ⟨h.os, h.tape, h.output, h.size, fun j hj => h.block j (by omega) (by omega)⟩
theorem Bt.row {b c : Nat} {o : Obj} {w w' : World} (h : Bt b w w') (hn : c ≠ b) (hr : w.heap[c]? = some o) : w'.heap[c]? = some o := by
  rw [h.block c (Array.getElem?_eq_some_iff.1 hr).1 hn]; exact hr
theorem Bt.cell {b c i : Nat} {v : Value} {w w' : World} (h : Bt b w w') (hn : c ≠ b) (hr : w.cell? ⟨c, i, none⟩ = some v) : w'.cell? ⟨c, i, none⟩ = some v :=
  (World.cell?_of_block (a := ⟨c, i, none⟩) (h.block c (World.block_lt_of_cell? w _ hr) hn)).trans hr
theorem Bt.frozen {b c i : Nat} {w w' : World} (h : Bt b w w') (hn : c ≠ b) (hl : c < w.heap.size) (hr : w.frozen? ⟨c, i, none⟩ = false) : w'.frozen? ⟨c, i, none⟩ = false :=
  (World.frozen?_of_block (a := ⟨c, i, none⟩) (h.block c hl hn)).trans hr
theorem row_dn {w : World} {b : Nat} {o : Obj} (h : w.heap[b]? = some o) (n : Nat) : (w.drewN n).heap[b]? = some o := h
theorem row_lt {w : World} {b : Nat} {o : Obj} (h : w.heap[b]? = some o) : b < w.heap.size := (Array.getElem?_eq_some_iff.1 h).1
theorem row_kept {w w' : World} {b : Nat} {o : Obj} (h : w.heap[b]? = some o) (hb : Below w.heap.size w w') : w'.heap[b]? = some o := by
  rw [hb.block _ (row_lt h)]; exact h

/-- A scanner in memory. -/
abbrev scO (S : ByteArray) (k : Nat) (bad : Bool) : Obj := .cells #[.string S, .int .i64 k, .bool bad] 81
theorem sc_facts {w : World} {b k : Nat} {S : ByteArray} {bad : Bool} (h : w.heap[b]? = some (scO S k bad)) :
    w.cell? ⟨b, 0, none⟩ = some (.string S) ∧ w.cell? ⟨b, 1, none⟩ = some (.int .i64 k) ∧ w.cell? ⟨b, 2, none⟩ = some (.bool bad) ∧
    w.frozen? ⟨b, 0, none⟩ = false ∧ w.frozen? ⟨b, 1, none⟩ = false ∧ w.frozen? ⟨b, 2, none⟩ = false ∧ b < w.heap.size :=
  ⟨by rw [cell_of_row w b 0 _ _ _ h]; rfl, by rw [cell_of_row w b 1 _ _ _ h]; rfl, by rw [cell_of_row w b 2 _ _ _ h]; rfl, frozen_of_row w b 0 _ _ h, frozen_of_row w b 1 _ _ h, frozen_of_row w b 2 _ _ h, row_lt h⟩
theorem sc_bad {w : World} {b k : Nat} {S : ByteArray} {bad : Bool} (h : w.heap[b]? = some (scO S k bad)) : (w.setCell ⟨b, 2, none⟩ (.bool true)).heap[b]? = some (scO S k true) := heap_setCell_same w b 2 _ _ _ h
theorem sc_at {w : World} {b k : Nat} {S : ByteArray} {bad : Bool} (h : w.heap[b]? = some (scO S k bad)) (n : Nat) : (w.setCell ⟨b, 1, none⟩ (.int .i64 n)).heap[b]? = some (scO S n bad) := heap_setCell_same w b 1 _ _ _ h
abbrev sgV : Value := .iface 26 (.int .i64 6)
abbrev sgP : PanicEntry := { v := sgV, recovered := false }
abbrev xp (b : Nat) : Value := .pointer (some ⟨b, 0, none⟩)

theorem wpS_region_draw {P : Program} {ops : Array Oper} {Q : Exit → Act → List Frame → World → Prop} {a : Act} {cs : List Frame} {w : World} {id : Nat}
    (h : ∀ t, wpOpsS P ops Q (Region.schedule (P.follows .mixedOrders) ops t) a cs { w with drawn := w.drawn + 1 }) : (Code.region id ops true).wpS P Q a cs w :=
  fun b k hb hr => let ⟨e, a', cs', w', q, r⟩ := wp_opsS _ a cs _ (h _) b k hb hr; ⟨e, a', cs', w', q, .of_steps (.one step_region_draw) r⟩
theorem sched3 {ops : Array Oper} (hs : ops.size = 3) (h0 : Region.ready .any ops #[false, false, false] = [0, 1]) (h1 : Region.ready .any ops #[true, false, false] = [1]) (h2 : Region.ready .any ops #[false, true, false] = [0]) (h3 : Region.ready .any ops #[true, true, false] = [2]) (t : Nat) :
    Region.schedule true ops t = [0, 1, 2] ∨ Region.schedule true ops t = [1, 0, 2] := by
  have go : ∀ (n t : Nat) (L : Array Bool) (acc rs : List Nat), Region.ready .any ops L = rs → Region.linearise.go .any ops (n + 1) t L acc = match rs[t % rs.length]? with | some i => Region.linearise.go .any ops n (t / rs.length) (L.setIfInBounds i true) (i :: acc) | none => acc.reverse := by
    intro n t L acc rs e; subst e; rfl
  have e : Region.schedule true ops t = Region.linearise.go .any ops 3 t #[false, false, false] [] := by
    simp only [Region.schedule, Bool.true_or, if_true, Region.linearise, hs]; rfl
  rw [e, go 2 t _ _ _ h0]
  have : t % 2 = 0 ∨ t % 2 = 1 := by omega
  rcases this with g | g
  · left
    simp only [List.length_cons, List.length_nil, g]
    show Region.linearise.go .any ops 2 _ #[true, false, false] [0] = _
    rw [go 1 _ _ _ _ h1]
    simp only [List.length_cons, List.length_nil, Nat.zero_add, Nat.mod_one]
    show Region.linearise.go .any ops 1 _ #[true, true, false] [1, 0] = _
    rw [go 0 _ _ _ _ h3]
    simp only [List.length_cons, List.length_nil, Nat.zero_add, Nat.mod_one]
    rfl
  · right
    simp only [List.length_cons, List.length_nil, g]
    show Region.linearise.go .any ops 2 _ #[false, true, false] [1] = _
    rw [go 1 _ _ _ _ h2]
    simp only [List.length_cons, List.length_nil, Nat.zero_add, Nat.mod_one]
    show Region.linearise.go .any ops 1 _ #[true, true, false] [0, 1] = _
    rw [go 0 _ _ _ _ h3]
    simp only [List.length_cons, List.length_nil, Nat.zero_add, Nat.mod_one]
    rfl

theorem cau_idle (x : Value) (w : World) : Calls Tryz.prog 48 #[x, .nilIface] w fun e w' => e = .returned (.bool false) ∧ w' = w := by
  have hq : ∀ w, (binOp .eql 20 .nilIface .nilIface).run Tryz.prog w = .ok (.bool true) w := fun _ => by kernel_rfl
  go_enter Tryz.func48, Tryz.ntmps48
  go_wp2
  go_ret
  exact ⟨rfl, rfl⟩
set_option maxRecDepth 100000 in
theorem cau_some {S : ByteArray} {b k : Nat} {bad : Bool} {w : World} (h : w.heap[b]? = some (scO S k bad)) : Calls Tryz.prog 48 #[xp b, sgV] w fun e w' => e = .returned (.bool true) ∧ w' = w.setCell ⟨b, 2, none⟩ (.bool true) := by
  obtain ⟨c0, c1, c2, f0, f1, f2, hl⟩ := sc_facts h
  have hq : ∀ w, (binOp .eql 20 sgV .nilIface).run Tryz.prog w = .ok (.bool false) w := fun _ => by kernel_rfl
  go_enter Tryz.func48, Tryz.ntmps48
  go_wp2
  go_ret
  exact ⟨rfl, rfl⟩
set_option maxRecDepth 100000 in
theorem cau_nil (w : World) : Calls Tryz.prog 48 #[.pointer none, sgV] w fun e w' => e = .returned (.bool true) ∧ w' = w := by
  have hq : ∀ w, (binOp .eql 20 sgV .nilIface).run Tryz.prog w = .ok (.bool false) w := fun _ => by kernel_rfl
  go_enter Tryz.func48, Tryz.ntmps48
  go_wp2
  go_ret
  exact ⟨rfl, rfl⟩
theorem mex_ok (b : Nat) (w : World) : Calls Tryz.prog 51 #[xp b] w fun e w' => e = .returned (.tuple #[]) ∧ w = w' := by
  go_enter Tryz.func51, Tryz.ntmps51
  go_wp2
  go_end0
  exact ⟨rfl, rfl⟩
theorem mex_nil (w : World) : Calls Tryz.prog 51 #[.pointer none] w fun e w' => e = .panicked [sgP] ∧ w = w' := by
  go_enter Tryz.func51, Tryz.ntmps51
  go_wp2
  exact ⟨rfl, rfl, rfl⟩
theorem mbg_nil (w : World) : Calls Tryz.prog 49 #[.pointer none] w fun e w' => e = .panicked [sgP] ∧ w = w' := by
  go_enter Tryz.func49, Tryz.ntmps49
  go_wp2_with fail
  refine (mex_nil _).mono ?_
  rintro e w' ⟨rfl, rfl⟩
  exact ⟨rfl, rfl, rfl⟩
theorem mbg_ok {S : ByteArray} {b k : Nat} {w : World} (h : w.heap[b]? = some (scO S k false)) : Calls Tryz.prog 49 #[xp b] w fun e w' => e = .returned (.tuple #[]) ∧ w = w' := by
  obtain ⟨c0, c1, c2, f0, f1, f2, hl⟩ := sc_facts h
  go_enter Tryz.func49, Tryz.ntmps49
  go_wp2_with fail
  refine (mex_ok b _).mono ?_
  rintro e w' ⟨rfl, rfl⟩
  go_wp2_with fail
  go_end0
  exact ⟨rfl, rfl⟩
theorem mbg_bad {S : ByteArray} {b k : Nat} {w : World} (h : w.heap[b]? = some (scO S k true)) : Calls Tryz.prog 49 #[xp b] w fun e w' => e = .panicked [sgP] ∧ w = w' := by
  obtain ⟨c0, c1, c2, f0, f1, f2, hl⟩ := sc_facts h
  go_enter Tryz.func49, Tryz.ntmps49
  go_wp2_with fail
  refine (mex_ok b _).mono ?_
  rintro e w' ⟨rfl, rfl⟩
  go_wp2_with fail
  exact ⟨rfl, rfl, rfl⟩
theorem new25_any (S : ByteArray) (w : World) : Calls Tryz.prog 19 #[.string S] w fun e w' => e = .returned (xp w.heap.size) ∧ w'.heap[w.heap.size]? = some (scO S 0 false) ∧ Below w.heap.size w w' := by
  go_enter Tryz.func19, Tryz.ntmps19
  go_wp2
  go_ret
  exact ⟨rfl, heap_alloc_new w _, (Below.refl _ _).alloc (Nat.le_refl _) _⟩
def nxB (S : ByteArray) (k : Nat) : Int := if k < S.size then bt S k else 0
theorem nxt_any {S : ByteArray} {b k : Nat} {bad : Bool} {w : World} (h : w.heap[b]? = some (scO S k bad)) (hk : k ≤ S.size) : Calls Tryz.prog 102 #[xp b] w fun e w' => e = .returned (.int .u8 (nxB S k)) ∧ ∃ m, w' = w.drewN m := by
  obtain ⟨c0, c1, c2, f0, f1, f2, hl⟩ := sc_facts h
  clear h
  by_cases hlt : k < S.size
  · have e1 : ((k : Int) == (S.size : Int)) = false := beq_eq_false_iff_ne.2 (by omega)
    have hx := idx_str S k (by omega) (by omega)
    rw [Int.toNat_natCast] at hx
    have e2 : nxB S k = bt S k := if_pos hlt
    have E := Lib.hid e2
    generalize bt S k = x at *
    generalize nxB S k = y at *
    clear e2 hlt hk
    go_enter Tryz.func102, Tryz.ntmps102
    go_wp2_with fail
    go_quiet (fail)
    go_wp2_with fail
    go_quiet (fail)
    go_wp2_with fail
    go_ret
    exact ⟨by rw [E.out]; rfl, _, dn_dn _ _ _⟩
  · have e1 : ((k : Int) == (S.size : Int)) = true := beq_iff_eq.2 (by omega)
    have e2 : nxB S k = 0 := if_neg hlt
    have E := Lib.hid e2
    generalize nxB S k = y at *
    clear e2 hlt hk
    go_enter Tryz.func102, Tryz.ntmps102
    go_wp2_with fail
    go_quiet (fail)
    go_wp2_with fail
    go_ret
    exact ⟨by rw [E.out]; rfl, _, rfl⟩
end Go.Proofs.YtkhicgafhbecfaaGreatDoor

namespace Go.Proofs.YtkhicgafhbecfaaGreatDoor
open Go.RowKit

theorem mix25 : Tryz.prog.follows .mixedOrders = true := by kernel_rfl
theorem wpS_three {P : Program} {ops : Array Oper} {Q : Exit → Act → List Frame → World → Prop} {a : Act} {cs : List Frame} {w : World} {id : Nat} (hm : P.follows .mixedOrders = true)
    (hs : ops.size = 3) (h0 : Region.ready .any ops #[false, false, false] = [0, 1]) (h1 : Region.ready .any ops #[true, false, false] = [1]) (h2 : Region.ready .any ops #[false, true, false] = [0]) (h3 : Region.ready .any ops #[true, true, false] = [2])
    (hA : wpOpsS P ops Q [0, 1, 2] a cs w.drew) (hB : wpOpsS P ops Q [1, 0, 2] a cs w.drew) : (Code.region id ops true).wpS P Q a cs w := by
  refine wpS_region_draw fun t => ?_
  rw [hm]
  rcases sched3 hs h0 h1 h2 h3 t with e | e
  · rw [e]; exact hA
  · rw [e]; exact hB
theorem cells_drew {w : World} {b i : Nat} {v : Value} (h : w.cell? ⟨b, i, none⟩ = some v) : w.drew.cell? ⟨b, i, none⟩ = some v := h
set_option maxRecDepth 100000 in
theorem nuc25_cat {S : ByteArray} {b k : Nat} {bad : Bool} {p : Nat} {w : World} (hp : w.cell? ⟨p, 0, none⟩ = some (xp b)) (h : w.heap[b]? = some (scO S k bad)) (older : List PanicEntry) :
    CallsD Tryz.prog 69 #[xp p] (.panicking (sgP :: older)) w fun e u' w' => e = .returned (.tuple #[]) ∧ u' = .panicking ({ v := sgV, recovered := true } :: older) ∧ w' = (w.setCell ⟨b, 2, none⟩ (.bool true)).drew := by
  refine callsD_of_wpS Tryz.func69 rfl fun c₀ cs hu => ?_
  refine wpS_three mix25 rfl (by kernel_rfl) (by kernel_rfl) (by kernel_rfl) (by kernel_rfl) ?_ ?_
  all_goals
    simp [wpOpsS, go_sem, recoverD, hu, hp, Tryz.ntmps69]
    refine (cau_some (w := w.drew) h).mono ?_
    rintro e w' ⟨rfl, rfl⟩
    simp [bodyPostS, results, Tryz.results69] <;> rfl
set_option maxRecDepth 100000 in
theorem nuc25_cnil {p : Nat} {w : World} (hp : w.cell? ⟨p, 0, none⟩ = some (.pointer none)) (older : List PanicEntry) :
    CallsD Tryz.prog 69 #[xp p] (.panicking (sgP :: older)) w fun e u' w' => e = .returned (.tuple #[]) ∧ u' = .panicking ({ v := sgV, recovered := true } :: older) ∧ w' = (w).drew := by
  refine callsD_of_wpS Tryz.func69 rfl fun c₀ cs hu => ?_
  refine wpS_three mix25 rfl (by kernel_rfl) (by kernel_rfl) (by kernel_rfl) (by kernel_rfl) ?_ ?_
  all_goals
    simp [wpOpsS, go_sem, recoverD, hu, hp, Tryz.ntmps69]
    refine (cau_nil _).mono ?_
    rintro e w' ⟨rfl, rfl⟩
    simp [bodyPostS, results, Tryz.results69]
set_option maxRecDepth 100000 in
theorem nuc25_idl {p : Nat} {x : Value} {w : World} (hp : w.cell? ⟨p, 0, none⟩ = some x) :
    CallsD Tryz.prog 69 #[xp p] .returning w fun e u' w' => e = .returned (.tuple #[]) ∧ u' = .returning ∧ w' = w.drew := by
  refine callsD_of_wpS Tryz.func69 rfl fun c₀ cs hu => ?_
  refine wpS_three mix25 rfl (by kernel_rfl) (by kernel_rfl) (by kernel_rfl) (by kernel_rfl) ?_ ?_
  all_goals
    simp [wpOpsS, go_sem, recoverD, hu, hp, Tryz.ntmps69]
    refine (cau_idle _ _).mono ?_
    rintro e w' ⟨rfl, rfl⟩
    cases c₀
    simp_all [bodyPostS, results, Tryz.results69]
set_option maxRecDepth 100000 in
theorem idc25_cat {S : ByteArray} {b k : Nat} {bad : Bool} {p : Nat} {w : World} (hp : w.cell? ⟨p, 0, none⟩ = some (xp b)) (h : w.heap[b]? = some (scO S k bad)) (older : List PanicEntry) :
    CallsD Tryz.prog 118 #[xp p] (.panicking (sgP :: older)) w fun e u' w' => e = .returned (.tuple #[]) ∧ u' = .panicking ({ v := sgV, recovered := true } :: older) ∧ w' = (w.setCell ⟨b, 2, none⟩ (.bool true)).drew := by
  refine callsD_of_wpS Tryz.func118 rfl fun c₀ cs hu => ?_
  refine wpS_three mix25 rfl (by kernel_rfl) (by kernel_rfl) (by kernel_rfl) (by kernel_rfl) ?_ ?_
  all_goals
    simp [wpOpsS, go_sem, recoverD, hu, hp, Tryz.ntmps118]
    refine (cau_some (w := w.drew) h).mono ?_
    rintro e w' ⟨rfl, rfl⟩
    simp [bodyPostS, results, Tryz.results118] <;> rfl
set_option maxRecDepth 100000 in
theorem idc25_cnil {p : Nat} {w : World} (hp : w.cell? ⟨p, 0, none⟩ = some (.pointer none)) (older : List PanicEntry) :
    CallsD Tryz.prog 118 #[xp p] (.panicking (sgP :: older)) w fun e u' w' => e = .returned (.tuple #[]) ∧ u' = .panicking ({ v := sgV, recovered := true } :: older) ∧ w' = (w).drew := by
  refine callsD_of_wpS Tryz.func118 rfl fun c₀ cs hu => ?_
  refine wpS_three mix25 rfl (by kernel_rfl) (by kernel_rfl) (by kernel_rfl) (by kernel_rfl) ?_ ?_
  all_goals
    simp [wpOpsS, go_sem, recoverD, hu, hp, Tryz.ntmps118]
    refine (cau_nil _).mono ?_
    rintro e w' ⟨rfl, rfl⟩
    simp [bodyPostS, results, Tryz.results118]
set_option maxRecDepth 100000 in
theorem idc25_idl {p : Nat} {x : Value} {w : World} (hp : w.cell? ⟨p, 0, none⟩ = some x) :
    CallsD Tryz.prog 118 #[xp p] .returning w fun e u' w' => e = .returned (.tuple #[]) ∧ u' = .returning ∧ w' = w.drew := by
  refine callsD_of_wpS Tryz.func118 rfl fun c₀ cs hu => ?_
  refine wpS_three mix25 rfl (by kernel_rfl) (by kernel_rfl) (by kernel_rfl) (by kernel_rfl) ?_ ?_
  all_goals
    simp [wpOpsS, go_sem, recoverD, hu, hp, Tryz.ntmps118]
    refine (cau_idle _ _).mono ?_
    rintro e w' ⟨rfl, rfl⟩
    cases c₀
    simp_all [bodyPostS, results, Tryz.results118]
set_option maxRecDepth 100000 in
theorem enc25_cat {S : ByteArray} {b k : Nat} {bad : Bool} {p : Nat} {w : World} (hp : w.cell? ⟨p, 0, none⟩ = some (xp b)) (h : w.heap[b]? = some (scO S k bad)) (older : List PanicEntry) :
    CallsD Tryz.prog 75 #[xp p] (.panicking (sgP :: older)) w fun e u' w' => e = .returned (.tuple #[]) ∧ u' = .panicking ({ v := sgV, recovered := true } :: older) ∧ w' = (w.setCell ⟨b, 2, none⟩ (.bool true)).drew := by
  refine callsD_of_wpS Tryz.func75 rfl fun c₀ cs hu => ?_
  refine wpS_three mix25 rfl (by kernel_rfl) (by kernel_rfl) (by kernel_rfl) (by kernel_rfl) ?_ ?_
  all_goals
    simp [wpOpsS, go_sem, recoverD, hu, hp, Tryz.ntmps75]
    refine (cau_some (w := w.drew) h).mono ?_
    rintro e w' ⟨rfl, rfl⟩
    simp [bodyPostS, results, Tryz.results75] <;> rfl
set_option maxRecDepth 100000 in
theorem enc25_cnil {p : Nat} {w : World} (hp : w.cell? ⟨p, 0, none⟩ = some (.pointer none)) (older : List PanicEntry) :
    CallsD Tryz.prog 75 #[xp p] (.panicking (sgP :: older)) w fun e u' w' => e = .returned (.tuple #[]) ∧ u' = .panicking ({ v := sgV, recovered := true } :: older) ∧ w' = (w).drew := by
  refine callsD_of_wpS Tryz.func75 rfl fun c₀ cs hu => ?_
  refine wpS_three mix25 rfl (by kernel_rfl) (by kernel_rfl) (by kernel_rfl) (by kernel_rfl) ?_ ?_
  all_goals
    simp [wpOpsS, go_sem, recoverD, hu, hp, Tryz.ntmps75]
    refine (cau_nil _).mono ?_
    rintro e w' ⟨rfl, rfl⟩
    simp [bodyPostS, results, Tryz.results75]
set_option maxRecDepth 100000 in
theorem enc25_idl {p : Nat} {x : Value} {w : World} (hp : w.cell? ⟨p, 0, none⟩ = some x) :
    CallsD Tryz.prog 75 #[xp p] .returning w fun e u' w' => e = .returned (.tuple #[]) ∧ u' = .returning ∧ w' = w.drew := by
  refine callsD_of_wpS Tryz.func75 rfl fun c₀ cs hu => ?_
  refine wpS_three mix25 rfl (by kernel_rfl) (by kernel_rfl) (by kernel_rfl) (by kernel_rfl) ?_ ?_
  all_goals
    simp [wpOpsS, go_sem, recoverD, hu, hp, Tryz.ntmps75]
    refine (cau_idle _ _).mono ?_
    rintro e w' ⟨rfl, rfl⟩
    cases c₀
    simp_all [bodyPostS, results, Tryz.results75]
set_option maxRecDepth 100000 in
theorem ofc25_cat {S : ByteArray} {b k : Nat} {bad : Bool} {p : Nat} {w : World} (hp : w.cell? ⟨p, 0, none⟩ = some (xp b)) (h : w.heap[b]? = some (scO S k bad)) (older : List PanicEntry) :
    CallsD Tryz.prog 50 #[xp p] (.panicking (sgP :: older)) w fun e u' w' => e = .returned (.tuple #[]) ∧ u' = .panicking ({ v := sgV, recovered := true } :: older) ∧ w' = (w.setCell ⟨b, 2, none⟩ (.bool true)).drew := by
  refine callsD_of_wpS Tryz.func50 rfl fun c₀ cs hu => ?_
  refine wpS_three mix25 rfl (by kernel_rfl) (by kernel_rfl) (by kernel_rfl) (by kernel_rfl) ?_ ?_
  all_goals
    simp [wpOpsS, go_sem, recoverD, hu, hp, Tryz.ntmps50]
    refine (cau_some (w := w.drew) h).mono ?_
    rintro e w' ⟨rfl, rfl⟩
    simp [bodyPostS, results, Tryz.results50] <;> rfl
set_option maxRecDepth 100000 in
theorem ofc25_cnil {p : Nat} {w : World} (hp : w.cell? ⟨p, 0, none⟩ = some (.pointer none)) (older : List PanicEntry) :
    CallsD Tryz.prog 50 #[xp p] (.panicking (sgP :: older)) w fun e u' w' => e = .returned (.tuple #[]) ∧ u' = .panicking ({ v := sgV, recovered := true } :: older) ∧ w' = (w).drew := by
  refine callsD_of_wpS Tryz.func50 rfl fun c₀ cs hu => ?_
  refine wpS_three mix25 rfl (by kernel_rfl) (by kernel_rfl) (by kernel_rfl) (by kernel_rfl) ?_ ?_
  all_goals
    simp [wpOpsS, go_sem, recoverD, hu, hp, Tryz.ntmps50]
    refine (cau_nil _).mono ?_
    rintro e w' ⟨rfl, rfl⟩
    simp [bodyPostS, results, Tryz.results50]
set_option maxRecDepth 100000 in
theorem ofc25_idl {p : Nat} {x : Value} {w : World} (hp : w.cell? ⟨p, 0, none⟩ = some x) :
    CallsD Tryz.prog 50 #[xp p] .returning w fun e u' w' => e = .returned (.tuple #[]) ∧ u' = .returning ∧ w' = w.drew := by
  refine callsD_of_wpS Tryz.func50 rfl fun c₀ cs hu => ?_
  refine wpS_three mix25 rfl (by kernel_rfl) (by kernel_rfl) (by kernel_rfl) (by kernel_rfl) ?_ ?_
  all_goals
    simp [wpOpsS, go_sem, recoverD, hu, hp, Tryz.ntmps50]
    refine (cau_idle _ _).mono ?_
    rintro e w' ⟨rfl, rfl⟩
    cases c₀
    simp_all [bodyPostS, results, Tryz.results50]
set_option maxRecDepth 100000 in
theorem woc25_cat {S : ByteArray} {b k : Nat} {bad : Bool} {v0 : Value} {p q : Nat} {w : World} (hp : w.cell? ⟨p, 0, none⟩ = some (xp b)) (h : w.heap[b]? = some (scO S k bad)) (hq : w.cell? ⟨q, 0, none⟩ = some v0) (hz : w.frozen? ⟨q, 0, none⟩ = false) (hqb : q ≠ b) (older : List PanicEntry) :
    CallsD Tryz.prog 67 #[xp p, xp q] (.panicking (sgP :: older)) w fun e u' w' => e = .returned (.tuple #[]) ∧ u' = .panicking ({ v := sgV, recovered := true } :: older) ∧ w' = ((w.setCell ⟨b, 2, none⟩ (.bool true)).setCell ⟨q, 0, none⟩ (.int .i64 (-1))).drew := by
  have C1 : (w.setCell ⟨b, 2, none⟩ (.bool true)).cell? ⟨q, 0, none⟩ = some v0 := (Bt.set b w 2 _).cell hqb hq
  refine callsD_of_wpS Tryz.func67 rfl fun c₀ cs hu => ?_
  apply wpS_seq
  refine wpS_three mix25 rfl (by kernel_rfl) (by kernel_rfl) (by kernel_rfl) (by kernel_rfl) ?_ ?_
  all_goals
    simp [wpOpsS, go_sem, recoverD, hu, hp, Tryz.ntmps67, Exit.thenS]
    refine (cau_some (w := w.drew) h).mono ?_
    rintro e w' ⟨rfl, rfl⟩
    refine wpS_cond (t := true) (by simp [Act.eval, Array.replicate]) ?_
    simp only [if_true]
    apply wpS_region
    simp [wpOpsS, go_sem, C1, hz, bodyPostS, results, Tryz.results67] <;> rfl
set_option maxRecDepth 100000 in
theorem woc25_cnil {v0 : Value} {p q : Nat} {w : World} (hp : w.cell? ⟨p, 0, none⟩ = some (.pointer none)) (hq : w.cell? ⟨q, 0, none⟩ = some v0) (hz : w.frozen? ⟨q, 0, none⟩ = false) (older : List PanicEntry) :
    CallsD Tryz.prog 67 #[xp p, xp q] (.panicking (sgP :: older)) w fun e u' w' => e = .returned (.tuple #[]) ∧ u' = .panicking ({ v := sgV, recovered := true } :: older) ∧ w' = ((w).setCell ⟨q, 0, none⟩ (.int .i64 (-1))).drew := by
  refine callsD_of_wpS Tryz.func67 rfl fun c₀ cs hu => ?_
  apply wpS_seq
  refine wpS_three mix25 rfl (by kernel_rfl) (by kernel_rfl) (by kernel_rfl) (by kernel_rfl) ?_ ?_
  all_goals
    simp [wpOpsS, go_sem, recoverD, hu, hp, Tryz.ntmps67, Exit.thenS]
    refine (cau_nil _).mono ?_
    rintro e w' ⟨rfl, rfl⟩
    refine wpS_cond (t := true) (by simp [Act.eval, Array.replicate]) ?_
    simp only [if_true]
    apply wpS_region
    simp [wpOpsS, go_sem, hq, hz, bodyPostS, results, Tryz.results67]
set_option maxRecDepth 100000 in
theorem woc25_idl {p q : Nat} {x : Value} {w : World} (hp : w.cell? ⟨p, 0, none⟩ = some x) :
    CallsD Tryz.prog 67 #[xp p, xp q] .returning w fun e u' w' => e = .returned (.tuple #[]) ∧ u' = .returning ∧ w' = w.drew := by
  refine callsD_of_wpS Tryz.func67 rfl fun c₀ cs hu => ?_
  apply wpS_seq
  refine wpS_three mix25 rfl (by kernel_rfl) (by kernel_rfl) (by kernel_rfl) (by kernel_rfl) ?_ ?_
  all_goals
    simp [wpOpsS, go_sem, recoverD, hu, hp, Tryz.ntmps67, Exit.thenS]
    refine (cau_idle _ _).mono ?_
    rintro e w' ⟨rfl, rfl⟩
    refine wpS_cond (t := false) (by simp [Act.eval, Array.replicate]) ?_
    simp only [Bool.false_eq_true, if_false]
    refine wpS_of_wp (wp_skip ?_)
    cases c₀
    simp_all [bodyPostS, results, Tryz.results67]
set_option maxRecDepth 100000 in
theorem erc25_cat {S : ByteArray} {b k : Nat} {bad : Bool} {v0 : Value} {p q : Nat} {w : World} (hp : w.cell? ⟨p, 0, none⟩ = some (xp b)) (h : w.heap[b]? = some (scO S k bad)) (hq : w.cell? ⟨q, 0, none⟩ = some v0) (hz : w.frozen? ⟨q, 0, none⟩ = false) (hqb : q ≠ b) (older : List PanicEntry) :
    CallsD Tryz.prog 47 #[xp p, xp q] (.panicking (sgP :: older)) w fun e u' w' => e = .returned (.tuple #[]) ∧ u' = .panicking ({ v := sgV, recovered := true } :: older) ∧ w' = ((w.setCell ⟨b, 2, none⟩ (.bool true)).setCell ⟨q, 0, none⟩ (.int .i64 6)).drew := by
  have C1 : (w.setCell ⟨b, 2, none⟩ (.bool true)).cell? ⟨q, 0, none⟩ = some v0 := (Bt.set b w 2 _).cell hqb hq
  refine callsD_of_wpS Tryz.func47 rfl fun c₀ cs hu => ?_
  apply wpS_seq
  refine wpS_three mix25 rfl (by kernel_rfl) (by kernel_rfl) (by kernel_rfl) (by kernel_rfl) ?_ ?_
  all_goals
    simp [wpOpsS, go_sem, recoverD, hu, hp, Tryz.ntmps47, Exit.thenS]
    refine (cau_some (w := w.drew) h).mono ?_
    rintro e w' ⟨rfl, rfl⟩
    refine wpS_cond (t := true) (by simp [Act.eval, Array.replicate]) ?_
    simp only [if_true]
    apply wpS_region
    simp [wpOpsS, go_sem, C1, hz, bodyPostS, results, Tryz.results47] <;> rfl
set_option maxRecDepth 100000 in
theorem erc25_cnil {v0 : Value} {p q : Nat} {w : World} (hp : w.cell? ⟨p, 0, none⟩ = some (.pointer none)) (hq : w.cell? ⟨q, 0, none⟩ = some v0) (hz : w.frozen? ⟨q, 0, none⟩ = false) (older : List PanicEntry) :
    CallsD Tryz.prog 47 #[xp p, xp q] (.panicking (sgP :: older)) w fun e u' w' => e = .returned (.tuple #[]) ∧ u' = .panicking ({ v := sgV, recovered := true } :: older) ∧ w' = ((w).setCell ⟨q, 0, none⟩ (.int .i64 6)).drew := by
  refine callsD_of_wpS Tryz.func47 rfl fun c₀ cs hu => ?_
  apply wpS_seq
  refine wpS_three mix25 rfl (by kernel_rfl) (by kernel_rfl) (by kernel_rfl) (by kernel_rfl) ?_ ?_
  all_goals
    simp [wpOpsS, go_sem, recoverD, hu, hp, Tryz.ntmps47, Exit.thenS]
    refine (cau_nil _).mono ?_
    rintro e w' ⟨rfl, rfl⟩
    refine wpS_cond (t := true) (by simp [Act.eval, Array.replicate]) ?_
    simp only [if_true]
    apply wpS_region
    simp [wpOpsS, go_sem, hq, hz, bodyPostS, results, Tryz.results47]
set_option maxRecDepth 100000 in
theorem erc25_idl {p q : Nat} {x : Value} {w : World} (hp : w.cell? ⟨p, 0, none⟩ = some x) :
    CallsD Tryz.prog 47 #[xp p, xp q] .returning w fun e u' w' => e = .returned (.tuple #[]) ∧ u' = .returning ∧ w' = w.drew := by
  refine callsD_of_wpS Tryz.func47 rfl fun c₀ cs hu => ?_
  apply wpS_seq
  refine wpS_three mix25 rfl (by kernel_rfl) (by kernel_rfl) (by kernel_rfl) (by kernel_rfl) ?_ ?_
  all_goals
    simp [wpOpsS, go_sem, recoverD, hu, hp, Tryz.ntmps47, Exit.thenS]
    refine (cau_idle _ _).mono ?_
    rintro e w' ⟨rfl, rfl⟩
    refine wpS_cond (t := false) (by simp [Act.eval, Array.replicate]) ?_
    simp only [Bool.false_eq_true, if_false]
    refine wpS_of_wp (wp_skip ?_)
    cases c₀
    simp_all [bodyPostS, results, Tryz.results47]
end Go.Proofs.YtkhicgafhbecfaaGreatDoor

namespace Go.Proofs.YtkhicgafhbecfaaGreatDoor
open Go.RowKit

abbrev big : Nat := 4611686018427387904
theorem sc_next {w : World} {b k : Nat} {S : ByteArray} {bad : Bool} (h : w.heap[b]? = some (scO S k bad)) : (w.setCell ⟨b, 1, none⟩ (.int .i64 ((k : Int) + 1))).heap[b]? = some (scO S (k + 1) bad) := sc_at h (k + 1)
theorem nx_lt {S : ByteArray} {k : Nat} (h : k < S.size) : nxB S k = bt S k := if_pos h
theorem nx_ge {S : ByteArray} {k : Nat} (h : ¬ k < S.size) : nxB S k = 0 := if_neg h
theorem abt_yes {S : ByteArray} {b k : Nat} {w : World} (h : w.heap[b]? = some (scO S k false)) (hk : k < S.size) (hs : S.size < big) {f l : Int} (h1 : f ≤ bt S k) (h2 : bt S k ≤ l) :
    Calls Tryz.prog 86 #[xp b, .int .u8 f, .int .u8 l] w fun e w' => e = .returned (.bool true) ∧ w'.heap[b]? = some (scO S (k + 1) false) ∧ Bt b w w' := by
  have hn := nxt_any h (by omega)
  rw [nx_lt hk] at hn
  generalize bt S k = x at *
  have d1 : decide (x < f) = false := dfalse (by omega)
  have d2 : decide (l < x) = false := dfalse (by omega)
  have d3 : ¬ x < f := by omega
  have d4 : ¬ l < x := by omega
  have kb : (k : Int) + 1 ≤ 9223372036854775807 := by have : k < 4611686018427387904 := Nat.lt_trans hk hs; omega
  clear h1 h2 hk hs
  go_enter Tryz.func86, Tryz.ntmps86
  go_wp2_with fail
  refine hn.mono ?_
  rintro e w1 ⟨rfl, m, rfl⟩
  have hr := row_dn h m
  have hb := Bt.dn b w m
  clear hn
  generalize w.drewN m = u at *
  obtain ⟨c0, c1, c2, f0, f1, f2, hl⟩ := sc_facts hr
  go_wp2_with fail
  go_ret
  exact ⟨rfl, sc_next hr, hb.trans (Bt.set b u 1 _)⟩
theorem abt_no {S : ByteArray} {b k : Nat} {w : World} (h : w.heap[b]? = some (scO S k false)) (hk : k ≤ S.size) {f l : Int} (hn : nxB S k < f ∨ l < nxB S k) :
    Calls Tryz.prog 86 #[xp b, .int .u8 f, .int .u8 l] w fun e w' => e = .returned (.bool false) ∧ w'.heap[b]? = some (scO S k false) ∧ Bt b w w' := by
  have hq := nxt_any h hk
  generalize nxB S k = x at *
  by_cases g : x < f
  · have d1 : decide (x < f) = true := dtrue g
    clear hn
    go_enter Tryz.func86, Tryz.ntmps86
    go_wp2_with fail
    refine hq.mono ?_
    rintro e w1 ⟨rfl, m, rfl⟩
    go_wp2_with fail
    go_ret
    exact ⟨rfl, row_dn h m, Bt.dn b w m⟩
  · have d1 : decide (x < f) = false := dfalse g
    have g2 : l < x := by omega
    have d2 : decide (l < x) = true := dtrue g2
    clear hn
    go_enter Tryz.func86, Tryz.ntmps86
    go_wp2_with fail
    refine hq.mono ?_
    rintro e w1 ⟨rfl, m, rfl⟩
    go_wp2_with fail
    go_ret
    exact ⟨rfl, row_dn h m, Bt.dn b w m⟩
theorem cell_new (w : World) (o : Array Value) (t : TypeId) (v : Value) (h : o[0]? = some v) : (w.alloc (.cells o t)).cell? ⟨w.heap.size, 0, none⟩ = some v := by
  rw [cell_of_row _ _ 0 _ _ _ (heap_alloc_new w _)]; exact h
theorem off_any {S : ByteArray} {b k : Nat} {bad : Bool} {w : World} (h : w.heap[b]? = some (scO S k bad)) :
    Calls Tryz.prog 22 #[xp b] w fun e w' => e = .returned (.int .i64 k) ∧ Below w.heap.size w w' := by
  have hmf : ∀ (fn : Fn) (first cap : Array Value) (w : World), (Instr.makeFunc fn first cap).run Tryz.prog w = .ok (.func fn first cap) w := fun _ _ _ _ => rfl
  obtain ⟨c0, c1, c2, f0, f1, f2, hl⟩ := sc_facts h
  go_enter_defers Tryz.func22, Tryz.ntmps22
  go_wp2_with fail
  refine (mex_ok b _).mono ?_
  rintro e w1 ⟨rfl, rfl⟩
  go_wp2_with fail
  refine leaves_cons (f := 50) (args := #[xp w.heap.size]) (by simp) (by simp [go_sem]) ?_
  refine (ofc25_idl (x := xp b) (cell_new w _ _ _ rfl)).mono ?_
  rintro e u' w'' ⟨rfl, rfl, rfl⟩
  exact ⟨_, results_tmp rfl _ _ _, rfl, ((Below.refl _ _).alloc (Nat.le_refl _) _).drew⟩
theorem off_nil (w : World) :
    Calls Tryz.prog 22 #[.pointer none] w fun e w' => e = .returned (.int .i64 0) ∧ Below w.heap.size w w' := by
  have hmf : ∀ (fn : Fn) (first cap : Array Value) (w : World), (Instr.makeFunc fn first cap).run Tryz.prog w = .ok (.func fn first cap) w := fun _ _ _ _ => rfl
  go_enter_defers Tryz.func22, Tryz.ntmps22
  go_wp2_with fail
  refine (mex_nil _).mono ?_
  rintro e w1 ⟨rfl, rfl⟩
  refine leaves_cons (f := 50) (args := #[xp w.heap.size]) (by simp) (by simp [go_sem]) ?_
  refine (ofc25_cnil (cell_new w _ _ _ rfl) []).mono ?_
  rintro e u' w'' ⟨rfl, rfl, rfl⟩
  exact ⟨_, results_tmp rfl _ _ _, rfl, ((Below.refl _ _).alloc (Nat.le_refl _) _).drew⟩
end Go.Proofs.YtkhicgafhbecfaaGreatDoor

namespace Go.Proofs.YtkhicgafhbecfaaGreatDoor
open Go.RowKit

theorem Bt.drew {b : Nat} {w w' : World} (h : Bt b w w') : Bt b w w'.drew := ⟨h.os, h.tape, h.output, h.size, h.block⟩
/-- A scanner that has failed is as it was when it fails once more. -/
theorem same_bad {w : World} {b k B : Nat} {S : ByteArray} (h : w.heap[b]? = some (scO S k true)) : Below B w (w.setCell ⟨b, 2, none⟩ (.bool true)) := by
  refine ⟨rfl, rfl, rfl, by simp, fun j _ => ?_⟩
  by_cases e : j = b
  · rw [e, sc_bad h, h]
  · exact Below.heap_setCell _ _ _ _ e
theorem two_new (w : World) (x y : Array Value) (t1 t2 : TypeId) (v : Value) (h : y[0]? = some v) : ((w.alloc (.cells x t1)).alloc (.cells y t2)).cell? ⟨w.heap.size + 1, 0, none⟩ = some v ∧ ((w.alloc (.cells x t1)).alloc (.cells y t2)).frozen? ⟨w.heap.size + 1, 0, none⟩ = false := by
  have hr := heap_alloc_new (w.alloc (.cells x t1)) (.cells y t2)
  rw [show (w.alloc (.cells x t1)).heap.size = w.heap.size + 1 from by simp] at hr
  exact ⟨by rw [cell_of_row _ _ 0 _ _ _ hr]; exact h, frozen_of_row _ _ 0 _ _ hr⟩
theorem one_new (w : World) (x : Array Value) (o : Obj) (t1 : TypeId) (v : Value) (h : x[0]? = some v) : ((w.alloc (.cells x t1)).alloc o).cell? ⟨w.heap.size, 0, none⟩ = some v := by
  have := cell_new w x t1 v h
  exact (((Below.refl (w.alloc (.cells x t1)).heap.size _).alloc (Nat.le_refl _) o).cell (p := ⟨w.heap.size, 0, none⟩) (by simp)).trans this
theorem al2 (w : World) (o o' : Obj) : Below w.heap.size w ((w.alloc o).alloc o') := ((Below.refl _ _).alloc (Nat.le_refl _) o).alloc (by simp) o'
theorem err_ok {S : ByteArray} {b k : Nat} {w : World} (h : w.heap[b]? = some (scO S k false)) :
    Calls Tryz.prog 21 #[xp b] w fun e w' => e = .returned (.int .i64 0) ∧ Below w.heap.size w w' := by
  have hmf : ∀ (fn : Fn) (first cap : Array Value) (w : World), (Instr.makeFunc fn first cap).run Tryz.prog w = .ok (.func fn first cap) w := fun _ _ _ _ => rfl
  go_enter_defers Tryz.func21, Tryz.ntmps21
  go_wp2_with fail
  refine (mbg_ok (row_kept h (al2 w _ _))).mono ?_
  rintro e w1 ⟨rfl, rfl⟩
  go_wp2_with fail
  refine leaves_cons (f := 47) (args := #[xp w.heap.size, xp (w.heap.size + 1)]) (by simp) (by simp [go_sem]) ?_
  refine (erc25_idl (x := xp b) (by rw [← one_new w #[xp b] (.cells #[.int .i64 0] 26) 44 (xp b) rfl])).mono ?_
  rintro e u' w'' ⟨rfl, rfl, rfl⟩
  simp [Leaves, settle, results, Tryz.results21, go_sem]
  exact (((Below.refl _ _).alloc (Nat.le_refl _) _).alloc (by simp) _).drew
theorem err_bad {S : ByteArray} {b k : Nat} {w : World} (h : w.heap[b]? = some (scO S k true)) :
    Calls Tryz.prog 21 #[xp b] w fun e w' => e = .returned (.int .i64 6) ∧ Below w.heap.size w w' := by
  have hmf : ∀ (fn : Fn) (first cap : Array Value) (w : World), (Instr.makeFunc fn first cap).run Tryz.prog w = .ok (.func fn first cap) w := fun _ _ _ _ => rfl
  have hl := row_lt h
  go_enter_defers Tryz.func21, Tryz.ntmps21
  go_wp2_with fail
  have hr := row_kept h (al2 w (.cells #[xp b] 44) (.cells #[.int .i64 0] 26))
  refine (mbg_bad hr).mono ?_
  rintro e w1 ⟨rfl, rfl⟩
  refine leaves_cons (f := 47) (args := #[xp w.heap.size, xp (w.heap.size + 1)]) (by simp) (by simp [go_sem]) ?_
  have hq := two_new w #[xp b] #[.int .i64 0] 44 26 (.int .i64 0) rfl
  refine (erc25_cat (one_new w _ _ _ _ rfl) hr hq.1 hq.2 (by omega) []).mono ?_
  rintro e u' w'' ⟨rfl, rfl, rfl⟩
  have B1 := ((al2 w (.cells #[xp b] 44) (.cells #[.int .i64 0] 26)).trans (same_bad hr)).setCell (p := ⟨w.heap.size + 1, 0, none⟩) (by simp) (.int .i64 6)
  have C1 : (((w.alloc (.cells #[xp b] 44)).alloc (.cells #[.int .i64 0] 26)).setCell ⟨b, 2, none⟩ (.bool true)).heap[w.heap.size + 1]? = some (.cells #[.int .i64 0] 26) := by
    rw [Below.heap_setCell _ _ _ _ (by show w.heap.size + 1 ≠ b; omega)]
    exact row_new1 w _ _
  have C2 := heap_setCell_same _ _ 0 _ _ (.int .i64 6) C1
  have C3 : ((((w.alloc (.cells #[xp b] 44)).alloc (.cells #[.int .i64 0] 26)).setCell ⟨b, 2, none⟩ (.bool true)).setCell ⟨w.heap.size + 1, 0, none⟩ (.int .i64 6)).cell? ⟨w.heap.size + 1, 0, none⟩ = some (.int .i64 6) := by
    rw [cell_of_row _ _ 0 _ _ _ C2]; rfl
  generalize ((((w.alloc (.cells #[xp b] 44)).alloc (.cells #[.int .i64 0] 26)).setCell ⟨b, 2, none⟩ (.bool true)).setCell ⟨w.heap.size + 1, 0, none⟩ (.int .i64 6)) = u at *
  simp [Leaves, settle, results, Tryz.results21, go_sem, C3]
  exact B1.drew
theorem err_nil (w : World) :
    Calls Tryz.prog 21 #[.pointer none] w fun e w' => e = .returned (.int .i64 6) ∧ Below w.heap.size w w' := by
  have hmf : ∀ (fn : Fn) (first cap : Array Value) (w : World), (Instr.makeFunc fn first cap).run Tryz.prog w = .ok (.func fn first cap) w := fun _ _ _ _ => rfl
  go_enter_defers Tryz.func21, Tryz.ntmps21
  go_wp2_with fail
  refine (mbg_nil _).mono ?_
  rintro e w1 ⟨rfl, rfl⟩
  refine leaves_cons (f := 47) (args := #[xp w.heap.size, xp (w.heap.size + 1)]) (by simp) (by simp [go_sem]) ?_
  have hq := two_new w #[.pointer none] #[.int .i64 0] 44 26 (.int .i64 0) rfl
  refine (erc25_cnil (one_new w _ _ _ _ rfl) hq.1 hq.2 []).mono ?_
  rintro e u' w'' ⟨rfl, rfl, rfl⟩
  have B1 := (al2 w (.cells #[.pointer none] 44) (.cells #[.int .i64 0] 26)).setCell (p := ⟨w.heap.size + 1, 0, none⟩) (by simp) (.int .i64 6)
  have C2 := heap_setCell_same _ _ 0 _ _ (.int .i64 6) (row_new1 w (.cells #[.pointer none] 44) (.cells #[.int .i64 0] 26))
  have C3 : (((w.alloc (.cells #[.pointer none] 44)).alloc (.cells #[.int .i64 0] 26)).setCell ⟨w.heap.size + 1, 0, none⟩ (.int .i64 6)).cell? ⟨w.heap.size + 1, 0, none⟩ = some (.int .i64 6) := by
    rw [cell_of_row _ _ 0 _ _ _ C2]; rfl
  generalize (((w.alloc (.cells #[.pointer none] 44)).alloc (.cells #[.int .i64 0] 26)).setCell ⟨w.heap.size + 1, 0, none⟩ (.int .i64 6)) = u at *
  simp [Leaves, settle, results, Tryz.results21, go_sem, C3]
  exact B1.drew
abbrev bx1 (b : Nat) : Obj := .cells #[xp b] 44
theorem al1 (w : World) (o : Obj) : Below w.heap.size w (w.alloc o) := (Below.refl _ _).alloc (Nat.le_refl _) o
theorem end_ok {S : ByteArray} {b k : Nat} {w : World} (h : w.heap[b]? = some (scO S k false)) (hk : S.size ≤ k) :
    Calls Tryz.prog 46 #[xp b] w fun e w' => e = .returned (.tuple #[]) ∧ Below w.heap.size w w' := by
  have hmf : ∀ (fn : Fn) (first cap : Array Value) (w : World), (Instr.makeFunc fn first cap).run Tryz.prog w = .ok (.func fn first cap) w := fun _ _ _ _ => rfl
  have d1 : decide ((k : Int) < (S.size : Int)) = false := dfalse (by omega)
  have d2 : decide (k < S.size) = false := dfalse (by omega)
  have d3 : ¬ k < S.size := by omega
  clear hk
  go_enter_defers Tryz.func46, Tryz.ntmps46
  go_wp2_with fail
  have hr := row_kept h (al1 w (bx1 b))
  refine (mbg_ok hr).mono ?_
  rintro e w1 ⟨rfl, rfl⟩
  have hb := al1 w (bx1 b)
  have hp := cell_new w #[xp b] 44 _ rfl
  generalize w.alloc (bx1 b) = u at *
  obtain ⟨c0, c1, c2, f0, f1, f2, hl⟩ := sc_facts hr
  go_wp2_with fail
  go_quiet (fail)
  go_wp2_with fail
  refine leaves_cons (f := 75) (args := #[xp w.heap.size]) (by simp) (by simp [go_sem]) ?_
  refine (enc25_idl (x := xp b) (w := World.drewN u _) hp).mono ?_
  rintro e u' w'' ⟨rfl, rfl, rfl⟩
  exact ⟨_, results_none rfl _ _ _, rfl, (below_dn hb _).drew⟩
theorem end_no {S : ByteArray} {b k : Nat} {w : World} (h : w.heap[b]? = some (scO S k false)) (hk : k < S.size) :
    Calls Tryz.prog 46 #[xp b] w fun e w' => e = .returned (.tuple #[]) ∧ w'.heap[b]? = some (scO S k true) ∧ Bt b w w' := by
  have hmf : ∀ (fn : Fn) (first cap : Array Value) (w : World), (Instr.makeFunc fn first cap).run Tryz.prog w = .ok (.func fn first cap) w := fun _ _ _ _ => rfl
  have d1 : decide ((k : Int) < (S.size : Int)) = true := dtrue (by omega)
  have d2 : decide (k < S.size) = true := dtrue (by omega)
  have d3 := hk
  clear hk
  go_enter_defers Tryz.func46, Tryz.ntmps46
  go_wp2_with fail
  have hr := row_kept h (al1 w (bx1 b))
  refine (mbg_ok hr).mono ?_
  rintro e w1 ⟨rfl, rfl⟩
  have hb := Bt.al b w (bx1 b)
  have hp := cell_new w #[xp b] 44 _ rfl
  generalize w.alloc (bx1 b) = u at *
  obtain ⟨c0, c1, c2, f0, f1, f2, hl⟩ := sc_facts hr
  go_wp2_with fail
  go_quiet (fail)
  go_wp2_with fail
  refine leaves_cons (f := 75) (args := #[xp w.heap.size]) (by simp) (by simp [go_sem]) ?_
  refine (enc25_cat (b := b) (w := World.drewN u _) hp hr []).mono ?_
  rintro e u' w'' ⟨rfl, rfl, rfl⟩
  exact ⟨_, results_none rfl _ _ _, rfl, sc_bad (w := World.drewN u _) hr, hb.trans ((Bt.dn b u _).trans (Bt.set b _ 2 _).drew)⟩
theorem end_bad {S : ByteArray} {b k : Nat} {w : World} (h : w.heap[b]? = some (scO S k true)) :
    Calls Tryz.prog 46 #[xp b] w fun e w' => e = .returned (.tuple #[]) ∧ Below w.heap.size w w' := by
  have hmf : ∀ (fn : Fn) (first cap : Array Value) (w : World), (Instr.makeFunc fn first cap).run Tryz.prog w = .ok (.func fn first cap) w := fun _ _ _ _ => rfl
  go_enter_defers Tryz.func46, Tryz.ntmps46
  go_wp2_with fail
  have hr := row_kept h (al1 w (bx1 b))
  refine (mbg_bad hr).mono ?_
  rintro e w1 ⟨rfl, rfl⟩
  refine leaves_cons (f := 75) (args := #[xp w.heap.size]) (by simp) (by simp [go_sem]) ?_
  refine (enc25_cat (cell_new w _ _ _ rfl) hr []).mono ?_
  rintro e u' w'' ⟨rfl, rfl, rfl⟩
  exact ⟨_, results_none rfl _ _ _, rfl, ((al1 w (bx1 b)).trans (same_bad hr)).drew⟩
end Go.Proofs.YtkhicgafhbecfaaGreatDoor
