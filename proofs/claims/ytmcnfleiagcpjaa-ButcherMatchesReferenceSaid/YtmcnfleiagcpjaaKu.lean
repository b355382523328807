/- What earlier stages proved: Ua Ud Ue Uz. -/
import Derived.Test.YtmcnfleiagcpjaaKe
import Derived.Test.YtmcnfleiagcpjaaKp
import Derived.Test.YtmcnfleiagcpjaaKa
import Derived.Test.YtmcnfleiagcpjaaKc
import Derived.Test.YtmcnfleiagcpjaaKr
import Derived.Test.YtmcnfleiagcpjaaKs
namespace Go.Proofs.Ytmcnfleiagcpjaa

/-- The numbers of the method of Gauss. -/
def uM (c y : Int) : Int := if c = 1 then 15 else (15 - (13 + 8 * (y / 100)) / 25 + y / 100 - y / 100 / 4) % 30
def uN (c y : Int) : Int := if c = 1 then 6 else (4 + y / 100 - y / 100 / 4) % 7
def uD (c y : Int) : Int := (19 * (y % 19) + uM c y) % 30
def uE (c y : Int) : Int := (2 * (y % 4) + 4 * (y % 7) + 6 * uD c y + uN c y) % 7
def uX (c y : Int) : Int := if c = 1 then 0 else if uE c y = 6 then (if uD c y = 29 then 1 else if uD c y = 28 ∧ (11 * uM c y + 11) % 30 < 19 then 2 else 0) else 0
/-- How many days behind 21 March Easter is by the method. -/
def uO (c y : Int) : Int := if uX c y = 1 then 29 else if uX c y = 2 then 28 else uD c y + uE c y + 1
theorem uD_bd (c y : Int) : 0 ≤ uD c y ∧ uD c y ≤ 29 := by unfold uD; omega
theorem uE_bd (c y : Int) : 0 ≤ uE c y ∧ uE c y ≤ 6 := by unfold uE; omega
theorem uX_cases (c y : Int) : (uX c y = 1 ∧ ¬ c = 1 ∧ uE c y = 6 ∧ uD c y = 29) ∨ (uX c y = 2 ∧ ¬ c = 1 ∧ uE c y = 6 ∧ uD c y = 28 ∧ (11 * uM c y + 11) % 30 < 19) ∨ (uX c y = 0 ∧ (c = 1 ∨ ¬ uE c y = 6 ∨ (¬ uD c y = 29 ∧ ¬ (uD c y = 28 ∧ (11 * uM c y + 11) % 30 < 19)))) := by
  unfold uX
  by_cases h1 : c = 1
  · rw [if_pos h1]; exact Or.inr (Or.inr ⟨rfl, Or.inl h1⟩)
  · rw [if_neg h1]
    by_cases h6 : uE c y = 6
    · rw [if_pos h6]
      by_cases h29 : uD c y = 29
      · rw [if_pos h29]; exact Or.inl ⟨rfl, h1, h6, h29⟩
      · rw [if_neg h29]
        by_cases hv : uD c y = 28 ∧ (11 * uM c y + 11) % 30 < 19
        · rw [if_pos hv]; exact Or.inr (Or.inl ⟨rfl, h1, h6, hv⟩)
        · rw [if_neg hv]; exact Or.inr (Or.inr ⟨rfl, Or.inr (Or.inr ⟨h29, hv⟩)⟩)
    · rw [if_neg h6]; exact Or.inr (Or.inr ⟨rfl, Or.inr (Or.inl h6)⟩)
theorem jul_ep (y : Int) : ¬ uD 1 y = 29 ∧ (uD 1 y = 28 → ¬ 11 < gold y) := by
  unfold uD uM gold
  simp only [if_true]
  have : y % 19 < 19 := by omega
  have : 0 ≤ y % 19 := by omega
  generalize y % 19 = a at *
  omega
end Go.Proofs.Ytmcnfleiagcpjaa

namespace Go.Proofs.Ytmcnfleiagcpjaa
open Go.RowKit

theorem rmod_pos (a b : Int) (w : World) (ha : inR a = true) (hb : 0 < b) (hb2 : inR b = true) : Calls Try.prog 15 #[.int .i64 a, .int .i64 b] w fun e w' => e = .returned (.int .i64 (a % b)) ∧ w = w' := by
  have := rmod_any a b w ha hb2 (spl_pos a b hb)
  rwa [Int.fmod_eq_emod_of_nonneg _ (by omega)] at this
theorem rdiv_pos (a b : Int) (w : World) (ha : inR a = true) (hb : 0 < b) : Calls Try.prog 16 #[.int .i64 a, .int .i64 b] w fun e w' => e = .returned (.int .i64 (a / b)) ∧ w = w' := by
  have := rdiv_any a b w ha (spl_pos a b hb)
  rwa [Int.fdiv_eq_ediv_of_nonneg _ (by omega)] at this
section
variable (y : Int) (W : World)
end
section
variable (c y : Int) (W : World)
end
end Go.Proofs.Ytmcnfleiagcpjaa

namespace Go.Proofs.Ytmcnfleiagcpjaa
open Go.RowKit

/-- What was in memory is as it was. -/
structure Bst (W w : World) : Prop where
  b : Below W.heap.size W w
theorem Bst.start (W : World) : Bst W W := ⟨Below.refl _ _⟩
theorem Bst.on {W w w' : World} (h : Bst W w) (hb : Below w.heap.size w w') : Bst W w' := ⟨below_on h.b hb⟩
theorem Bst.al {W w : World} (h : Bst W w) (o : Obj) : Bst W (w.alloc o) := h.on ((Below.refl w.heap.size w).alloc (Nat.le_refl _) o)
/-- Two structs of five cells and one of three between them, in memory. -/
def Thr (W : World) (bS bD bT : Nat) (m n d f x y p q : Int) (u : World) : Prop := u.cell? ⟨bS, 0, none⟩ = some (.int .i64 m) ∧ u.cell? ⟨bS, 1, none⟩ = some (.int .i64 n) ∧ u.cell? ⟨bS, 2, none⟩ = some (.int .i64 d) ∧ u.cell? ⟨bS, 3, none⟩ = some (.int .i64 f) ∧ u.cell? ⟨bS, 4, none⟩ = some (.int .i64 x) ∧ u.cell? ⟨bD, 0, none⟩ = some (.int .i64 y) ∧ u.cell? ⟨bD, 1, none⟩ = some (.int .i64 p) ∧ u.cell? ⟨bD, 2, none⟩ = some (.int .i64 q) ∧ u.cell? ⟨bT, 0, none⟩ = some (.int .i64 m) ∧ u.cell? ⟨bT, 1, none⟩ = some (.int .i64 n) ∧ u.cell? ⟨bT, 2, none⟩ = some (.int .i64 d) ∧ u.cell? ⟨bT, 3, none⟩ = some (.int .i64 f) ∧ u.cell? ⟨bT, 4, none⟩ = some (.int .i64 x) ∧ Below W.heap.size W u
theorem Thr.on {W : World} {bS bD bT : Nat} {m n d f x y p q : Int} {u u' : World} (h : Thr W bS bD bT m n d f x y p q u) (hb : Below u.heap.size u u') : Thr W bS bD bT m n d f x y p q u' := by
  obtain ⟨a0, a1, a2, a3, a4, a5, a6, a7, a8, a9, a10, a11, a12, z⟩ := h
  exact ⟨cell_below a0 hb, cell_below a1 hb, cell_below a2 hb, cell_below a3 hb, cell_below a4 hb, cell_below a5 hb, cell_below a6 hb, cell_below a7 hb, cell_below a8 hb, cell_below a9 hb, cell_below a10 hb, cell_below a11 hb, cell_below a12 hb, below_on z hb⟩
theorem Thr.drew {W : World} {bS bD bT : Nat} {m n d f x y p q : Int} {u : World} (h : Thr W bS bD bT m n d f x y p q u) : Thr W bS bD bT m n d f x y p q u.drew := h.on (below_dn (Below.refl _ _) 1)
end Go.Proofs.Ytmcnfleiagcpjaa

namespace Go.Proofs.Ytmcnfleiagcpjaa

theorem u_week {c y : Int} (hc : c = 1 ∨ c = 2) : (uE c y + uD c y + marN c y) % 7 = 6 := by
  have hd : uE c y = (2 * (y % 4) + 4 * (y % 7) + 6 * uD c y + uN c y) % 7 := rfl
  rw [hd]
  generalize uD c y = d
  rcases hc with rfl | rfl
  · have hm : marN 1 y = -1 + (y - 1) * 365 + (y - 1) / 4 + 59 + l01 (jlp y) + 20 := by
      show jfst y + cum (jlp y) 3 + 21 - 1 = _
      unfold jfst cum; rw [if_neg (by omega)]; omega
    have hl : l01 (jlp y) = y / 4 - (y - 1) / 4 := by
      unfold jlp
      by_cases h : y % 4 = 0
      · rw [decide_eq_true h]; show 1 = _; omega
      · rw [decide_eq_false h]; show 0 = _; omega
    have hm2 : marN 1 y = y * 365 - 287 + y / 4 := by rw [hm, hl]; omega
    rw [hm2, show uN 1 y = 6 from rfl]
    clear hm hl hm2 hd
    omega
  · have hm : marN 2 y = 1 + (y - 1) * 365 + ((y - 1) / 4 - (y - 1) / 100 + (y - 1) / 400) + 59 + l01 (glp y) + 20 := by
      show gfst y + cum (glp y) 3 + 21 - 1 = _
      unfold gfst cum; rw [if_neg (by omega)]; omega
    have hs := gstep y
    unfold gfst at hs
    have e : (y + 1 - 1 : Int) = y := by omega
    rw [e] at hs
    have hl : l01 (glp y) = y / 4 - y / 100 + y / 400 - ((y - 1) / 4 - (y - 1) / 100 + (y - 1) / 400) := by omega
    have hn : uN 2 y = (4 + y / 100 - y / 100 / 4) % 7 := rfl
    have hq : y / 400 = y / 100 / 4 := by omega
    have hm2 : marN 2 y = y * 365 - 285 + y / 4 - y / 100 + y / 100 / 4 := by rw [hm, hl, hq]; omega
    rw [hm2, hn]
    clear hm hl hs hm2 hq hd hn e
    generalize y / 100 / 4 = q
    generalize y / 100 = k
    omega
theorem u_dist {c y : Int} (hc : c = 1 ∨ c = 2) : (uD c y + epF c y - 23) % 30 = 0 := by
  unfold uD epF
  rcases hc with rfl | rfl
  · unfold epJ uM gold; simp only [if_true]; omega
  · unfold epG uM gold solr lunr cent
    rw [if_neg (by omega), if_neg (by omega)]
    have hq : 3 * (y / 100 + 1) / 4 = y / 100 - y / 100 / 4 := by
      generalize y / 100 = k
      omega
    have hp : (8 * (y / 100 + 1) + 5) / 25 = (13 + 8 * (y / 100)) / 25 := by congr 1; omega
    rw [hq, hp]
    omega
/-- The condition of the second exception is that of the label's variant. -/
theorem u_two {c y : Int} (hd : uD c y = 28) : ((11 * uM c y + 11) % 30 < 19) ↔ 11 < gold y := by
  unfold uD at hd
  unfold gold
  generalize uM c y = m at *
  have : y % 19 < 19 := by omega
  have : 0 ≤ y % 19 := by omega
  generalize y % 19 = a at *
  have : (11 * m + 11) % 30 = (19 + a) % 30 := by
    obtain ⟨t, ht⟩ : ∃ t, m = 28 - 19 * a + 30 * t := ⟨(19 * a + m) / 30, by omega⟩
    omega
  omega
theorem u_ep {c y : Int} (hc : c = 1 ∨ c = 2) : epc c y = if uD c y ≤ 22 then 23 - uD c y else 53 - uD c y := by
  have h := u_dist (y := y) hc
  have hb := uD_bd c y
  have h2 := ep30_bd (epF c y)
  have h3 := ep30_mod (epF c y)
  show ep30 (epF c y) = _
  split <;> omega
/-- How far behind 21 March the full moon is, by D. -/
theorem u_off {c y : Int} (hc : c = 1 ∨ c = 2) : (off (lab c y) : Int) = if uD c y = 29 then 28 else if uD c y = 28 ∧ 11 < gold y then 27 else uD c y := by
  have he := u_ep (y := y) hc
  have hb := uD_bd c y
  have x : (off (lab c y) : Int) = offX (lab c y) := off_x (lab_bd c y).1 (lab_bd c y).2
  have hl : lab c y = lbl (epc c y) (gold y) := rfl
  rw [x, hl, he]
  generalize uD c y = d at *
  generalize gold y = g at *
  clear he x hl
  by_cases h22 : d ≤ 22
  · have e : lbl (23 - d) g = 23 - d := by unfold lbl; rw [if_neg (by omega)]
    rw [if_pos h22, e, if_neg (by omega), if_neg (by omega)]
    unfold offX; rw [if_pos (by omega)]; omega
  · rw [if_neg h22]
    by_cases h29 : d = 29
    · have e : lbl (53 - d) g = 24 := by unfold lbl; rw [if_neg (by omega)]; omega
      rw [e, if_pos h29]; rfl
    · rw [if_neg h29]
      by_cases hv : d = 28 ∧ 11 < g
      · have e : lbl (53 - d) g = 31 := by unfold lbl; rw [if_pos (by omega)]
        rw [e, if_pos hv]; rfl
      · have e : lbl (53 - d) g = 53 - d := by unfold lbl; rw [if_neg (by omega)]
        rw [e, if_neg hv]
        unfold offX; rw [if_neg (by omega), if_neg (by omega), if_pos (by omega)]; omega
/-- The method's Easter is that of the tables. -/
theorem u_easter {c y : Int} (hc : c = 1 ∨ c = 2) : uO c y = eaO c y := by
  have hw := u_week (y := y) hc
  have ho := u_off (y := y) hc
  have hb := uD_bd c y
  have hb2 := uE_bd c y
  have ht := u_two (c := c) (y := y)
  have hx := uX_cases c y
  have hj : c = 1 → ¬ uD c y = 29 ∧ (uD c y = 28 → ¬ 11 < gold y) := fun h => by subst h; exact jul_ep y
  unfold eaO uO
  generalize (off (lab c y) : Int) = o at *
  generalize uX c y = x at *
  generalize uD c y = d at *
  generalize uE c y = e at *
  generalize marN c y = n at *
  generalize gold y = g at *
  generalize (11 * uM c y + 11) % 30 = z at *
  have hd : (d = 29 ∧ o = 28) ∨ (d = 28 ∧ 11 < g ∧ o = 27) ∨ (¬ d = 29 ∧ ¬ (d = 28 ∧ 11 < g) ∧ o = d) := by
    split at ho
    · omega
    · split at ho <;> omega
  clear ho
  rcases hx with ⟨rfl, h1, h2, h3⟩ | ⟨rfl, h1, h2, h3, h4⟩ | ⟨rfl, h⟩
  · rw [if_pos rfl]; omega
  · rw [if_neg (by omega), if_pos rfl]
    have := (ht h3).1 h4
    omega
  · rw [if_neg (by omega), if_neg (by omega)]
    rcases hd with ⟨rfl, rfl⟩ | ⟨rfl, h5, rfl⟩ | ⟨h5, h6, rfl⟩
    · omega
    · have := (ht rfl).2 h5
      omega
    · omega
end Go.Proofs.Ytmcnfleiagcpjaa
