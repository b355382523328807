/- The method of Gauss, plain: its numbers, its exceptions, its Easter. No program in it. -/
import Derived.Test.YtoiiajmdfkgcbaaKe
import Derived.Test.YtoiiajmdfkgcbaaKp
namespace Go.Proofs.Ytoiiajmdfkgcbaa

/-- The numbers of the method of Gauss. -/
def uM (c y : Int) : Int := if c = 1 then 15 else (15 - (13 + 8 * (y / 100)) / 25 + y / 100 - y / 100 / 4) % 30
def uN (c y : Int) : Int := if c = 1 then 6 else (4 + y / 100 - y / 100 / 4) % 7
def uD (c y : Int) : Int := (19 * (y % 19) + uM c y) % 30
def uE (c y : Int) : Int := (2 * (y % 4) + 4 * (y % 7) + 6 * uD c y + uN c y) % 7
def uX (c y : Int) : Int := if c = 1 then 0 else if uE c y = 6 then (if uD c y = 29 then 1 else if uD c y = 28 ∧ (11 * uM c y + 11) % 30 < 19 then 2 else 0) else 0
/-- How many days behind 21 March Easter is by the method. -/
def uO (c y : Int) : Int := if uX c y = 1 then 29 else if uX c y = 2 then 28 else uD c y + uE c y + 1
theorem uM_bd (c y : Int) : 0 ≤ uM c y ∧ uM c y ≤ 29 := by unfold uM; split <;> omega
theorem uN_bd (c y : Int) : 0 ≤ uN c y ∧ uN c y ≤ 6 := by unfold uN; split <;> omega
theorem uD_bd (c y : Int) : 0 ≤ uD c y ∧ uD c y ≤ 29 := by unfold uD; omega
theorem uE_bd (c y : Int) : 0 ≤ uE c y ∧ uE c y ≤ 6 := by unfold uE; omega
theorem uX_cases (c y : Int) : (uX c y = 1 ∧ ¬ c = 1 ∧ uE c y = 6 ∧ uD c y = 29) ∨ (uX c y = 2 ∧ ¬ c = 1 ∧ uE c y = 6 ∧ uD c y = 28 ∧ (11 * uM c y + 11) % 30 < 19) ∨ (uX c y = 0 ∧ (c = 1 ∨ ¬ uE c y = 6 ∨ (¬ uD c y = 29 ∧ ¬ (uD c y = 28 ∧ (11 * uM c y + 11) % 30 < 19)))) := by
  unfold uX
  by_cases h1 : c = 1
  · rw [if_pos h1]; exact Or.inr (Or.inr ⟨rfl, Or.inl h1⟩)
  · rw [if_neg h1]
    by_cases h6 : uE c y = 6
    · rw [if_pos h6]
      by_cases h29 : uD c y = 29
      · rw [if_pos h29]; exact Or.inl ⟨rfl, h1, h6, h29⟩
      · rw [if_neg h29]
        by_cases hv : uD c y = 28 ∧ (11 * uM c y + 11) % 30 < 19
        · rw [if_pos hv]; exact Or.inr (Or.inl ⟨rfl, h1, h6, hv⟩)
        · rw [if_neg hv]; exact Or.inr (Or.inr ⟨rfl, Or.inr (Or.inr ⟨h29, hv⟩)⟩)
    · rw [if_neg h6]; exact Or.inr (Or.inr ⟨rfl, Or.inr (Or.inl h6)⟩)
theorem jul_ep (y : Int) : ¬ uD 1 y = 29 ∧ (uD 1 y = 28 → ¬ 11 < gold y) := by
  unfold uD uM gold
  simp only [if_true]
  have : y % 19 < 19 := by omega
  have : 0 ≤ y % 19 := by omega
  generalize y % 19 = a at *
  omega
end Go.Proofs.Ytoiiajmdfkgcbaa
