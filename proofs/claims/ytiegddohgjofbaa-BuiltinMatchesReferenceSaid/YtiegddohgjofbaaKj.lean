/- What earlier stages proved: Ja. -/
import Derived.Test.YtiegddohgjofbaaKa
namespace Go.Proofs.Ytiegddohgjofbaa
open Go.RowKit

def jlp (y : Int) : Bool := decide (y % 4 = 0)
def jfst (y : Int) : Int := -1 + (y - 1) * 365 + (y - 1) / 4
def jul : Cal := ⟨jlp, jfst, fun y _ => by
  unfold jfst jlp
  by_cases h : y % 4 = 0
  · rw [decide_eq_true h]; simp only [l01]; omega
  · rw [decide_eq_false h]; simp only [l01]; omega⟩
end Go.Proofs.Ytiegddohgjofbaa
