/- What earlier stages proved: Da. -/
import Derived.Test.YtiegddohgjofbaaKc
namespace Go.Proofs.Ytiegddohgjofbaa

def inG (y : Int) : Bool := decide (1583 ≤ y) && decide (y ≤ 1000000000)
theorem inG_iff {y : Int} : inG y = true ↔ 1583 ≤ y ∧ y ≤ 1000000000 := by simp [inG]
def gold (y : Int) : Int := y % 19 + 1
def cent (y : Int) : Int := y / 100 + 1
def solr (y : Int) : Int := 3 * cent y / 4 - 12
def lunr (y : Int) : Int := (8 * cent y + 5) / 25 - 5
end Go.Proofs.Ytiegddohgjofbaa
