/- What earlier stages proved: Wa Wb Wc. -/
import Derived.Test.YtiegddohgjofbaaKa
namespace Go.Proofs.Ytiegddohgjofbaa
open Go.RowKit

def inW (w : Int) : Bool := decide (0 ≤ w) && decide (w ≤ 6)
theorem inW_iff {w : Int} : inW w = true ↔ 0 ≤ w ∧ w ≤ 6 := by simp [inW]
end Go.Proofs.Ytiegddohgjofbaa

namespace Go.Proofs.Ytiegddohgjofbaa
open Go.RowKit

def aft (n w : Int) : Int := n + (w - n % 7) % 7
def bef (n w : Int) : Int := n - (n % 7 - w) % 7
end Go.Proofs.Ytiegddohgjofbaa

namespace Go.Proofs.Ytiegddohgjofbaa
open Go.RowKit

def nth (n w c : Int) : Int := if 0 < c then aft n w + 7 * (c - 1) else bef n w + 7 * (c + 1)
end Go.Proofs.Ytiegddohgjofbaa
