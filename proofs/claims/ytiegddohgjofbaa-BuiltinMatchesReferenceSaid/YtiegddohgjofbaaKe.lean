/- What earlier stages proved: Ea. -/
import Derived.Test.YtiegddohgjofbaaKd
import Derived.Test.YtiegddohgjofbaaKw
namespace Go.Proofs.Ytiegddohgjofbaa

/-- The number from 1 to 30 that is congruent to n. -/
def ep30 (n : Int) : Int := if n % 30 = 0 then 30 else n % 30
def epJ (y : Int) : Int := 11 * gold y - 3
def epG (y : Int) : Int := 11 * gold y + 20 + lunr y - solr y
def epF (c y : Int) : Int := if c = 1 then epJ y else epG y
def epc (c y : Int) : Int := ep30 (epF c y)
def lbl (e g : Int) : Int := if e = 25 ∧ 11 < g then 31 else e
def lab (c y : Int) : Int := lbl (epc c y) (gold y)
end Go.Proofs.Ytiegddohgjofbaa
