/- What earlier stages proved: La. -/
import Derived.Test.YtaifhikhdcnacaaKa
import Derived.KernelRfl
namespace Go.Proofs.Ytaifhikhdcnacaa

def okD (m d : Int) : Bool := decide (1 ≤ d) && decide (d ≤ dim false m)
def doy (m d : Int) : Int := cum false m + d
def stt (k : Int) : Int := [1, 31, 60, 90, 119, 149, 178, 208, 237, 267, 296, 326, 355].getD k.toNat 0
def lun (n : Int) : Int := if n < 31 then 0 else if n < 60 then 1 else if n < 90 then 2 else if n < 119 then 3 else if n < 149 then 4 else if n < 178 then 5 else if n < 208 then 6 else if n < 237 then 7 else if n < 267 then 8 else if n < 296 then 9 else if n < 326 then 10 else if n < 355 then 11 else 12
def pos (n : Int) : Int := n - stt (lun n)
def lunM (m d : Int) : Int := if okD m d = true then lun (doy m d) else 0
def posM (m d : Int) : Int := if okD m d = true then pos (doy m d) else 0
def fullL (p : Int) : List Int := if p = 5 then [31, 25] else [30 - p]
def hollowL (p : Int) : List Int := if p < 4 then [30 - p] else if p = 4 then [31, 26] else if p = 5 then [25, 24] else [29 - p]
def onL (k p : Int) : List Int := if k % 2 = 0 then fullL p else hollowL p
def onD (m d : Int) : List Int := if okD m d = true then onL (lunM m d) (posM m d) else []
def bears (m d l : Int) : Bool := (onD m d).contains l
def year : List (Int × Int) := (List.range 12).flatMap fun a => (List.range (dim false (Int.ofNat a + 1)).toNat).map fun b => (Int.ofNat a + 1, Int.ofNat b + 1)
def sel (l : Int) (xs : List (Int × Int)) : List (Int × Int) := xs.filter fun x => bears x.1 x.2 l
def days (l : Int) : List (Int × Int) := sel l year

end Go.Proofs.Ytaifhikhdcnacaa
