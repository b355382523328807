/- What earlier stages proved: La. -/
import Derived.Test.YtlodijncaojifaaDoorKa
import Derived.KernelRfl
namespace Go.Proofs.YtlodijncaojifaaDoor

def okD (m d : Int) : Bool := decide (1 ≤ d) && decide (d ≤ dim false m)
def doy (m d : Int) : Int := cum false m + d
def stt (k : Int) : Int := [1, 31, 60, 90, 119, 149, 178, 208, 237, 267, 296, 326, 355].getD k.toNat 0
def lun (n : Int) : Int := if n < 31 then 0 else if n < 60 then 1 else if n < 90 then 2 else if n < 119 then 3 else if n < 149 then 4 else if n < 178 then 5 else if n < 208 then 6 else if n < 237 then 7 else if n < 267 then 8 else if n < 296 then 9 else if n < 326 then 10 else if n < 355 then 11 else 12
def pos (n : Int) : Int := n - stt (lun n)
end Go.Proofs.YtlodijncaojifaaDoor
