/- What earlier stages proved: La. -/
import Derived.Test.YtlodijncaojifaaDoorKa
import Derived.KernelRfl
namespace Go.Proofs.YtlodijncaojifaaDoor

def okD (m d : Int) : Bool := decide (1 ≤ d) && decide (d ≤ dim false m)
def doy (m d : Int) : Int := cum false m + d
end Go.Proofs.YtlodijncaojifaaDoor
