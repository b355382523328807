/- What earlier stages proved: Wa. -/
import Derived.Test.YtlodijncaojifaaDoorRows
import Derived.Test.YtlodijncaojifaaDoorKa
import Derived.IntWalk
namespace Go.Proofs.YtlodijncaojifaaDoor
open Go.RowKit

def inW (w : Int) : Bool := decide (0 ≤ w) && decide (w ≤ 6)
end Go.Proofs.YtlodijncaojifaaDoor
