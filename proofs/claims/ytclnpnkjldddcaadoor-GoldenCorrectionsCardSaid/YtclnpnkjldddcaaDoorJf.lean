/- The contract of the reference's FromDay. -/
import Derived.Test.YtclnpnkjldddcaaDoorJe
namespace Go.Proofs.YtclnpnkjldddcaaDoor
open Go.RowKit

theorem jfst_le {a b : Int} (h1 : 1 ≤ a) (h : a ≤ b) : jfst a ≤ jfst b := jul.fst_mono a b h1 h

end Go.Proofs.YtclnpnkjldddcaaDoor
