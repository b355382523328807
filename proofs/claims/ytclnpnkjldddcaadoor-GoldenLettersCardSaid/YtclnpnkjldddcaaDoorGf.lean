/- The contract of the Gregorian reference's FromDay. -/
import Derived.Test.YtclnpnkjldddcaaDoorGe
import Derived.Deep.RegionWith
namespace Go.Proofs.YtclnpnkjldddcaaDoor
open Go.RowKit

end Go.Proofs.YtclnpnkjldddcaaDoor
