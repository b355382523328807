/- The contracts of package computusref02's Less and Next. -/
import Derived.Test.YtclnpnkjldddcaaDoorCo
namespace Go.Proofs.YtclnpnkjldddcaaDoor
open Go.RowKit

end Go.Proofs.YtclnpnkjldddcaaDoor
