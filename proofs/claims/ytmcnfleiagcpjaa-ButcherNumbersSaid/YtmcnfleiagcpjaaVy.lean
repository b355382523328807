/- This seat lists no variable. -/
import Derived.Test.YtmcnfleiagcpjaaRows
import Derived.WalkKit
namespace Go.Proofs.Ytmcnfleiagcpjaa
theorem own : ownKnob Try.prog.godebug = none := by kernel_rfl
end Go.Proofs.Ytmcnfleiagcpjaa
