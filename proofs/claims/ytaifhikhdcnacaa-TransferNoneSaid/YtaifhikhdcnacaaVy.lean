/- This seat lists no variable. -/
import Derived.Test.YtaifhikhdcnacaaRows
import Derived.WalkKit
namespace Go.Proofs.Ytaifhikhdcnacaa
theorem own : ownKnob Try.prog.godebug = none := by kernel_rfl
end Go.Proofs.Ytaifhikhdcnacaa
