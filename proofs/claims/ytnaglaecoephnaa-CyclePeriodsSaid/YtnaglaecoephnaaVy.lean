/- This seat lists no variable. -/
import Derived.Test.YtnaglaecoephnaaRows
import Derived.WalkKit
namespace Go.Proofs.Ytnaglaecoephnaa
theorem own : ownKnob Try.prog.godebug = none := by kernel_rfl
end Go.Proofs.Ytnaglaecoephnaa
