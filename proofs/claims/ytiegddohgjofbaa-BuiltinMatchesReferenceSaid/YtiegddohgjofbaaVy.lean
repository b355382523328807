/- This seat lists no variable. -/
import Derived.Test.YtiegddohgjofbaaRows
import Derived.WalkKit
namespace Go.Proofs.Ytiegddohgjofbaa
theorem own : ownKnob Try.prog.godebug = none := by kernel_rfl
end Go.Proofs.Ytiegddohgjofbaa
