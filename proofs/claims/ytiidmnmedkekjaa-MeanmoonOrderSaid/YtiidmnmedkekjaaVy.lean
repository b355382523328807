/- This seat lists no variable. -/
import Derived.Test.YtiidmnmedkekjaaRows
import Derived.WalkKit
namespace Go.Proofs.Ytiidmnmedkekjaa
theorem own : ownKnob Try.prog.godebug = none := by kernel_rfl
end Go.Proofs.Ytiidmnmedkekjaa
