/- This seat lists no variable. -/
import Derived.Test.YtomoaolomddidaaRows
import Derived.WalkKit
namespace Go.Proofs.Ytomoaolomddidaa
theorem own : ownKnob Try.prog.godebug = none := by kernel_rfl
end Go.Proofs.Ytomoaolomddidaa
