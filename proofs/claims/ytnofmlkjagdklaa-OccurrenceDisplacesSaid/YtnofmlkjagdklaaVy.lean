/- This seat lists no variable. -/
import Derived.Test.YtnofmlkjagdklaaRows
import Derived.WalkKit
namespace Go.Proofs.Ytnofmlkjagdklaa
theorem own : ownKnob Try.prog.godebug = none := by kernel_rfl
end Go.Proofs.Ytnofmlkjagdklaa
