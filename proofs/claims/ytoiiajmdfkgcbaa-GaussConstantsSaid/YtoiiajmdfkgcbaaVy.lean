/- This seat lists no variable. -/
import Derived.Test.YtoiiajmdfkgcbaaRows
import Derived.WalkKit
namespace Go.Proofs.Ytoiiajmdfkgcbaa
theorem own : ownKnob Try.prog.godebug = none := by kernel_rfl
end Go.Proofs.Ytoiiajmdfkgcbaa
