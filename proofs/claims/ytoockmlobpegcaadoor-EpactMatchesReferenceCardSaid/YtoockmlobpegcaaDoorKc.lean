/- What earlier stages proved: Cv Ch. -/
import Derived.Test.YtoockmlobpegcaaDoorKa
import Derived.Laws.Rows
import Derived.Deep.RegionWith
namespace Go.Proofs.YtoockmlobpegcaaDoor

def InD (C : Cal) (n : Int) : Prop := C.fst 1 ≤ n ∧ n < C.fst 1000000001
instance (C : Cal) (n : Int) : Decidable (InD C n) := inferInstanceAs (Decidable (_ ∧ _))
def okC (c : Int) : Bool := decide (c = 1) || decide (c = 2)
theorem okC_iff {c : Int} : okC c = true ↔ c = 1 ∨ c = 2 := by simp [okC]
theorem okC_not {c : Int} (h1 : ¬ c = 1) (h2 : ¬ c = 2) : okC c = false := by simp [okC, h1, h2]
end Go.Proofs.YtoockmlobpegcaaDoor

namespace Go.Proofs.YtoockmlobpegcaaDoor
open Go.RowKit

abbrev numv (n e : Int) : Value := .tuple #[.int .i64 n, .int .i64 e]
section
variable (y m d : Int) (w : World)
end
section
variable (n : Int) (w : World)
end

end Go.Proofs.YtoockmlobpegcaaDoor
