/- What earlier stages proved: Sa Sc. -/
import Derived.Test.YtmcnfleiagcpjaaKp
import Derived.Test.YtmcnfleiagcpjaaKa
import Derived.LoopN
import Derived.WalkMore
import Derived.ScopeJumps
import Derived.LoopTactic
import Derived.Test.YtmcnfleiagcpjaaKm
import Derived.OneCell
namespace Go.Proofs.Ytmcnfleiagcpjaa

/-- How many days behind 21 March Easter is. -/
def eaO (c y : Int) : Int := off (lab c y) + 7 - (marN c y + off (lab c y)) % 7
theorem eaO_off (c y : Int) : (off (lab c y) : Int) + 1 ≤ eaO c y ∧ eaO c y ≤ off (lab c y) + 7 := by unfold eaO; omega
theorem eaO_bd (c y : Int) : 1 ≤ eaO c y ∧ eaO c y ≤ 35 := by
  obtain ⟨l1, l2⟩ := lab_bd c y
  have := (off_all l1 l2).1
  have := eaO_off c y
  omega
def offX (l : Int) : Int := if l ≤ 23 then 23 - l else if l = 24 then 28 else if l ≤ 30 then 53 - l else 27
theorem off_x {l : Int} (l1 : 1 ≤ l) (l2 : l ≤ 31) : (off l : Int) = offX l :=
  of_decide_eq_true (all_l (fun l => decide ((off l : Int) = offX l)) (by kernel_rfl) l l1 l2)
end Go.Proofs.Ytmcnfleiagcpjaa

namespace Go.Proofs.Ytmcnfleiagcpjaa
open Go.RowKit

abbrev one (v : Int) : Obj := .cells #[.int .i64 v] 3 (0, 0)
section
variable (W : World) (c y m d : Int) (x2 x3 x4 x5 : Obj)
end
end Go.Proofs.Ytmcnfleiagcpjaa
