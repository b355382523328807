/- What earlier stages proved: Da Dd. -/
import Derived.Test.YtmcnfleiagcpjaaKc
import Derived.Test.YtmcnfleiagcpjaaKa
import Derived.Test.YtmcnfleiagcpjaaKr
namespace Go.Proofs.Ytmcnfleiagcpjaa

def inG (y : Int) : Bool := decide (1583 ≤ y) && decide (y ≤ 1000000000)
theorem inG_iff {y : Int} : inG y = true ↔ 1583 ≤ y ∧ y ≤ 1000000000 := by simp [inG]
def gold (y : Int) : Int := y % 19 + 1
def cent (y : Int) : Int := y / 100 + 1
def solr (y : Int) : Int := 3 * cent y / 4 - 12
def lunr (y : Int) : Int := (8 * cent y + 5) / 25 - 5
/-- 0 in range, 1 outside. -/
def eB (b : Bool) : Int := if b = true then 0 else 1
end Go.Proofs.Ytmcnfleiagcpjaa

namespace Go.Proofs.Ytmcnfleiagcpjaa
open Go.RowKit

theorem rgre_any (y : Int) (w : World) : Calls Try.prog 14 #[.int .i64 y] w fun e w' => e = .returned (.bool (inG y)) ∧ w = w' := by
  cases h0 : decide (1583 ≤ y)
  all_goals
    go_enter Try.func14, Try.ntmps14
    go_wp2
    go_ret
    exact ⟨ret_bool (by simp [inG, h0]), rfl⟩
section
variable (c y f : Int) (w : World)
end
end Go.Proofs.Ytmcnfleiagcpjaa
