/- What earlier stages proved: Cv Ch Ci. -/
import Derived.Test.YtmcnfleiagcpjaaKj
import Derived.Test.YtmcnfleiagcpjaaKg
import Derived.Test.YtmcnfleiagcpjaaKa
import Derived.Laws.Rows
import Derived.Deep.RegionWith
namespace Go.Proofs.Ytmcnfleiagcpjaa

def InD (C : Cal) (n : Int) : Prop := C.fst 1 ≤ n ∧ n < C.fst 1000000001
instance (C : Cal) (n : Int) : Decidable (InD C n) := inferInstanceAs (Decidable (_ ∧ _))
def okC (c : Int) : Bool := decide (c = 1) || decide (c = 2)
theorem okC_iff {c : Int} : okC c = true ↔ c = 1 ∨ c = 2 := by simp [okC]
theorem okC_not {c : Int} (h1 : ¬ c = 1) (h2 : ¬ c = 2) : okC c = false := by simp [okC, h1, h2]
def calOf (c : Int) : Cal := if c = 1 then jul else greg
end Go.Proofs.Ytmcnfleiagcpjaa

namespace Go.Proofs.Ytmcnfleiagcpjaa
open Go.RowKit

abbrev numv (n e : Int) : Value := .tuple #[.int .i64 n, .int .i64 e]
abbrev datv (y m d e : Int) : Value := .tuple #[.agg #[.int .i64 y, .int .i64 m, .int .i64 d], .int .i64 e]

section
variable (y m d : Int) (w : World)
end
section
variable (n : Int) (w : World)
end

end Go.Proofs.Ytmcnfleiagcpjaa

namespace Go.Proofs.Ytmcnfleiagcpjaa
open Go.RowKit

theorem row_on {w w' : World} {b : Nat} {o : Obj} (h : w.heap[b]? = some o) (hb : Below w.heap.size w w') : w'.heap[b]? = some o := by
  have hl : b < w.heap.size := by
    rcases Nat.lt_or_ge b w.heap.size with g | g
    · exact g
    · rw [Array.getElem?_eq_none g] at h; cases h
  rw [hb.block _ hl]; exact h
theorem row_al {w : World} {b : Nat} {o : Obj} (h : w.heap[b]? = some o) (o' : Obj) : (w.alloc o').heap[b]? = some o := row_on h ((Below.refl w.heap.size w).alloc (Nat.le_refl _) o')
theorem row_new1 (w : World) (o o' : Obj) : ((w.alloc o).alloc o').heap[w.heap.size + 1]? = some o' := by
  have h := heap_alloc_new (w.alloc o) o'
  rwa [show (w.alloc o).heap.size = w.heap.size + 1 from by simp] at h
abbrev zdate : Obj := .cells #[.int .i64 0, .int .i64 0, .int .i64 0] 27

section
variable (y m d : Int) (w : World)
end
section
variable (n : Int) (w : World)
end
end Go.Proofs.Ytmcnfleiagcpjaa
