/- What earlier stages proved: Cv Ch Ci. -/
import Derived.Test.YtlodijncaojifaaDoorRows
import Derived.Test.YtlodijncaojifaaDoorKa
import Derived.IntWalk
import Derived.Laws.Rows
import Derived.Deep.RegionWith
namespace Go.Proofs.YtlodijncaojifaaDoor

def InD (C : Cal) (n : Int) : Prop := C.fst 1 ≤ n ∧ n < C.fst 1000000001
instance (C : Cal) (n : Int) : Decidable (InD C n) := inferInstanceAs (Decidable (_ ∧ _))
end Go.Proofs.YtlodijncaojifaaDoor

namespace Go.Proofs.YtlodijncaojifaaDoor
open Go.RowKit

structure CTab (w : World) : Prop where
  j : Tab w
  g : GTab w
theorem CTab.on {w w' : World} (h : CTab w) (hb : Below w.heap.size w w') : CTab w' := ⟨h.j.on hb, h.g.on hb⟩
theorem CTab.al {w : World} (h : CTab w) (o : Obj) : CTab (w.alloc o) := ⟨h.j.al o, h.g.al o⟩

section
variable (y m d : Int) (w : World)
end
section
variable (n : Int) (w : World)
end

theorem hst (a : Addr) (f : Fn) (x y : Array Value) (m : Mode) (w : World) : (store a (.func f x y) m).run Tryd.prog w = stored Tryd.prog w a (.func f x y) m := run_store _ _ _ _ _ rfl
end Go.Proofs.YtlodijncaojifaaDoor

namespace Go.Proofs.YtlodijncaojifaaDoor
open Go.RowKit

/-- The tables read as laid, and what was in memory is as it was. -/
structure St (W w : World) : Prop where
  t : CTab w
  b : Below W.heap.size W w
theorem St.start {W : World} (h : CTab W) : St W W := ⟨h, Below.refl _ _⟩
theorem St.on {W w w' : World} (h : St W w) (hb : Below w.heap.size w w') : St W w' := ⟨h.t.on hb, below_on h.b hb⟩
theorem St.al {W w : World} (h : St W w) (o : Obj) : St W (w.alloc o) := h.on ((Below.refl w.heap.size w).alloc (Nat.le_refl _) o)
theorem row_on {w w' : World} {b : Nat} {o : Obj} (h : w.heap[b]? = some o) (hb : Below w.heap.size w w') : w'.heap[b]? = some o := by
  have hl : b < w.heap.size := by
    rcases Nat.lt_or_ge b w.heap.size with g | g
    · exact g
    · rw [Array.getElem?_eq_none g] at h; cases h
  rw [hb.block _ hl]; exact h
theorem row_al {w : World} {b : Nat} {o : Obj} (h : w.heap[b]? = some o) (o' : Obj) : (w.alloc o').heap[b]? = some o := row_on h ((Below.refl w.heap.size w).alloc (Nat.le_refl _) o')
theorem row_new1 (w : World) (o o' : Obj) : ((w.alloc o).alloc o').heap[w.heap.size + 1]? = some o' := by
  have h := heap_alloc_new (w.alloc o) o'
  rwa [show (w.alloc o).heap.size = w.heap.size + 1 from by simp] at h
section
variable (y m d : Int) (w : World)
end
section
variable (n : Int) (w : World)
end
end Go.Proofs.YtlodijncaojifaaDoor
