/- What earlier stages proved: Cv Ch Ci. -/
import Derived.Test.YtoiiajmdfkgcbaaKj
import Derived.Test.YtoiiajmdfkgcbaaKg
import Derived.Test.YtoiiajmdfkgcbaaKa
import Derived.Laws.Rows
import Derived.Deep.RegionWith
namespace Go.Proofs.Ytoiiajmdfkgcbaa

def InD (C : Cal) (n : Int) : Prop := C.fst 1 ≤ n ∧ n < C.fst 1000000001
instance (C : Cal) (n : Int) : Decidable (InD C n) := inferInstanceAs (Decidable (_ ∧ _))
def okC (c : Int) : Bool := decide (c = 1) || decide (c = 2)
theorem okC_iff {c : Int} : okC c = true ↔ c = 1 ∨ c = 2 := by simp [okC]
theorem okC_not {c : Int} (h1 : ¬ c = 1) (h2 : ¬ c = 2) : okC c = false := by simp [okC, h1, h2]
def calOf (c : Int) : Cal := if c = 1 then jul else greg
end Go.Proofs.Ytoiiajmdfkgcbaa

namespace Go.Proofs.Ytoiiajmdfkgcbaa
open Go.RowKit

abbrev dtv (y m d : Int) : Value := .agg #[.int .i64 y, .int .i64 m, .int .i64 d]
abbrev datv (y m d e : Int) : Value := .tuple #[.agg #[.int .i64 y, .int .i64 m, .int .i64 d], .int .i64 e]

section
variable (y m d : Int) (w : World)
end
section
variable (n : Int) (w : World)
end

end Go.Proofs.Ytoiiajmdfkgcbaa

namespace Go.Proofs.Ytoiiajmdfkgcbaa
open Go.RowKit

theorem row_on {w w' : World} {b : Nat} {o : Obj} (h : w.heap[b]? = some o) (hb : Below w.heap.size w w') : w'.heap[b]? = some o := by
  have hl : b < w.heap.size := by
    rcases Nat.lt_or_ge b w.heap.size with g | g
    · exact g
    · rw [Array.getElem?_eq_none g] at h; cases h
  rw [hb.block _ hl]; exact h
theorem row_al {w : World} {b : Nat} {o : Obj} (h : w.heap[b]? = some o) (o' : Obj) : (w.alloc o').heap[b]? = some o := row_on h ((Below.refl w.heap.size w).alloc (Nat.le_refl _) o')
/-- A struct of three cells, each written, and a block made before or behind. -/
theorem three_al {w1 : World} {b t : Nat} {a0 a1 a2 : Value} {o : Obj} (x y z : Value) (h : w1.heap[b]? = some (.cells #[a0, a1, a2] t (0, 0))) {u : World} (hu : (((w1.setCell ⟨b, 0, none⟩ x).setCell ⟨b, 1, none⟩ y).setCell ⟨b, 2, none⟩ z).alloc o = u) :
    u.cell? ⟨b, 0, none⟩ = some x ∧ u.cell? ⟨b, 1, none⟩ = some y ∧ u.cell? ⟨b, 2, none⟩ = some z ∧ ∀ W : World, Below W.heap.size W w1 → W.heap.size ≤ b → Below W.heap.size W u := by
  obtain ⟨k0, k1, k2⟩ := three_set x y z h rfl
  subst hu
  have hb : ∀ v : World, Below v.heap.size v (v.alloc o) := fun v => (Below.refl v.heap.size v).alloc (Nat.le_refl _) o
  exact ⟨cell_below k0 (hb _), cell_below k1 (hb _), cell_below k2 (hb _), fun W h1 h2 => below_on (below_set3 h1 h2 x y z rfl) (hb _)⟩
theorem row_new1 (w : World) (o o' : Obj) : ((w.alloc o).alloc o').heap[w.heap.size + 1]? = some o' := by
  have h := heap_alloc_new (w.alloc o) o'
  rwa [show (w.alloc o).heap.size = w.heap.size + 1 from by simp] at h
abbrev zdate : Obj := .cells #[.int .i64 0, .int .i64 0, .int .i64 0] 29

section
variable (y m d : Int) (w : World)
end
section
variable (n : Int) (w : World)
end
end Go.Proofs.Ytoiiajmdfkgcbaa
