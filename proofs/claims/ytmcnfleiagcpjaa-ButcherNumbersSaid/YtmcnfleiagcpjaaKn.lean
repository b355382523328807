/- What earlier stages proved: Lb. -/
import Derived.Test.YtmcnfleiagcpjaaKa
import Derived.Laws.AppendOwn
namespace Go.Proofs.Ytmcnfleiagcpjaa
open Go.RowKit

theorem grown_of_below {w w' : World} (h : Below w.heap.size w w') (row : Option Nat) : w.grownBy w' row := ⟨h.os, h.tape, h.output, h.size, fun k hk _ => h.block k hk⟩
def IntsAt (B : Nat) (v : Value) (xs : List Int) (w : World) : Prop := w.ownsRow B 3 1 v xs.length (xs.map (Value.int .i64))
theorem IntsAt.on {B : Nat} {v : Value} {xs : List Int} {w w' : World} (h : IntsAt B v xs w) (hb : Below w.heap.size w w') : IntsAt B v xs w' :=
  World.ownsRow.kept h (grown_of_below hb none) (by cases hv : v.ownBlock <;> simp)
theorem IntsAt.al {B : Nat} {v : Value} {xs : List Int} {w : World} (h : IntsAt B v xs w) (o : Obj) : IntsAt B v xs (w.alloc o) := h.on ((Below.refl _ _).alloc (Nat.le_refl _) o)
/-- What a walk reads of it. -/
structure IntsIn (g cap : Nat) (xs : List Int) (w : World) : Prop where
  lt : g < w.heap.size
  le : xs.length ≤ cap
  mx : cap ≤ maxLen
  cell : ∀ i, i < xs.length → w.cell? ⟨g, i, none⟩ = some (.int .i64 (xs.getD i 0))
theorem IntsIn.on {g cap : Nat} {xs : List Int} {w w' : World} (h : IntsIn g cap xs w) (hb : Below w.heap.size w w') : IntsIn g cap xs w' :=
  ⟨Nat.lt_of_lt_of_le h.lt hb.size, h.le, h.mx, fun i hi => cell_below (h.cell i hi) hb⟩
end Go.Proofs.Ytmcnfleiagcpjaa
