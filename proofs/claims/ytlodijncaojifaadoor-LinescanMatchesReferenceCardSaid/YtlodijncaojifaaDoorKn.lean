/- What earlier stages proved: Lb Ld. -/
import Derived.Test.YtlodijncaojifaaDoorKa
import Derived.Laws.AppendOwn
import Derived.Test.YtlodijncaojifaaDoorKl
namespace Go.Proofs.YtlodijncaojifaaDoor
open Go.RowKit

theorem grown_of_below {w w' : World} (h : Below w.heap.size w w') (row : Option Nat) : w.grownBy w' row := ⟨h.os, h.tape, h.output, h.size, fun k hk _ => h.block k hk⟩
def IntsAt (B : Nat) (v : Value) (xs : List Int) (w : World) : Prop := w.ownsRow B 3 1 v xs.length (xs.map (Value.int .i64))
theorem IntsAt.on {B : Nat} {v : Value} {xs : List Int} {w w' : World} (h : IntsAt B v xs w) (hb : Below w.heap.size w w') : IntsAt B v xs w' :=
  World.ownsRow.kept h (grown_of_below hb none) (by cases hv : v.ownBlock <;> simp)
theorem IntsAt.al {B : Nat} {v : Value} {xs : List Int} {w : World} (h : IntsAt B v xs w) (o : Obj) : IntsAt B v xs (w.alloc o) := h.on ((Below.refl _ _).alloc (Nat.le_refl _) o)
theorem IntsAt.nil (B : Nat) (w : World) : IntsAt B (.slice none 0 0) [] w := World.ownsRow_nil w B _ 1
theorem IntsAt.lower {B B' : Nat} {v : Value} {xs : List Int} {w : World} (h : IntsAt B v xs w) (hB : B' ≤ B) : IntsAt B' v xs w := by
  refine ⟨h.1, ?_⟩
  rcases h.2 with hn | ⟨g, cap, cur, e, hb, rest⟩
  · exact .inl hn
  · exact .inr ⟨g, cap, cur, e, Nat.le_trans hB hb, rest⟩
theorem IntsAt.made1 (w : World) (a : Int) : IntsAt w.heap.size (.slice (some ⟨w.heap.size, 0, none⟩) 1 1) [a] (w.alloc (.cells #[.int .i64 a] 3)) :=
  ⟨by simp, .inr ⟨w.heap.size, 1, #[.int .i64 a], rfl, Nat.le_refl _, heap_alloc_new w _, Nat.le_refl _, by unfold maxLen; omega, rfl, rfl⟩⟩
theorem IntsAt.made2 (w : World) (a b : Int) : IntsAt w.heap.size (.slice (some ⟨w.heap.size, 0, none⟩) 2 2) [a, b] (w.alloc (.cells #[.int .i64 a, .int .i64 b] 3)) :=
  ⟨by simp, .inr ⟨w.heap.size, 2, #[.int .i64 a, .int .i64 b], rfl, Nat.le_refl _, heap_alloc_new w _, Nat.le_refl _, by unfold maxLen; omega, rfl, rfl⟩⟩
/-- What a walk reads of it. -/
structure IntsIn (g cap : Nat) (xs : List Int) (w : World) : Prop where
  lt : g < w.heap.size
  le : xs.length ≤ cap
  mx : cap ≤ maxLen
  cell : ∀ i, i < xs.length → w.cell? ⟨g, i, none⟩ = some (.int .i64 (xs.getD i 0))
theorem IntsIn.on {g cap : Nat} {xs : List Int} {w w' : World} (h : IntsIn g cap xs w) (hb : Below w.heap.size w w') : IntsIn g cap xs w' :=
  ⟨Nat.lt_of_lt_of_le h.lt hb.size, h.le, h.mx, fun i hi => cell_below (h.cell i hi) hb⟩
theorem IntsAt.get {B : Nat} {v : Value} {xs : List Int} {w : World} (h : IntsAt B v xs w) : (v = .slice none 0 0 ∧ xs = []) ∨ ∃ g cap, v = .slice (some ⟨g, 0, none⟩) xs.length cap ∧ IntsIn g cap xs w := by
  rcases h.2 with ⟨rfl, hn⟩ | ⟨g, cap, cur, rfl, hb, hg, hnc, hcm, hcs, htake⟩
  · exact .inl ⟨rfl, List.eq_nil_of_length_eq_zero hn⟩
  · refine .inr ⟨g, cap, rfl, (Array.getElem?_eq_some_iff.1 hg).1, hnc, hcm, fun i hi => ?_⟩
    have := World.ownsRow.cells h (g := g) rfl i (.int .i64 (xs.getD i 0)) (by rw [List.getElem?_map, List.getElem?_eq_getElem hi, List.getD_eq_getElem?_getD, List.getElem?_eq_getElem hi]; rfl)
    rwa [show (⟨g, 0, none⟩ : Addr).add i = ⟨g, i, none⟩ by unfold Addr.add; split <;> simp_all] at this
end Go.Proofs.YtlodijncaojifaaDoor

namespace Go.Proofs.YtlodijncaojifaaDoor
open Go.RowKit

/-- A slice of integers of the call's own is handed back; what lay in memory lies there. -/
def RetInts (xs : List Int) (w : World) (e : Ending) (w' : World) : Prop := ∃ v, e = .returned v ∧ IntsAt w.heap.size v xs w' ∧ Below w.heap.size w w'
theorem RetInts.after {xs : List Int} {w w1 : World} {e : Ending} {w' : World} (h : RetInts xs w1 e w') (hb : Below w.heap.size w w1) : RetInts xs w e w' := by
  obtain ⟨v, rfl, hv, hb1⟩ := h
  exact ⟨v, rfl, hv.lower hb.size, below_on hb hb1⟩
end Go.Proofs.YtlodijncaojifaaDoor
