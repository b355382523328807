/- What earlier stages proved: Sc. -/
import Derived.Test.YtlodijncaojifaaDoorKp
import Derived.Test.YtlodijncaojifaaDoorKw
import Derived.Test.YtlodijncaojifaaDoorKa
import Derived.LoopN
import Derived.WalkMore
import Derived.ScopeJumps
import Derived.LoopTactic
import Derived.Test.YtlodijncaojifaaDoorKm
import Derived.OneCell
namespace Go.Proofs.YtlodijncaojifaaDoor
open Go.RowKit

/-- The tables read as laid, what was in memory is as it was, and the blocks made since hold l. -/
structure Own (W : World) (l : List Obj) (u : World) : Prop where
  p : PT W
  s : PSt W u
  r : ∀ (i : Nat) (o : Obj), l[i]? = some o → u.heap[W.heap.size + i]? = some o
theorem Own.on {W u u' : World} {l : List Obj} (h : Own W l u) (hb : Below u.heap.size u u') : Own W l u' := ⟨h.p, h.s.on hb, fun i o hi => row_on (h.r i o hi) hb⟩
theorem Own.nil {W : World} (ht : PT W) : Own W [] W := ⟨ht, PSt.start ht, fun i o hi => by simp at hi⟩
theorem Own.al {W u : World} {l : List Obj} (h : Own W l u) (hs : u.heap.size = W.heap.size + l.length) (o : Obj) : Own W (l ++ [o]) (u.alloc o) ∧ (u.alloc o).heap.size = W.heap.size + (l ++ [o]).length := by
  refine ⟨⟨h.p, h.s.al o, fun i x hi => ?_⟩, by simp; omega⟩
  rcases Nat.lt_or_ge i l.length with g | g
  · rw [List.getElem?_append_left g] at hi; exact row_al (h.r i x hi) o
  · rw [List.getElem?_append_right g] at hi
    have : i - l.length = 0 := by
      rcases Nat.eq_zero_or_pos (i - l.length) with e | e
      · exact e
      · rw [List.getElem?_eq_none (by simp; omega)] at hi; cases hi
    rw [this] at hi; simp at hi; subst hi
    have e : W.heap.size + i = u.heap.size := by omega
    rw [e]; exact heap_alloc_new u o
theorem Own.put {W u u' : World} {l : List Obj} (h : Own W l u) (k : Nat) (o : Obj) (hb : Below W.heap.size W u') (hk : u'.heap[W.heap.size + k]? = some o) (ho : ∀ b, b ≠ W.heap.size + k → u'.heap[b]? = u.heap[b]?) : Own W (l.set k o) u' := by
  refine ⟨h.p, ⟨h.p.on hb, hb⟩, fun i x hi => ?_⟩
  rcases Nat.eq_or_lt_of_le (Nat.le_refl i) with _ | g
  · by_cases e : i = k
    · subst e
      rw [List.getElem?_set_self'] at hi
      cases hl : l[i]? with
      | none => rw [hl] at hi; simp at hi
      | some y => rw [hl] at hi; simp at hi; subst hi; exact hk
    · rw [List.getElem?_set_ne (Ne.symm e)] at hi
      rw [ho _ (by omega)]; exact h.r i x hi
  · exact absurd g (Nat.lt_irrefl i)
theorem Own.w1 {W u : World} {l : List Obj} (h : Own W l u) (k : Nat) {x : Value} {t : Nat} (hk : l[k]? = some (.cells #[x] t (0, 0))) (v : Value) : Own W (l.set k (.cells #[v] t (0, 0))) (u.setCell ⟨W.heap.size + k, 0, none⟩ v) :=
  h.put k _ (h.s.b.setCell (p := ⟨W.heap.size + k, 0, none⟩) (Nat.le_add_right _ _) v) (heap_setCell_same u _ 0 _ _ v (h.r k _ hk)) (fun _ hb => heap_setCell_other _ _ _ _ hb)
theorem Own.w3 {W u : World} {l : List Obj} (h : Own W l u) (k : Nat) {x y z : Value} {t : Nat} (hk : l[k]? = some (.cells #[x, y, z] t (0, 0))) (a b c : Value) : Own W (l.set k (.cells #[a, b, c] t (0, 0))) (set3 u (W.heap.size + k) a b c) :=
  h.put k _ (below_set3 h.s.b (Nat.le_add_right _ _) a b c rfl) (row_set (h.r k _ hk) a b c) (fun _ hx => by unfold set3; rw [heap_setCell_other _ _ _ _ hx, heap_setCell_other _ _ _ _ hx, heap_setCell_other _ _ _ _ hx])
theorem Own.one {W u : World} {l : List Obj} (h : Own W l u) (k : Nat) {x : Value} {t : Nat} (hk : l[k]? = some (.cells #[x] t (0, 0))) :
    u.cell? ⟨W.heap.size + k, 0, none⟩ = some x ∧ u.frozen? ⟨W.heap.size + k, 0, none⟩ = false ∧ W.heap.size + k < u.heap.size := by
  have h0 : u.cell? ⟨W.heap.size + k, 0, none⟩ = some x := by rw [cell_of_row u _ 0 _ _ _ (h.r k _ hk)]; rfl
  exact ⟨h0, frozen_of_row u _ 0 _ _ (h.r k _ hk), World.block_lt_of_cell? u _ h0⟩
abbrev one (v : Int) : Obj := .cells #[.int .i64 v] 3 (0, 0)
section
variable (W : World) (c y m d : Int) (x2 x3 x4 x5 : Obj)
end
end Go.Proofs.YtlodijncaojifaaDoor
