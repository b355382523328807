/- Two dates that lie in memory stay as they are over calls that leave what was there. -/
import Derived.Test.YtkegllacdhaioaaDoorJg
namespace Go.Proofs.YtkegllacdhaioaaDoor
open Go.RowKit
theorem cell_below {w w' : World} {b o : Nat} {v : Value} (h : w.cell? ⟨b, o, none⟩ = some v) (hb : Below w.heap.size w w') : w'.cell? ⟨b, o, none⟩ = some v := by
  rw [hb.cell (p := ⟨b, o, none⟩) (World.block_lt_of_cell? w _ h)]; exact h
theorem below_on {W w w' : World} (h : Below W.heap.size W w) (hb : Below w.heap.size w w') : Below W.heap.size W w' := h.trans (hb.mono h.size)
def Two (W : World) (b1 b2 : Nat) (y m d y' m' d' : Int) (u : World) : Prop :=
  u.cell? ⟨b1, 0, none⟩ = some (.int .i64 y) ∧ u.cell? ⟨b1, 1, none⟩ = some (.int .i64 m) ∧ u.cell? ⟨b1, 2, none⟩ = some (.int .i64 d) ∧
  u.cell? ⟨b2, 0, none⟩ = some (.int .i64 y') ∧ u.cell? ⟨b2, 1, none⟩ = some (.int .i64 m') ∧ u.cell? ⟨b2, 2, none⟩ = some (.int .i64 d') ∧ Below W.heap.size W u
theorem Two.on {W : World} {b1 b2 : Nat} {y m d y' m' d' : Int} {u u' : World} (h : Two W b1 b2 y m d y' m' d' u) (hb : Below u.heap.size u u') : Two W b1 b2 y m d y' m' d' u' := by
  obtain ⟨a1, a2, a3, a4, a5, a6, a7⟩ := h
  exact ⟨cell_below a1 hb, cell_below a2 hb, cell_below a3 hb, cell_below a4 hb, cell_below a5 hb, cell_below a6 hb, below_on a7 hb⟩
theorem Two.drew {W : World} {b1 b2 : Nat} {y m d y' m' d' : Int} {u : World} (h : Two W b1 b2 y m d y' m' d' u) : Two W b1 b2 y m d y' m' d' u.drew :=
  h.on (below_dn (Below.refl _ _) 1)


/-- One date in memory. -/
def One (W : World) (b : Nat) (y m d : Int) (u : World) : Prop :=
  u.cell? ⟨b, 0, none⟩ = some (.int .i64 y) ∧ u.cell? ⟨b, 1, none⟩ = some (.int .i64 m) ∧ u.cell? ⟨b, 2, none⟩ = some (.int .i64 d) ∧ Below W.heap.size W u
theorem One.on {W : World} {b : Nat} {y m d : Int} {u u' : World} (h : One W b y m d u) (hb : Below u.heap.size u u') : One W b y m d u' := by
  obtain ⟨a1, a2, a3, a7⟩ := h
  exact ⟨cell_below a1 hb, cell_below a2 hb, cell_below a3 hb, below_on a7 hb⟩
end Go.Proofs.YtkegllacdhaioaaDoor
