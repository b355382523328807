/- What earlier stages proved: Qa Qb Qc. -/
import Derived.Test.YtlodijncaojifaaDoorKl
import Derived.Test.YtlodijncaojifaaDoorKp
import Derived.Test.YtlodijncaojifaaDoorKw
import Derived.Test.YtlodijncaojifaaDoorKc
import Derived.Test.YtlodijncaojifaaDoorKa
import Derived.LoopN
import Derived.Test.YtlodijncaojifaaDoorKs
import Derived.LoopTactic
import Derived.Deep.RegionHeld3
namespace Go.Proofs.YtlodijncaojifaaDoor

/-- The bounds of the kind Nth, for the day n of a common year. -/
def nthB (n c : Int) : Bool := if 1 ≤ c ∧ c ≤ 8 then decide (n + 6 + 7 * (c - 1) ≤ 365) else if -8 ≤ c ∧ c ≤ -1 then decide (1 ≤ n - 6 - 7 * (-c - 1)) else false
/-- Is the anchor (Kind, Month, Day, Offset, Weekday, Count) well-formed? -/
def wfA (k m d o w c : Int) : Bool :=
  if k = 2 then decide (m = 0) && (decide (d = 0) && (decide (w = 0) && (decide (c = 0) && (decide (-80 ≤ o) && decide (o ≤ 250)))))
  else if okD m d = true ∧ o = 0 then (if k = 1 then decide (w = 0) && decide (c = 0) else if k = 3 then inW w && nthB (doy m d) c else false)
  else false
end Go.Proofs.YtlodijncaojifaaDoor

namespace Go.Proofs.YtlodijncaojifaaDoor
open Go.RowKit

section
variable (k m d o w c y : Int) (W : World)
abbrev AnO (W : World) (o : Int) (u : World) : Prop := u.cell? ⟨W.heap.size, 3, none⟩ = some (.int .i64 o) ∧ PT u ∧ Below W.heap.size W u
theorem AnO.on {W : World} {o : Int} {u u' : World} (h : AnO W o u) (hb : Below u.heap.size u u') : AnO W o u' := by
  have hz := World.block_lt_of_cell? u _ h.1
  exact ⟨by rw [(bcell hb).1 _ _ hz]; exact h.1, h.2.1.on hb, below_on h.2.2 hb⟩
end
end Go.Proofs.YtlodijncaojifaaDoor

namespace Go.Proofs.YtlodijncaojifaaDoor
open Go.RowKit

abbrev W1 (x : Int) : Prop := -9223372036854775808 ≤ x ∧ x ≤ 9223372036854775807
abbrev AnC (W : World) (b : Nat) (k m d o w c : Int) (u : World) : Prop := u.cell? ⟨b, 0, none⟩ = some (.int .i64 k) ∧ u.cell? ⟨b, 1, none⟩ = some (.int .i64 m) ∧ u.cell? ⟨b, 2, none⟩ = some (.int .i64 d) ∧ u.cell? ⟨b, 3, none⟩ = some (.int .i64 o) ∧ u.cell? ⟨b, 4, none⟩ = some (.int .i64 w) ∧ u.cell? ⟨b, 5, none⟩ = some (.int .i64 c) ∧ PT u ∧ Below W.heap.size W u
theorem AnC.on {W u u' : World} {b : Nat} {k m d o w c : Int} (h : AnC W b k m d o w c u) (hb : Below u.heap.size u u') : AnC W b k m d o w c u' := by
  have hz := World.block_lt_of_cell? u _ h.1
  have e := (bcell hb).1
  exact ⟨by rw [e _ _ hz]; exact h.1, by rw [e _ _ hz]; exact h.2.1, by rw [e _ _ hz]; exact h.2.2.1, by rw [e _ _ hz]; exact h.2.2.2.1, by rw [e _ _ hz]; exact h.2.2.2.2.1, by rw [e _ _ hz]; exact h.2.2.2.2.2.1, h.2.2.2.2.2.2.1.on hb, below_on h.2.2.2.2.2.2.2 hb⟩
end Go.Proofs.YtlodijncaojifaaDoor
