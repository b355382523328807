/- What the rows' condition gives of package julian's table, wherever it stands on the list. -/
import Derived.Test.YtclnpnkjldddcaaDoorLy
import Derived.Test.YtclnpnkjldddcaaDoorJa
namespace Go.Proofs.YtclnpnkjldddcaaDoor
open Go.RowKit
theorem gJLen : Tryd.prog.globalNamed "computus/julian.lengths" = some 0 := by kernel_rfl
theorem tJLen : (Tryd.prog.globals[0]?).map (·.type) = some 58 := by kernel_rfl
theorem cellsJ1 : Tryd.prog.cellsOf 3 = 1 := by kernel_rfl
theorem cellsJ12 : Tryd.prog.cellsOf 58 = 12 := by kernel_rfl
theorem lens_cells {w : World} {g : Nat} {cs : Array Value} {t : TypeId} {fr : Nat × Nat} (hcs : cs.toList = lens.map (Value.int .i64)) (hrow : w.heap[g]? = some (.cells cs t fr)) (i : Nat) (hi : i < 12) : w.cell? ⟨g, i, none⟩ = some (.int .i64 (lens.getD i 0)) := by
  rw [cell_of_row w g i cs t fr hrow, ← Array.getElem?_toList, hcs]
  have h : i = 0 ∨ i = 1 ∨ i = 2 ∨ i = 3 ∨ i = 4 ∨ i = 5 ∨ i = 6 ∨ i = 7 ∨ i = 8 ∨ i = 9 ∨ i = 10 ∨ i = 11 := by omega
  rcases h with rfl | rfl | rfl | rfl | rfl | rfl | rfl | rfl | rfl | rfl | rfl | rfl
  all_goals rfl
theorem jtab_of {l : List (String × DataW Unit)} {W : World} (h : laidMet Tryd.prog l W) (hm : ("computus/julian.lengths", Rows.laid_computus_julian_lengths) ∈ l) : Tab W := by
  obtain ⟨g, t, cs, fuel, p, hg, hty, hvar, hd⟩ := Lib.laidMet.reads h hm
  obtain rfl := Option.some.inj (gJLen.symm.trans hg)
  obtain rfl := Option.some.inj (tJLen.symm.trans hty)
  have hcs : cs.toList = lens.map (Value.int .i64) := ints_of_array (k := .i64) (bs := lens) Tryd.underlying3 Tryd.underlying58 cellsJ1 cellsJ12 rfl hd
  obtain ⟨t', fr, hrow⟩ := row_of_var gJLen hvar
  exact fun i hi => lens_cells hcs hrow i hi
end Go.Proofs.YtclnpnkjldddcaaDoor
