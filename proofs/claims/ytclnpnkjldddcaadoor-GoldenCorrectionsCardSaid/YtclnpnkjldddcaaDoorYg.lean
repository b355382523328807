/- What the rows' condition gives of package gregorian's tables, wherever they stand on the list. -/
import Derived.Test.YtclnpnkjldddcaaDoorLy
import Derived.Test.YtclnpnkjldddcaaDoorGa
import Derived.Lib.LaidU8
namespace Go.Proofs.YtclnpnkjldddcaaDoor
open Go.RowKit
theorem gGLen : Tryd.prog.globalNamed "computus/gregorian.lengths" = some 1 := by kernel_rfl
theorem gGGrp : Tryd.prog.globalNamed "computus/gregorian.groups" = some 2 := by kernel_rfl
theorem tGLen : (Tryd.prog.globals[1]?).map (·.type) = some 58 := by kernel_rfl
theorem tGGrp : (Tryd.prog.globals[2]?).map (·.type) = some 61 := by kernel_rfl
theorem cellsL : Tryd.prog.cellsOf 58 = 12 := by kernel_rfl
theorem cellsI : Tryd.prog.cellsOf 3 = 1 := by kernel_rfl
theorem cellsG : Tryd.prog.cellsOf 60 = 3 := by kernel_rfl
theorem cellsGs : Tryd.prog.cellsOf 61 = 12 := by kernel_rfl
/-- A row of three integers. -/
theorem three_of {H : Type} {enc : TypeId × Value → H} {w : World} {base : Nat} {sp : Nat → Bool} {held : Bool} {fuel : Nat} {cs : List Value} {x y z : Int} {p : List MemPlace}
    (h : DataW.trod enc Tryd.prog w base sp held fuel 60 cs = some (.agg [.lit (.int .i64 x), .lit (.int .i64 y), .lit (.int .i64 z)], p)) : cs = [.int .i64 x, .int .i64 y, .int .i64 z] :=
  Lib.ints_of_struct (k := .i64) (zs := [x, y, z]) Tryd.underlying60 (fun j f hj => by
    match j, hj with
    | 0, hj => simp at hj; subst hj; exact ⟨Tryd.underlying3, rfl, cellsI⟩
    | 1, hj => simp at hj; subst hj; exact ⟨Tryd.underlying3, rfl, cellsI⟩
    | 2, hj => simp at hj; subst hj; exact ⟨Tryd.underlying3, rfl, cellsI⟩
    | j + 3, hj => simp at hj) (by rw [cellsG]; rfl) h
theorem glens_cells {w : World} {g : Nat} {cs : Array Value} {t : TypeId} {fr : Nat × Nat} (hcs : cs.toList = lens.map (Value.int .i64)) (hrow : w.heap[g]? = some (.cells cs t fr)) (i : Nat) (hi : i < 12) : w.cell? ⟨g, i, none⟩ = some (.int .i64 (lens.getD i 0)) := by
  rw [cell_of_row w g i cs t fr hrow, ← Array.getElem?_toList, hcs]
  have h : i = 0 ∨ i = 1 ∨ i = 2 ∨ i = 3 ∨ i = 4 ∨ i = 5 ∨ i = 6 ∨ i = 7 ∨ i = 8 ∨ i = 9 ∨ i = 10 ∨ i = 11 := by omega
  rcases h with rfl | rfl | rfl | rfl | rfl | rfl | rfl | rfl | rfl | rfl | rfl | rfl
  all_goals rfl
theorem gtab_of {l : List (String × DataW Unit)} {W : World} (h : laidMet Tryd.prog l W) (hm : ("computus/gregorian.lengths", Rows.laid_computus_gregorian_lengths) ∈ l) (hm2 : ("computus/gregorian.groups", Rows.laid_computus_gregorian_groups) ∈ l) : GTab W := by
  refine ⟨?_, ?_⟩
  · obtain ⟨g, t, cs, fuel, p, hg, hty, hvar, hd⟩ := Lib.laidMet.reads h hm
    obtain rfl := Option.some.inj (gGLen.symm.trans hg)
    obtain rfl := Option.some.inj (tGLen.symm.trans hty)
    have hcs : cs.toList = lens.map (Value.int .i64) := ints_of_array (k := .i64) (bs := lens) Tryd.underlying3 Tryd.underlying58 cellsI cellsL rfl hd
    obtain ⟨t', fr, hrow⟩ := row_of_var gGLen hvar
    exact fun i hi => glens_cells hcs hrow i hi
  · obtain ⟨g, t, cs, fuel, p, hg, hty, hvar, hd⟩ := Lib.laidMet.reads h hm2
    obtain rfl := Option.some.inj (gGGrp.symm.trans hg)
    obtain rfl := Option.some.inj (tGGrp.symm.trans hty)
    obtain ⟨_, d0, q0, e0, h0⟩ := Lib.array_elem Tryd.underlying61 hd 0 (by omega)
    obtain ⟨_, d1, q1, e1, h1⟩ := Lib.array_elem Tryd.underlying61 hd 1 (by omega)
    obtain ⟨_, d2, q2, e2, h2⟩ := Lib.array_elem Tryd.underlying61 hd 2 (by omega)
    obtain ⟨_, d3, q3, e3, h3⟩ := Lib.array_elem Tryd.underlying61 hd 3 (by omega)
    cases e0; cases e1; cases e2; cases e3
    rw [cellsG] at h0 h1 h2 h3
    have k0 := three_of h0
    have k1 := three_of h1
    have k2 := three_of h2
    have k3 := three_of h3
    have hl : cs.toList.length = 12 := by
      cases fuel with
      | zero => simp [DataW.trod] at hd
      | succ fuel =>
        simp only [DataW.trod, Tryd.underlying61] at hd
        split at hd
        · rename_i hl; rw [hl, cellsGs]
        · cases hd
    have hcs : cs = grp := by
      rw [← Array.toList_inj]
      have e1 := (List.take_append_drop 3 cs.toList).symm
      have e2 := (List.take_append_drop 3 (cs.toList.drop 3)).symm
      have e3 := (List.take_append_drop 3 (cs.toList.drop 6)).symm
      have e4 : (cs.toList.drop 9).take 3 = cs.toList.drop 9 := List.take_of_length_le (by rw [List.length_drop, hl]; omega)
      rw [List.drop_drop] at e2 e3
      rw [e1, e2, e3, ← e4]
      simp only [Nat.zero_mul, List.drop_zero, Nat.one_mul, show 2 * 3 = 6 from rfl, show 3 * 3 = 9 from rfl] at k0 k1 k2 k3
      rw [show 3 + 3 = 6 from rfl, show 6 + 3 = 9 from rfl] at *
      rw [k0, k1, k2, k3]
      rfl
    subst hcs
    unfold World.var? at hvar
    rw [gGGrp, Option.bind_some] at hvar
    split at hvar
    · rename_i cs' t' fr' heq
      cases hvar
      exact ⟨_, _, heq⟩
    · cases hvar
end Go.Proofs.YtclnpnkjldddcaaDoor
