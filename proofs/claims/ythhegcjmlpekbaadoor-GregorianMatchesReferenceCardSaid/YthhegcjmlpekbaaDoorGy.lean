/- What the rows' condition gives: the tables of package gregorian read as the program's text lays them; and a start that meets it. -/
import Derived.Test.YthhegcjmlpekbaaDoorRows
import Derived.Test.YthhegcjmlpekbaaDoorGa
import Derived.LaidMore
import Derived.Stop.Joined
import Derived.Lib.LaidU8
namespace Go.Proofs.YthhegcjmlpekbaaDoor
theorem own : ownKnob Tryd.prog.godebug = none := by kernel_rfl
theorem gGLen : Tryd.prog.globalNamed "computus/gregorian.lengths" = some 0 := by kernel_rfl
theorem gGGrp : Tryd.prog.globalNamed "computus/gregorian.groups" = some 1 := by kernel_rfl
theorem tGLen : (Tryd.prog.globals[0]?).map (·.type) = some 46 := by kernel_rfl
theorem tGGrp : (Tryd.prog.globals[1]?).map (·.type) = some 48 := by kernel_rfl
theorem cellsL : Tryd.prog.cellsOf 46 = 12 := by kernel_rfl
theorem cellsI : Tryd.prog.cellsOf 3 = 1 := by kernel_rfl
theorem cellsG : Tryd.prog.cellsOf 47 = 3 := by kernel_rfl
theorem cellsGs : Tryd.prog.cellsOf 48 = 12 := by kernel_rfl
abbrev laidL : List (String × DataW Unit) := [("computus/gregorian.lengths", Rows.laid_computus_gregorian_lengths), ("computus/gregorian.groups", Rows.laid_computus_gregorian_groups)]
theorem door_met (os : Os) (args : Array Value) : laidMetH Tryd.prog laidL ((World.doorLaid Tryd.prog 400 os).forCall (fun _ _ => 0) ⟨#[], args, []⟩).memory :=
  laidMetH_of_parts3 (fuel := 8) (laidMet_of_run' 8 (by kernel_rfl) (by kernel_rfl)) (by kernel_rfl) (by kernel_rfl)
/-- A row of three integers. -/
theorem three_of {H : Type} {enc : TypeId × Value → H} {w : World} {base : Nat} {sp : Nat → Bool} {held : Bool} {fuel : Nat} {cs : List Value} {x y z : Int} {p : List MemPlace}
    (h : DataW.trod enc Tryd.prog w base sp held fuel 47 cs = some (.agg [.lit (.int .i64 x), .lit (.int .i64 y), .lit (.int .i64 z)], p)) : cs = [.int .i64 x, .int .i64 y, .int .i64 z] :=
  Lib.ints_of_struct (k := .i64) (zs := [x, y, z]) Tryd.underlying47 (fun j f hj => by
    match j, hj with
    | 0, hj => simp at hj; subst hj; exact ⟨Tryd.underlying3, rfl, cellsI⟩
    | 1, hj => simp at hj; subst hj; exact ⟨Tryd.underlying3, rfl, cellsI⟩
    | 2, hj => simp at hj; subst hj; exact ⟨Tryd.underlying3, rfl, cellsI⟩
    | j + 3, hj => simp at hj) (by rw [cellsG]; rfl) h
theorem laid_facts {W : World} (h : laidMetH Tryd.prog laidL W) : GTab W := by
  rw [MakeChecks.laidMetH_plain _ _ _ (by kernel_rfl)] at h
  refine ⟨?_, ?_⟩
  · have hT : Lib.TabIs Tryd.prog W "computus/gregorian.lengths" .i64 lens := Lib.tabIs_of_head gGLen tGLen Tryd.underlying46 Tryd.underlying3 cellsI cellsL h
    exact fun i hi => hT.cell gGLen i hi
  · obtain ⟨g, t, cs, fuel, p, hg, hty, hvar, hd⟩ := Lib.laidMet.reads h (.tail _ (.head _))
    obtain rfl := Option.some.inj (gGGrp.symm.trans hg)
    obtain rfl := Option.some.inj (tGGrp.symm.trans hty)
    obtain ⟨_, d0, q0, e0, h0⟩ := Lib.array_elem Tryd.underlying48 hd 0 (by omega)
    obtain ⟨_, d1, q1, e1, h1⟩ := Lib.array_elem Tryd.underlying48 hd 1 (by omega)
    obtain ⟨_, d2, q2, e2, h2⟩ := Lib.array_elem Tryd.underlying48 hd 2 (by omega)
    obtain ⟨_, d3, q3, e3, h3⟩ := Lib.array_elem Tryd.underlying48 hd 3 (by omega)
    cases e0; cases e1; cases e2; cases e3
    rw [cellsG] at h0 h1 h2 h3
    have k0 := three_of h0
    have k1 := three_of h1
    have k2 := three_of h2
    have k3 := three_of h3
    have hl : cs.toList.length = 12 := by
      cases fuel with
      | zero => simp [DataW.trod] at hd
      | succ fuel =>
        simp only [DataW.trod, Tryd.underlying48] at hd
        split at hd
        · rename_i hl; rw [hl, cellsGs]
        · cases hd
    have hcs : cs = grp := by
      rw [← Array.toList_inj]
      have e1 := (List.take_append_drop 3 cs.toList).symm
      have e2 := (List.take_append_drop 3 (cs.toList.drop 3)).symm
      have e3 := (List.take_append_drop 3 (cs.toList.drop 6)).symm
      have e4 : (cs.toList.drop 9).take 3 = cs.toList.drop 9 := List.take_of_length_le (by rw [List.length_drop, hl]; omega)
      rw [List.drop_drop] at e2 e3
      rw [e1, e2, e3, ← e4]
      simp only [Nat.zero_mul, List.drop_zero, Nat.one_mul, show 2 * 3 = 6 from rfl, show 3 * 3 = 9 from rfl] at k0 k1 k2 k3
      rw [show 3 + 3 = 6 from rfl, show 6 + 3 = 9 from rfl] at *
      rw [k0, k1, k2, k3]
      rfl
    subst hcs
    unfold World.var? at hvar
    rw [gGGrp, Option.bind_some] at hvar
    split at hvar
    · rename_i cs' t' fr' heq
      cases hvar
      exact ⟨_, _, heq⟩
    · cases hvar
end Go.Proofs.YthhegcjmlpekbaaDoor
