/- What earlier stages proved: Xd Xe. -/
import Derived.Test.YtiegddohgjofbaaL1
import Derived.Laws.Rows
import Derived.Laws.Tables
import Derived.Laws.ResultCell
import Derived.Deep.WholeRow
import Derived.Deep.RegionWith
namespace Go.Proofs.Ytiegddohgjofbaa
open Go.RowKit

section
variable {P : Program} {ops : Array Oper} {rest : List Oper} {o : Oper} {a : Act} {w : World} {Q : Exit → Act → World → Prop}
theorem built_as (hg : o.guard = none) (t : TypeId) (parts : Array (Nat × Operand)) (ho : o.op = .build t parts) (cells : Array Value)
    (hf : P.built t (parts.map fun (i, x) => (i, a.eval x)).toList = some cells) (h : wpList P ops Q rest (a.put o.dst (.agg cells)) w) : wpList P ops Q (o :: rest) a w :=
  wpList_build hg t parts ho (by rw [hf]; rfl) (by rw [hf]; exact h)
theorem store_fresh (hgd : o.guard = none) (ty : TypeId) (x y : Operand) (ho : o.op = .store ty x y)
    (cells : Array Value) (t : TypeId) (old : Array Value) (hx : a.eval x = .pointer (some ⟨w.heap.size, 0, none⟩)) (hy : a.eval y = .agg cells)
    (hi : (P.info? ty).map (·.size) = some cells.size) (hold : old.size = cells.size) (h1 : cells.all (·.oneCell') = true)
    (h : wpList P ops Q rest (a.put o.dst undef) (w.alloc (.cells cells t))) : wpList P ops Q (o :: rest) a (w.alloc (.cells old t)) :=
  wpList_store_row hgd ty x y ho w.heap.size cells hx hy t old (heap_alloc_new w _) hi hold h1 (by rw [World.setRow_alloc_new]; exact h)
end
def sRow : Array Value := (flat9 bSs).toArray
def fRow : Array Value := (flat9 bFs).toArray
theorem row_one (l : List Itm) : (flat9 l).toArray.all (·.oneCell') = true := by
  rw [Array.all_eq_true_iff_forall_mem]
  intro v hv
  exact flat9_one l v (by simpa using hv)
theorem sRow_one : sRow.all (·.oneCell') = true := row_one _
theorem fRow_one : fRow.all (·.oneCell') = true := row_one _
set_option maxRecDepth 100000 in
theorem infoSR : (Try.prog.info? 41).map (·.size) = some sRow.size := by kernel_rfl
set_option maxRecDepth 100000 in
theorem infoFR : (Try.prog.info? 43).map (·.size) = some fRow.size := by kernel_rfl
def zItm : Itm := ⟨⟨#[]⟩, 0, 0, 0, 0, 0, 0, 0, 0⟩
def zsRow : Array Value := (flat9 (List.replicate 8 zItm)).toArray
def zfRow : Array Value := (flat9 (List.replicate 25 zItm)).toArray
set_option maxRecDepth 100000 in
theorem zinfoSR (w : World) : (zeroValue 41).run Try.prog w = .ok (.agg zsRow) w := (zero_of_info (n := 72) (by kernel_rfl)).1 w
set_option maxRecDepth 100000 in
theorem zinfoFR (w : World) : (zeroValue 43).run Try.prog w = .ok (.agg zfRow) w := (zero_of_info (n := 225) (by kernel_rfl)).1 w
set_option maxHeartbeats 4000000 in
set_option maxRecDepth 100000 in
theorem p24st_any (W : World) : Calls Try.prog 12 #[] W fun e w' => e = .returned (.agg sRow) ∧ Below W.heap.size W w' := by
  have hz : ∀ w, (zeroValue 41).run Try.prog w = .ok (.agg zsRow) w := zinfoSR
  go_enter Try.func12, Try.ntmps12
  go_wp2_with (first | refine built_as rfl 41 _ rfl sRow (by kernel_rfl) ?_ | refine store_fresh rfl 41 _ _ rfl sRow _ zsRow rfl rfl infoSR (by kernel_rfl) sRow_one ?_)
  exact bodyPost_ret (v := .agg sRow) (by exact results_cell_row rfl _ _ W.heap.size 41 sRow (0, 0) _ rfl (heap_alloc_new W _) Try.underlying41 rfl infoSR) rfl ⟨rfl, (Below.refl _ _).alloc (Nat.le_refl _) _⟩
set_option maxHeartbeats 4000000 in
set_option maxRecDepth 100000 in
theorem p24ft_any (W : World) : Calls Try.prog 13 #[] W fun e w' => e = .returned (.agg fRow) ∧ Below W.heap.size W w' := by
  have hz : ∀ w, (zeroValue 43).run Try.prog w = .ok (.agg zfRow) w := zinfoFR
  go_enter Try.func13, Try.ntmps13
  go_wp2_with (first | refine built_as rfl 43 _ rfl fRow (by kernel_rfl) ?_ | refine store_fresh rfl 43 _ _ rfl fRow _ zfRow rfl rfl infoFR (by kernel_rfl) fRow_one ?_)
  exact bodyPost_ret (v := .agg fRow) (by exact results_cell_row rfl _ _ W.heap.size 43 fRow (0, 0) _ rfl (heap_alloc_new W _) Try.underlying43 rfl infoFR) rfl ⟨rfl, (Below.refl _ _).alloc (Nat.le_refl _) _⟩
end Go.Proofs.Ytiegddohgjofbaa

namespace Go.Proofs.Ytiegddohgjofbaa
open Go.RowKit

abbrev sObj : Obj := .cells sRow 41 (0, 0)
abbrev fObj : Obj := .cells fRow 43 (0, 0)
theorem below_rowx {W u : World} (h : Below W.heap.size W u) {b : Nat} (hb : W.heap.size ≤ b) (cs : Array Value) : Below W.heap.size W (u.setRow b cs) :=
  ⟨by rw [setRow_os]; exact h.os, by rw [setRow_tape]; exact h.tape, by rw [setRow_output]; exact h.output, by rw [setRow_size]; exact h.size, fun k hk => by rw [setRow_other _ _ _ _ (by omega)]; exact h.block k hk⟩
/-- The catalogue in new memory: its two arrays lie at b and b'. -/
structure New24 (B b b' : Nat) (w : World) : Prop where
  lo : B ≤ b
  lt : b < b'
  s : w.heap[b]? = some sObj
  f : w.heap[b']? = some fObj
theorem New24.on {B b b' : Nat} {w w' : World} (h : New24 B b b' w) (hb : Below w.heap.size w w') : New24 B b b' w' := ⟨h.lo, h.lt, row_on h.s hb, row_on h.f hb⟩
abbrev catv (b b' : Nat) : Value := .agg #[.int .i64 5, .slice (some ⟨b, 0, none⟩) 8 8, .slice (some ⟨b', 0, none⟩) 25 25]
set_option maxHeartbeats 2000000 in
set_option maxRecDepth 100000 in
theorem p24cat_any (W : World) : Calls Try.prog 6 #[] W fun e w' => ∃ b b', e = .returned (catv b b') ∧ New24 W.heap.size b b' w' ∧ Below W.heap.size W w' := by
  have hzS := zinfoSR
  have hzF := zinfoFR
  have B0 := Lib.hid ((Below.refl W.heap.size W).alloc (Nat.le_refl _) (catO 0 (.slice none 0 0) (.slice none 0 0)))
  have R0 := Lib.hid (heap_alloc_new W (catO 0 (.slice none 0 0) (.slice none 0 0)))
  go_enter Try.func6, Try.ntmps6
  go_wp2_with fail
  generalize hU : W.alloc (catO 0 (.slice none 0 0) (.slice none 0 0)) = u0 at *
  clear hU
  refine (p24st_any _).mono ?_
  rintro e w1 ⟨rfl, hb1⟩
  have B1 := Lib.hid (below_on B0.out hb1)
  have R1 := Lib.hid (row_on R0.out hb1)
  clear hb1
  go_wp2_with fail
  refine (p24ft_any _).mono ?_
  rintro e w2 ⟨rfl, hb2⟩
  have B2 := Lib.hid (below_on B1.out hb2)
  have R2 := Lib.hid (row_on R1.out hb2)
  have Z2 := Lib.hid (show W.heap.size < w2.heap.size from (Array.getElem?_eq_some_iff.1 R2.out).1)
  clear hb2
  go_wp2_with (first
    | refine wpList_store_row rfl 41 _ _ rfl w2.heap.size sRow rfl rfl _ zsRow (heap_alloc2_old _ _ _) infoSR (by kernel_rfl) sRow_one ?_
    | refine wpList_store_row rfl 43 _ _ rfl (w2.heap.size + 1) fRow rfl rfl _ zfRow (by rw [setRow_other _ _ _ _ (by omega)]; exact heap_alloc2_new _ _ _) infoFR (by kernel_rfl) fRow_one ?_)
  have B3 : Below W.heap.size W (((w2.alloc (.cells zsRow 41)).alloc (.cells zfRow 43)).setRow w2.heap.size sRow |>.setRow (w2.heap.size + 1) fRow) :=
    below_rowx (below_rowx ((B2.out.alloc B2.out.size _).alloc (by have := Z2.out; simp; omega) _) (Nat.le_of_lt Z2.out) _) (by have := Z2.out; omega) _
  have S3 : (((w2.alloc (.cells zsRow 41)).alloc (.cells zfRow 43)).setRow w2.heap.size sRow |>.setRow (w2.heap.size + 1) fRow).heap[w2.heap.size]? = some sObj := by
    rw [setRow_other _ _ _ _ (by omega)]; exact setRow_heap _ _ _ _ _ _ (heap_alloc2_old _ _ _)
  have F3 : (((w2.alloc (.cells zsRow 41)).alloc (.cells zfRow 43)).setRow w2.heap.size sRow |>.setRow (w2.heap.size + 1) fRow).heap[w2.heap.size + 1]? = some fObj :=
    setRow_heap _ _ _ _ _ _ (by rw [setRow_other _ _ _ _ (by omega)]; exact heap_alloc2_new _ _ _)
  have R3 : (((w2.alloc (.cells zsRow 41)).alloc (.cells zfRow 43)).setRow w2.heap.size sRow |>.setRow (w2.heap.size + 1) fRow).heap[W.heap.size]? = some (catO 0 (.slice none 0 0) (.slice none 0 0)) := by
    have := Z2.out
    rw [setRow_other _ _ _ _ (by omega), setRow_other _ _ _ _ (by omega)]; exact row_al (row_al R2.out _) _
  generalize (((w2.alloc (.cells zsRow 41)).alloc (.cells zfRow 43)).setRow w2.heap.size sRow |>.setRow (w2.heap.size + 1) fRow) = Y at *
  obtain ⟨r0, r1, r2, g0, g1, g2, rz⟩ := row3 R3
  go_wp2_with fail
  go_region
  generalize hX : ((Y.setCell ⟨W.heap.size, 0, none⟩ (.int .i64 5)).setCell ⟨W.heap.size, 1, none⟩ (.slice (some ⟨w2.heap.size, 0, none⟩) 8 8)).setCell ⟨W.heap.size, 2, none⟩ (.slice (some ⟨w2.heap.size + 1, 0, none⟩) 25 25) = X
  obtain ⟨m0, m1, m2⟩ := three_set _ _ _ R3 hX
  have BX := below_dn (below_set3 B3 (Nat.le_refl _) _ _ _ hX) 1
  have z2 := Z2.out
  have SX : X.drew.heap[w2.heap.size]? = some sObj := by
    show X.heap[w2.heap.size]? = some sObj
    rw [← hX, heap_setCell_other _ _ _ _ (by simp; omega), heap_setCell_other _ _ _ _ (by simp; omega), heap_setCell_other _ _ _ _ (by simp; omega)]; exact S3
  have FX : X.drew.heap[w2.heap.size + 1]? = some fObj := by
    show X.heap[w2.heap.size + 1]? = some fObj
    rw [← hX, heap_setCell_other _ _ _ _ (by simp; omega), heap_setCell_other _ _ _ _ (by simp; omega), heap_setCell_other _ _ _ _ (by simp; omega)]; exact F3
  have m0' : X.drew.cell? ⟨W.heap.size, 0, none⟩ = some (.int .i64 5) := m0
  have m1' : X.drew.cell? ⟨W.heap.size, 1, none⟩ = some (.slice (some ⟨w2.heap.size, 0, none⟩) 8 8) := m1
  have m2' : X.drew.cell? ⟨W.heap.size, 2, none⟩ = some (.slice (some ⟨w2.heap.size + 1, 0, none⟩) 25 25) := m2
  clear r0 r1 r2 g0 g1 g2 rz R3 S3 F3 B3
  go_wp2_with fail
  exact bodyPost_ret (v := catv w2.heap.size (w2.heap.size + 1)) (by simp [results, Try.results6, go_sem, m0', m1', m2']) rfl ⟨_, _, rfl, ⟨Nat.le_of_lt z2, Nat.lt_succ_self _, SX, FX⟩, BX⟩
end Go.Proofs.Ytiegddohgjofbaa
