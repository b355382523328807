/- Package ordotext: the words, an identifier, the closures that read an entry's parts. -/
import Derived.Test.YtkhicgafhbecfaaGreatDoorEg
import Derived.Test.YtkhicgafhbecfaaGreatDoorP2
import Derived.Test.YtkhicgafhbecfaaGreatDoorM6
import Derived.Deep.RegionHeld3
namespace Go.Proofs.YtkhicgafhbecfaaGreatDoor
open Go.RowKit

abbrev bxQ (b : Nat) : Obj := .cells #[xp b] 47
/-- Every block but two is as it was. -/
structure B2 (b q : Nat) (w w' : World) : Prop where
  os : w'.os = w.os
  tape : w'.tape = w.tape
  output : w'.output = w.output
  size : w.heap.size ≤ w'.heap.size
  block : ∀ j, j < w.heap.size → j ≠ b → j ≠ q → w'.heap[j]? = w.heap[j]?
theorem B2.refl (b q : Nat) (w : World) : B2 b q w w := ⟨rfl, rfl, rfl, Nat.le_refl _, fun _ _ _ _ => rfl⟩
theorem B2.trans {b q : Nat} {w w' w'' : World} (h : B2 b q w w') (h' : B2 b q w' w'') : B2 b q w w'' :=
  ⟨h'.os.trans h.os, h'.tape.trans h.tape, h'.output.trans h.output, Nat.le_trans h.size h'.size, fun j h1 h2 h3 => (h'.block j (Nat.lt_of_lt_of_le h1 h.size) h2 h3).trans (h.block j h1 h2 h3)⟩
theorem B2.bt {b q : Nat} {w w' : World} (h : Bt b w w') : B2 b q w w' := ⟨h.os, h.tape, h.output, h.size, fun j h1 h2 _ => h.block j h1 h2⟩
theorem B2.bq {b q : Nat} {w w' : World} (h : Bt q w w') : B2 b q w w' := ⟨h.os, h.tape, h.output, h.size, fun j h1 _ h3 => h.block j h1 h3⟩
theorem B2.bl {b q : Nat} {w w' : World} (h : Below w.heap.size w w') : B2 b q w w' := .bt (.of_below h)
theorem B2.row {b q c : Nat} {o : Obj} {w w' : World} (h : B2 b q w w') (h1 : c ≠ b) (h2 : c ≠ q) (hr : w.heap[c]? = some o) : w'.heap[c]? = some o := by
  rw [h.block c (row_lt hr) h1 h2]; exact hr
theorem B2.out {b q : Nat} {w u u' : World} (h : Bt b w u) (h' : B2 b q u u') (hq : w.heap.size ≤ q) : Bt b w u' :=
  ⟨h'.os.trans h.os, h'.tape.trans h.tape, h'.output.trans h.output, Nat.le_trans h.size h'.size, fun j h1 h2 => (h'.block j (Nat.lt_of_lt_of_le h1 h.size) h2 (by omega)).trans (h.block j h1 h2)⟩
theorem WTab.b2 {b q : Nat} {w w' : World} (h : WTab w) (hb : B2 b q w w') (h1 : 0 ≠ b) (h2 : 0 ≠ q) : WTab w' := by
  obtain ⟨tt, fr, te⟩ := h.row
  exact ⟨⟨tt, fr, by rw [hb.block _ h.heap h1 h2]; exact te⟩⟩
/-! words -/
theorem kw27 (w : World) : Calls Tryz.prog 65 #[] w fun e w' => e = .returned (.slice (some ⟨w.heap.size, 0, none⟩) 3 3) ∧ StrsIn w.heap.size 3 lKi w' ∧ Below w.heap.size w w' := by
  go_enter Tryz.func65, Tryz.ntmps65
  go_wp2_with fail
  go_ret
  exact ⟨rfl, lit3 _ _ _ _, al1 w _⟩
theorem nm_lit : nm 0 = ⟨#[115, 117, 110, 100, 97, 121]⟩ ∧ nm 1 = ⟨#[109, 111, 110, 100, 97, 121]⟩ ∧ nm 2 = ⟨#[116, 117, 101, 115, 100, 97, 121]⟩ ∧ nm 3 = ⟨#[119, 101, 100, 110, 101, 115, 100, 97, 121]⟩ ∧ nm 4 = ⟨#[116, 104, 117, 114, 115, 100, 97, 121]⟩ ∧ nm 5 = ⟨#[102, 114, 105, 100, 97, 121]⟩ ∧ nm 6 = ⟨#[115, 97, 116, 117, 114, 100, 97, 121]⟩ := by decide +kernel
theorem ww_row {g : Nat} {w : World} {t : TypeId} (h : w.heap[g]? = some (.cells #[.string ⟨#[115, 117, 110, 100, 97, 121]⟩, .string ⟨#[109, 111, 110, 100, 97, 121]⟩, .string ⟨#[116, 117, 101, 115, 100, 97, 121]⟩, .string ⟨#[119, 101, 100, 110, 101, 115, 100, 97, 121]⟩, .string ⟨#[116, 104, 117, 114, 115, 100, 97, 121]⟩, .string ⟨#[102, 114, 105, 100, 97, 121]⟩, .string ⟨#[115, 97, 116, 117, 114, 100, 97, 121]⟩] t (0, 0))) : StrsIn g 7 lWd w :=
  ⟨row_lt h, by decide, by decide, fun i hi => by
    have : i = 0 ∨ i = 1 ∨ i = 2 ∨ i = 3 ∨ i = 4 ∨ i = 5 ∨ i = 6 := by have e : lWd.length = 7 := rfl; omega
    rcases this with rfl | rfl | rfl | rfl | rfl | rfl | rfl <;> (rw [cell_of_row _ _ _ _ _ _ h]; rfl)⟩
theorem mk7 (w : World) : ∃ w', (Instr.makeSlice 38 (.int .i64 7) (.int .i64 7)).run Tryz.prog w = .ok (.slice (some ⟨w.heap.size, 0, none⟩) 7 7) w' ∧ w'.heap[w.heap.size]? = some (.cells #[.string ⟨#[]⟩, .string ⟨#[]⟩, .string ⟨#[]⟩, .string ⟨#[]⟩, .string ⟨#[]⟩, .string ⟨#[]⟩, .string ⟨#[]⟩] 9 (0, 0)) ∧ Below w.heap.size w w' := by
  obtain ⟨i0, hi, hz0, hz1, hz2⟩ := info_parts infoStr
  obtain ⟨w', hrun, r1, r2⟩ := run_make_full (P := Tryz.prog) w w.heap.size 38 9 i0 (.string ⟨#[]⟩) 1 Tryz.underlying38 hi hz0 hz1 .i64 .i64 7 (by rw [hz2]; omega) (by unfold maxLen; omega) (Nat.le_refl _)
  refine ⟨w', hrun, ?_, (Below.refl _ _).grown r2 (Nat.le_refl _) (fun _ e => by cases e)⟩
  rcases r1.2 with ⟨e, _⟩ | ⟨g, cap, cur, e, hb, hg, hnc, hcm, hcs, htake⟩
  · exact absurd e (by simp)
  · simp only [Value.slice.injEq, Option.some.injEq, Addr.mk.injEq] at e
    obtain ⟨⟨e1, _⟩, _, e3⟩ := e
    subst e3
    rw [e1, hg]
    have h7 : cur.toList.length = 7 := by rw [Array.length_toList, hcs]
    rw [List.take_of_length_le (by omega)] at htake
    have : cur = #[.string ⟨#[]⟩, .string ⟨#[]⟩, .string ⟨#[]⟩, .string ⟨#[]⟩, .string ⟨#[]⟩, .string ⟨#[]⟩, .string ⟨#[]⟩] := by
      rw [← Array.toList_inj, htake, show (Value.string ⟨#[]⟩).cells = #[Value.string ⟨#[]⟩] from rfl, Nat.mul_one, toList_madeCells_one]; rfl
    rw [this]
set_option maxRecDepth 100000 in
set_option maxHeartbeats 1000000 in
theorem ww27 (w : World) (hT : WTab w) : Calls Tryz.prog 92 #[] w fun e w' => e = .returned (.slice (some ⟨w.heap.size, 0, none⟩) 7 7) ∧ StrsIn w.heap.size 7 lWd w' ∧ Below w.heap.size w w' := by
  obtain ⟨n0, n1, n2, n3, n4, n5, n6⟩ := nm_lit
  have H0 := Lib.hid (fun (u : World) (h : WTab u) => name_any 0 u h)
  rw [n0] at H0
  have H1 := Lib.hid (fun (u : World) (h : WTab u) => name_any 1 u h)
  rw [n1] at H1
  have H2 := Lib.hid (fun (u : World) (h : WTab u) => name_any 2 u h)
  rw [n2] at H2
  have H3 := Lib.hid (fun (u : World) (h : WTab u) => name_any 3 u h)
  rw [n3] at H3
  have H4 := Lib.hid (fun (u : World) (h : WTab u) => name_any 4 u h)
  rw [n4] at H4
  have H5 := Lib.hid (fun (u : World) (h : WTab u) => name_any 5 u h)
  rw [n5] at H5
  have H6 := Lib.hid (fun (u : World) (h : WTab u) => name_any 6 u h)
  rw [n6] at H6
  clear n0 n1 n2 n3 n4 n5 n6
  obtain ⟨u0, hmk, r0, b0⟩ := mk7 w
  have t0 := hT.on b0
  have hlt := hT.heap
  have hT := Lib.hid hT
  generalize hg : w.heap.size = g at *
  clear hg
  go_enter Tryz.func92, Tryz.ntmps92
  go_wp2_with fail
  clear hmk
  refine wp_loop_rounds 8 ?_
  rw [rounds_succ]
  have c0 : u0.cell? ⟨g, 0, none⟩ = some (.string ⟨#[]⟩) := by rw [cell_of_row _ _ _ _ _ _ r0]; rfl
  have f0 : u0.frozen? ⟨g, 0, none⟩ = false := frozen_of_row _ _ _ _ _ r0
  go_wp2_with fail
  refine (H0.out u0 t0).mono ?_
  rintro e w' ⟨rfl, rfl⟩
  go_wp2_with fail
  have r1 : (u0.setCell ⟨g, 0, none⟩ (.string ⟨#[115, 117, 110, 100, 97, 121]⟩)).heap[g]? = some (.cells #[.string ⟨#[115, 117, 110, 100, 97, 121]⟩, .string ⟨#[]⟩, .string ⟨#[]⟩, .string ⟨#[]⟩, .string ⟨#[]⟩, .string ⟨#[]⟩, .string ⟨#[]⟩] 9 (0, 0)) := heap_setCell_same _ g 0 _ _ _ r0
  have b1 := b0.setCell (p := ⟨g, 0, none⟩) (Nat.le_refl g) (.string ⟨#[115, 117, 110, 100, 97, 121]⟩)
  have t1 := hT.out.below b1 hlt
  generalize u0.setCell ⟨g, 0, none⟩ (.string ⟨#[115, 117, 110, 100, 97, 121]⟩) = u1 at *
  clear c0 f0
  rw [rounds_succ]
  have c1 : u1.cell? ⟨g, 1, none⟩ = some (.string ⟨#[]⟩) := by rw [cell_of_row _ _ _ _ _ _ r1]; rfl
  have f1 : u1.frozen? ⟨g, 1, none⟩ = false := frozen_of_row _ _ _ _ _ r1
  go_wp2_with fail
  refine (H1.out u1 t1).mono ?_
  rintro e w' ⟨rfl, rfl⟩
  go_wp2_with fail
  have r2 : (u1.setCell ⟨g, 1, none⟩ (.string ⟨#[109, 111, 110, 100, 97, 121]⟩)).heap[g]? = some (.cells #[.string ⟨#[115, 117, 110, 100, 97, 121]⟩, .string ⟨#[109, 111, 110, 100, 97, 121]⟩, .string ⟨#[]⟩, .string ⟨#[]⟩, .string ⟨#[]⟩, .string ⟨#[]⟩, .string ⟨#[]⟩] 9 (0, 0)) := heap_setCell_same _ g 1 _ _ _ r1
  have b2 := b1.setCell (p := ⟨g, 1, none⟩) (Nat.le_refl g) (.string ⟨#[109, 111, 110, 100, 97, 121]⟩)
  have t2 := hT.out.below b2 hlt
  generalize u1.setCell ⟨g, 1, none⟩ (.string ⟨#[109, 111, 110, 100, 97, 121]⟩) = u2 at *
  clear c1 f1
  rw [rounds_succ]
  have c2 : u2.cell? ⟨g, 2, none⟩ = some (.string ⟨#[]⟩) := by rw [cell_of_row _ _ _ _ _ _ r2]; rfl
  have f2 : u2.frozen? ⟨g, 2, none⟩ = false := frozen_of_row _ _ _ _ _ r2
  go_wp2_with fail
  refine (H2.out u2 t2).mono ?_
  rintro e w' ⟨rfl, rfl⟩
  go_wp2_with fail
  have r3 : (u2.setCell ⟨g, 2, none⟩ (.string ⟨#[116, 117, 101, 115, 100, 97, 121]⟩)).heap[g]? = some (.cells #[.string ⟨#[115, 117, 110, 100, 97, 121]⟩, .string ⟨#[109, 111, 110, 100, 97, 121]⟩, .string ⟨#[116, 117, 101, 115, 100, 97, 121]⟩, .string ⟨#[]⟩, .string ⟨#[]⟩, .string ⟨#[]⟩, .string ⟨#[]⟩] 9 (0, 0)) := heap_setCell_same _ g 2 _ _ _ r2
  have b3 := b2.setCell (p := ⟨g, 2, none⟩) (Nat.le_refl g) (.string ⟨#[116, 117, 101, 115, 100, 97, 121]⟩)
  have t3 := hT.out.below b3 hlt
  generalize u2.setCell ⟨g, 2, none⟩ (.string ⟨#[116, 117, 101, 115, 100, 97, 121]⟩) = u3 at *
  clear c2 f2
  rw [rounds_succ]
  have c3 : u3.cell? ⟨g, 3, none⟩ = some (.string ⟨#[]⟩) := by rw [cell_of_row _ _ _ _ _ _ r3]; rfl
  have f3 : u3.frozen? ⟨g, 3, none⟩ = false := frozen_of_row _ _ _ _ _ r3
  go_wp2_with fail
  refine (H3.out u3 t3).mono ?_
  rintro e w' ⟨rfl, rfl⟩
  go_wp2_with fail
  have r4 : (u3.setCell ⟨g, 3, none⟩ (.string ⟨#[119, 101, 100, 110, 101, 115, 100, 97, 121]⟩)).heap[g]? = some (.cells #[.string ⟨#[115, 117, 110, 100, 97, 121]⟩, .string ⟨#[109, 111, 110, 100, 97, 121]⟩, .string ⟨#[116, 117, 101, 115, 100, 97, 121]⟩, .string ⟨#[119, 101, 100, 110, 101, 115, 100, 97, 121]⟩, .string ⟨#[]⟩, .string ⟨#[]⟩, .string ⟨#[]⟩] 9 (0, 0)) := heap_setCell_same _ g 3 _ _ _ r3
  have b4 := b3.setCell (p := ⟨g, 3, none⟩) (Nat.le_refl g) (.string ⟨#[119, 101, 100, 110, 101, 115, 100, 97, 121]⟩)
  have t4 := hT.out.below b4 hlt
  generalize u3.setCell ⟨g, 3, none⟩ (.string ⟨#[119, 101, 100, 110, 101, 115, 100, 97, 121]⟩) = u4 at *
  clear c3 f3
  rw [rounds_succ]
  have c4 : u4.cell? ⟨g, 4, none⟩ = some (.string ⟨#[]⟩) := by rw [cell_of_row _ _ _ _ _ _ r4]; rfl
  have f4 : u4.frozen? ⟨g, 4, none⟩ = false := frozen_of_row _ _ _ _ _ r4
  go_wp2_with fail
  refine (H4.out u4 t4).mono ?_
  rintro e w' ⟨rfl, rfl⟩
  go_wp2_with fail
  have r5 : (u4.setCell ⟨g, 4, none⟩ (.string ⟨#[116, 104, 117, 114, 115, 100, 97, 121]⟩)).heap[g]? = some (.cells #[.string ⟨#[115, 117, 110, 100, 97, 121]⟩, .string ⟨#[109, 111, 110, 100, 97, 121]⟩, .string ⟨#[116, 117, 101, 115, 100, 97, 121]⟩, .string ⟨#[119, 101, 100, 110, 101, 115, 100, 97, 121]⟩, .string ⟨#[116, 104, 117, 114, 115, 100, 97, 121]⟩, .string ⟨#[]⟩, .string ⟨#[]⟩] 9 (0, 0)) := heap_setCell_same _ g 4 _ _ _ r4
  have b5 := b4.setCell (p := ⟨g, 4, none⟩) (Nat.le_refl g) (.string ⟨#[116, 104, 117, 114, 115, 100, 97, 121]⟩)
  have t5 := hT.out.below b5 hlt
  generalize u4.setCell ⟨g, 4, none⟩ (.string ⟨#[116, 104, 117, 114, 115, 100, 97, 121]⟩) = u5 at *
  clear c4 f4
  rw [rounds_succ]
  have c5 : u5.cell? ⟨g, 5, none⟩ = some (.string ⟨#[]⟩) := by rw [cell_of_row _ _ _ _ _ _ r5]; rfl
  have f5 : u5.frozen? ⟨g, 5, none⟩ = false := frozen_of_row _ _ _ _ _ r5
  go_wp2_with fail
  refine (H5.out u5 t5).mono ?_
  rintro e w' ⟨rfl, rfl⟩
  go_wp2_with fail
  have r6 : (u5.setCell ⟨g, 5, none⟩ (.string ⟨#[102, 114, 105, 100, 97, 121]⟩)).heap[g]? = some (.cells #[.string ⟨#[115, 117, 110, 100, 97, 121]⟩, .string ⟨#[109, 111, 110, 100, 97, 121]⟩, .string ⟨#[116, 117, 101, 115, 100, 97, 121]⟩, .string ⟨#[119, 101, 100, 110, 101, 115, 100, 97, 121]⟩, .string ⟨#[116, 104, 117, 114, 115, 100, 97, 121]⟩, .string ⟨#[102, 114, 105, 100, 97, 121]⟩, .string ⟨#[]⟩] 9 (0, 0)) := heap_setCell_same _ g 5 _ _ _ r5
  have b6 := b5.setCell (p := ⟨g, 5, none⟩) (Nat.le_refl g) (.string ⟨#[102, 114, 105, 100, 97, 121]⟩)
  have t6 := hT.out.below b6 hlt
  generalize u5.setCell ⟨g, 5, none⟩ (.string ⟨#[102, 114, 105, 100, 97, 121]⟩) = u6 at *
  clear c5 f5
  rw [rounds_succ]
  have c6 : u6.cell? ⟨g, 6, none⟩ = some (.string ⟨#[]⟩) := by rw [cell_of_row _ _ _ _ _ _ r6]; rfl
  have f6 : u6.frozen? ⟨g, 6, none⟩ = false := frozen_of_row _ _ _ _ _ r6
  go_wp2_with fail
  refine (H6.out u6 t6).mono ?_
  rintro e w' ⟨rfl, rfl⟩
  go_wp2_with fail
  have r7 : (u6.setCell ⟨g, 6, none⟩ (.string ⟨#[115, 97, 116, 117, 114, 100, 97, 121]⟩)).heap[g]? = some (.cells #[.string ⟨#[115, 117, 110, 100, 97, 121]⟩, .string ⟨#[109, 111, 110, 100, 97, 121]⟩, .string ⟨#[116, 117, 101, 115, 100, 97, 121]⟩, .string ⟨#[119, 101, 100, 110, 101, 115, 100, 97, 121]⟩, .string ⟨#[116, 104, 117, 114, 115, 100, 97, 121]⟩, .string ⟨#[102, 114, 105, 100, 97, 121]⟩, .string ⟨#[115, 97, 116, 117, 114, 100, 97, 121]⟩] 9 (0, 0)) := heap_setCell_same _ g 6 _ _ _ r6
  have b7 := b6.setCell (p := ⟨g, 6, none⟩) (Nat.le_refl g) (.string ⟨#[115, 97, 116, 117, 114, 100, 97, 121]⟩)
  have t7 := hT.out.below b7 hlt
  generalize u6.setCell ⟨g, 6, none⟩ (.string ⟨#[115, 97, 116, 117, 114, 100, 97, 121]⟩) = u7 at *
  clear c6 f6
  rw [rounds_succ]
  go_wp2_with fail
  go_ret
  exact ⟨rfl, ww_row r7, b7⟩
end Go.Proofs.YtkhicgafhbecfaaGreatDoor
