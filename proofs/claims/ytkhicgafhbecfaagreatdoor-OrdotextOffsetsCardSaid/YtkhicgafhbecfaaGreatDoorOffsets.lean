/- Proved: for every calendar and every 16-bit number, the law OrdotextOffsets of package computuslaw27 (a text that is cut off is rejected at its end, a text with a byte that never occurs at this byte) returns true, and what was in memory is as it was. No condition but the card's: the listed package variables hold what the program's text lays. -/
import Derived.Test.YtkhicgafhbecfaaGreatDoorHz
import Derived.Test.YtkhicgafhbecfaaGreatDoorVy
import Derived.WalkKit
import Derived.ProofKit
import Derived.OpenShut
import Derived.ShutString
import Derived.Lib.SmallJoins
import Derived.LaidMore
import Derived.Stop.Joined
import Derived.SevenTiedAt
import Derived.Test.YtkhicgafhbecfaaGreatDoorCards
import Derived.Test.YtkhicgafhbecfaaGreatDoorTie
namespace Go.Proofs.YtkhicgafhbecfaaGreatDoor.ordotextOffsets
open Go.ChangeShapes Go.WideShapes Go.ChangeAt Go.RowKit Go.Joins
open Go.ChangeMaps (open_string shut_string)
set_option linter.unusedVariables false      -- a walk need not use every fact


theorem row2z {w : World} {b t : Nat} {a0 a1 : Value} (h : w.heap[b]? = some (.cells #[a0, a1] t (0, 0))) :
    w.cell? ⟨b, 0, none⟩ = some a0 ∧ w.cell? ⟨b, 1, none⟩ = some a1 ∧ w.frozen? ⟨b, 0, none⟩ = false ∧ w.frozen? ⟨b, 1, none⟩ = false :=
  ⟨by rw [cell_of_row w b 0 _ _ _ h]; rfl, by rw [cell_of_row w b 1 _ _ _ h]; rfl, frozen_of_row w b 0 _ _ h, frozen_of_row w b 1 _ _ h⟩
set_option maxRecDepth 100000 in
set_option maxHeartbeats 4000000 in
theorem l27o_box (yr : Int) (l : List Enz) (A : Option Addr) (c : Nat) (a : Int) (ha : 0 ≤ a ∧ a ≤ 65535) (W : World) (hT : T26 W) (h : KlAt W (.slice A l.length c) l) :
    Calls Tryz.prog 6 #[.agg #[.int .i64 yr, .slice A l.length c], .int .u16 a] W fun e w' => e = .returned (.bool true) ∧ Below W.heap.size W w' := by
  have L0 := Lib.hid (KB.new (yr := yr) hT h)
  have HA := Lib.hid (fun (u : World) (h : T26 u) => c27awake_any u h)
  have HW := Lib.hid (fun (u : World) (h : KB W yr l A c u) => c27few (yr := yr) h.k)
  clear h
  obtain ⟨q0, q1⟩ := L0.out.cells
  go_enter Tryz.func6, Tryz.ntmps6
  go_wp2_with fail
  clear q0 q1
  refine (HA.out _ L0.out.t).mono ?_
  rintro e u1 ⟨rfl, hb⟩
  have L1 := Lib.hid (L0.out.on hb)
  clear hb
  obtain ⟨q0, q1⟩ := L1.out.cells
  go_wp2_with fail
  clear q0 q1
  refine (HW.out _ L1.out).mono ?_
  rintro e u2 ⟨hf, hb⟩
  have L2 := Lib.hid (L1.out.on hb)
  clear hb
  obtain ⟨q0, q1⟩ := L2.out.cells
  rcases hf with ⟨rfl, hf⟩ | rfl
  rotate_left
  · go_wp2_with fail
    clear q0 q1
    refine (HA.out _ L2.out.t).mono ?_
    rintro e u3 ⟨rfl, hb⟩
    have L3 := Lib.hid (L2.out.on hb)
    clear hb
    obtain ⟨q0, q1⟩ := L3.out.cells
    go_wp2_with fail
    go_ret
    exact ⟨rfl, L3.out.bl⟩
  obtain ⟨fi1, fi2⟩ := few_in hf
  have HR := Lib.hid (fun (u : World) (h : KB W yr l A c u) => r27prn_any (yr := yr) h.k fi1 fi2)
  have fok := fun ho => few_ok (yr := yr) hf ho
  clear fi2
  cases ho : okK ⟨yr, l.map Enz.e⟩
  · rw [ho] at HR
    clear fok ho
    go_wp2_with fail
    clear q0 q1
    refine (HR.out _ L2.out).mono ?_
    rintro e u3 ⟨rfl, hb⟩
    have L3 := Lib.hid (L2.out.on hb)
    clear hb
    obtain ⟨q0, q1⟩ := L3.out.cells
    go_wp2_with fail
    clear q0 q1
    refine (HA.out _ L3.out.t).mono ?_
    rintro e u4 ⟨rfl, hb⟩
    have L4 := Lib.hid (L3.out.on hb)
    clear hb
    obtain ⟨q0, q1⟩ := L4.out.cells
    go_wp2_with fail
    go_ret
    exact ⟨rfl, L4.out.bl⟩
  obtain ⟨oy, oz, ol, on⟩ := fok ho
  clear fok
  have HF := Lib.hid (fun (u : World) (h : KB W yr l A c u) => r27pri (yr := yr) h.k rfl ho hf.1 hf.2)
  obtain ⟨-, hl2⟩ := txK_last ⟨yr, l.map Enz.e⟩
  obtain ⟨m1, m2⟩ := few_n (yr := yr) hf
  have hx1 := fun (k : Nat) (hk : k < (txK ⟨yr, l.map Enz.e⟩).size) => kend_cut ho m1 m2 hk
  have hx2 := fun (k : Nat) (hk : k < (txK ⟨yr, l.map Enz.e⟩).size) (R : ByteArray) => kend_ex ho m1 m2 hk R
  clear m1 m2
  rw [ho] at HR
  generalize txK ⟨yr, l.map Enz.e⟩ = S at *
  clear ol on ho oy hf fi1
  obtain ⟨a, rfl⟩ : ∃ n : Nat, a = (n : Int) := ⟨a.toNat, by omega⟩
  have hlt : a % S.size < S.size := Nat.mod_lt _ (by omega)
  have wS : wEx.size = 1 := rfl
  have z1 : (S.extract 0 (a % S.size)).size = a % S.size := by rw [ext_size (by omega) (by omega)]; omega
  have z2 : (S.extract (a % S.size + 1) S.size).size = S.size - (a % S.size + 1) := by rw [ext_size (by omega) (by omega)]
  have HP1 := Lib.hid (fun (u : World) (h : T26 u) => p27bad (w := u) h (by omega) (hx1 _ hlt))
  have HP2 := Lib.hid (fun (u : World) (h : T26 u) => p27bad (w := u) h (by simp only [ByteArray.size_append]; omega) (hx2 _ hlt (S.extract (a % S.size + 1) S.size)))
  have am : (a : Int).tmod (S.size : Int) = ((a % S.size : Nat) : Int) := by rw [Int.tmod_eq_emod_of_nonneg (by omega)]; rfl
  have hne : ((S.size : Int) == 0) = false := beq_eq_false_iff_ne.2 (by omega)
  have cv : ∀ u : World, (convert 41 3 (.int .u16 (a : Int))).run Tryz.prog u = .ok (.int .i64 (a : Int)) u := fun u => by
    have : IntKind.i64.wrap (a : Int) = (a : Int) := by rw [IntKind.wrap_i64]; omega
    simp [go_sem, this]
  have r1 : ∀ u : World, (Instr.slice 9 (.string S) none (some (.int .i64 ((a % S.size : Nat) : Int))) none).run Tryz.prog u = .ok (.string (S.extract 0 (a % S.size))) u := fun u => by
    rw [run_slice_string_h u 9 S Tryz.underlying9 .i64 _ (by omega) (by omega)]; rfl
  have r2 : ∀ u : World, (Instr.slice 9 (.string S) (some (.int .i64 (((a % S.size : Nat) : Int) + 1))) none none).run Tryz.prog u = .ok (.string (S.extract (a % S.size + 1) S.size)) u := fun u => by
    rw [run_slice_string_from_if u 9 S .i64 _ Tryz.underlying9, if_pos ⟨by omega, by omega⟩]; rfl
  have wk : IntKind.i64.wrap ((a % S.size : Nat) : Int) = ((a % S.size : Nat) : Int) := by rw [IntKind.wrap_i64]; omega
  have wk1 : IntKind.i64.wrap (((a % S.size : Nat) : Int) + 1) = ((a % S.size : Nat) : Int) + 1 := by rw [IntKind.wrap_i64]; omega
  have s1 : ∀ u : World, (Op.stringOp .add (S.extract 0 (a % S.size)) ⟨#[33]⟩).run Tryz.prog u = .ok (.string (S.extract 0 (a % S.size) ++ wEx)) u := fun u => sadd (b := wEx) (by omega) u
  have s2 := fun u : World => sadd (a := S.extract 0 (a % S.size) ++ wEx) (b := S.extract (a % S.size + 1) S.size) (by simp only [ByteArray.size_append]; omega) u
  clear hx1 hx2 z1 z2
  generalize S.extract (a % S.size + 1) S.size = t2 at *
  generalize S.extract 0 (a % S.size) = t1 at *
  generalize hE1 : t1 ++ wEx = t4 at *
  generalize hE2 : t4 ++ t2 = t5 at *
  clear hE1 hE2 wS
  generalize a % S.size = k at *
  go_wp2_with fail
  clear q0 q1
  refine (HR.out _ L2.out).mono ?_
  rintro e u3 ⟨rfl, hb⟩
  have L3 := Lib.hid (L2.out.on hb)
  clear hb
  obtain ⟨q0, q1⟩ := L3.out.cells
  go_wp2_with fail
  clear q0 q1
  refine (HF.out _ L3.out).mono ?_
  rintro e u4 ⟨rfl, hb⟩
  have L4 := Lib.hid (L3.out.on hb)
  clear hb
  obtain ⟨q0, q1⟩ := L4.out.cells
  go_wp2_with fail
  refine (HP1.out _ L4.out.t).mono ?_
  rintro e u5 ⟨rfl, hb⟩
  have L5 := Lib.hid ((L4.out.on hb).on (al1 u5 (.cells #[.int .i64 0, .slice none 0 0] 25)))
  clear hb q0 q1
  go_wp2_with fail
  have B5 := Lib.hid L5.out.bl
  have hT := Lib.hid hT
  clear L0 L1 L2 L3 L4 L5
  refine wp_region_held_drew (S := fun u => Below W.heap.size W u) (by kernel_rfl) (below_dn B5.out 1) (fun hHeld => ?_)
  refine wpAnyH_take (i := 0) (oi := { dst := some 42, op := _, type := _, pos := _, after := _, guard := _ }) (v := ?v1_0) rfl (by kernel_rfl) (by kernel_rfl) (by kernel_rfl) (fun _ _ _ h => h) (Or.inl ⟨by rfl, ?hy1_0⟩) hHeld ?_
  case hy1_0 => (intro w hSw; (try dsimp only at hSw); go_simp; try with_reducible rfl)
  simp only [Act.put, List.setIfInBounds_toArray, List.set_cons_zero, List.set_cons_succ]
  refine wpAnyH_take (i := 1) (oi := { dst := some 43, op := _, type := _, pos := _, after := _, guard := _ }) (v := ?v1_1) rfl (by kernel_rfl) (by kernel_rfl) (by kernel_rfl) (fun _ _ _ h => h) (Or.inl ⟨by rfl, ?hy1_1⟩) hHeld ?_
  case hy1_1 => (intro w hSw; (try dsimp only at hSw); go_simp; try with_reducible rfl)
  simp only [Act.put, List.setIfInBounds_toArray, List.set_cons_zero, List.set_cons_succ]
  refine wpAnyH_take (i := 2) (oi := { dst := some 44, op := _, type := _, pos := _, after := _, guard := _ }) (v := ?v1_2) rfl (by kernel_rfl) (by kernel_rfl) (by kernel_rfl) (fun _ _ _ h => h) (Or.inl ⟨by rfl, ?hy1_2⟩) hHeld ?_
  case hy1_2 => (intro w hSw; (try dsimp only at hSw); go_simp; try with_reducible rfl)
  simp only [Act.put, List.setIfInBounds_toArray, List.set_cons_zero, List.set_cons_succ]
  refine wpAnyH_take (i := 3) (oi := { dst := some 45, op := _, type := _, pos := _, after := _, guard := _ }) (v := ?v1_3) rfl (by kernel_rfl) (by kernel_rfl) (by kernel_rfl) (fun _ _ _ h => h) (Or.inl ⟨by rfl, ?hy1_3⟩) hHeld ?_
  case hy1_3 => (intro w hSw; (try dsimp only at hSw); go_simp; try with_reducible rfl)
  simp only [Act.put, List.setIfInBounds_toArray, List.set_cons_zero, List.set_cons_succ]
  refine wpAnyH_take (i := 4) (oi := { dst := some 46, op := _, type := _, pos := _, after := _, guard := _ }) (v := ?v1_4) rfl (by kernel_rfl) (by kernel_rfl) (by kernel_rfl) (fun _ _ _ h => h) (Or.inl ⟨by rfl, ?hy1_4⟩) hHeld ?_
  case hy1_4 => (intro w hSw; (try dsimp only at hSw); go_simp; try with_reducible rfl)
  simp only [Act.put, List.setIfInBounds_toArray, List.set_cons_zero, List.set_cons_succ]
  refine wpAnyH_take (i := 5) (oi := { dst := some 47, op := _, type := _, pos := _, after := _, guard := _ }) (v := ?v1_5) rfl (by kernel_rfl) (by kernel_rfl) (by kernel_rfl) (fun _ _ _ h => h) (Or.inl ⟨by rfl, ?hy1_5⟩) hHeld ?_
  case hy1_5 => (intro w hSw; (try dsimp only at hSw); go_simp; try with_reducible rfl)
  simp only [Act.put, List.setIfInBounds_toArray, List.set_cons_zero, List.set_cons_succ]
  refine wpAnyH_take (i := 6) (oi := { dst := some 48, op := _, type := _, pos := _, after := _, guard := _ }) (v := ?v1_6) rfl (by kernel_rfl) (by kernel_rfl) (by kernel_rfl) (fun _ _ _ h => h) (Or.inl ⟨by rfl, ?hy1_6⟩) hHeld ?_
  case hy1_6 => (intro w hSw; (try dsimp only at hSw); go_simp; try with_reducible rfl)
  simp only [Act.put, List.setIfInBounds_toArray, List.set_cons_zero, List.set_cons_succ]
  refine wpAnyH_take (i := 7) (oi := { dst := some 49, op := _, type := _, pos := _, after := _, guard := _ }) (v := ?v1_7) rfl (by kernel_rfl) (by kernel_rfl) (by kernel_rfl) (fun _ _ _ h => h) (Or.inl ⟨by rfl, ?hy1_7⟩) hHeld ?_
  case hy1_7 => (intro w hSw; (try dsimp only at hSw); go_simp; try with_reducible rfl)
  simp only [Act.put, List.setIfInBounds_toArray, List.set_cons_zero, List.set_cons_succ]
  refine wpAnyH_take (i := 8) (oi := { dst := some 50, op := _, type := _, pos := _, after := _, guard := _ }) (v := ?v1_8) rfl (by kernel_rfl) (by kernel_rfl) (by kernel_rfl) (fun _ _ _ h => h) (Or.inl ⟨by rfl, ?hy1_8⟩) hHeld ?_
  case hy1_8 => (intro w hSw; (try dsimp only at hSw); go_simp; try with_reducible rfl)
  simp only [Act.put, List.setIfInBounds_toArray, List.set_cons_zero, List.set_cons_succ]
  obtain ⟨wd, hwd⟩ : ∃ wd, wd = (u5.alloc (.cells #[.int .i64 0, .slice none 0 0] 25)).drew := ⟨_, rfl⟩
  rw [← hwd] at hHeld ⊢
  clear hwd
  refine wpAnyH_ready (rs := [9, 14]) (by kernel_rfl) (by simp) ?_
  refine AllReadyH.cons (o := { dst := some 51, op := _, type := _, pos := _, after := _, guard := _ }) rfl (fun K hK => ?_) (AllReadyH.cons (o := { dst := some 10, op := _, type := _, pos := _, after := _, guard := _ }) rfl (fun K hK => ?_) AllReadyH.nil)
  · go_simp
    go_at_call 9
    refine (HP2.out _ (hT.out.on hHeld)).mono ?_
    rintro e u6 ⟨rfl, hb⟩
    have Hu6 := below_on hHeld hb
    refine hK.out _ _ Hu6 (fun hHeld => ?_)
    clear hK K
    refine wpAnyH_take (i := 10) (oi := { dst := some 41, op := _, type := _, pos := _, after := _, guard := _ }) (v := ?v2_10) rfl (by kernel_rfl) (by kernel_rfl) (by kernel_rfl) (fun _ _ _ h => h) (Or.inl ⟨by rfl, ?hy2_10⟩) hHeld ?_
    case hy2_10 => (intro w hSw; (try dsimp only at hSw); go_simp; try with_reducible rfl)
    simp only [Act.put, List.setIfInBounds_toArray, List.set_cons_zero, List.set_cons_succ]
    refine wpAnyH_take (i := 11) (oi := { dst := some 52, op := _, type := _, pos := _, after := _, guard := _ }) (v := ?v2_11) rfl (by kernel_rfl) (by kernel_rfl) (by kernel_rfl) (fun _ _ _ h => h) (Or.inl ⟨by rfl, ?hy2_11⟩) hHeld ?_
    case hy2_11 => (intro w hSw; (try dsimp only at hSw); go_simp; try with_reducible rfl)
    simp only [Act.put, List.setIfInBounds_toArray, List.set_cons_zero, List.set_cons_succ]
    refine wpAnyH_take (i := 12) (oi := { dst := some 53, op := _, type := _, pos := _, after := _, guard := _ }) (v := ?v2_12) rfl (by kernel_rfl) (by kernel_rfl) (by kernel_rfl) (fun _ _ _ h => h) (Or.inl ⟨by rfl, ?hy2_12⟩) hHeld ?_
    case hy2_12 => (intro w hSw; (try dsimp only at hSw); go_simp; try with_reducible rfl)
    simp only [Act.put, List.setIfInBounds_toArray, List.set_cons_zero, List.set_cons_succ]
    refine wpAnyH_take (i := 13) (oi := { dst := some 54, op := _, type := _, pos := _, after := _, guard := _ }) (v := ?v2_13) rfl (by kernel_rfl) (by kernel_rfl) (by kernel_rfl) (fun _ _ _ h => h) (Or.inl ⟨by rfl, ?hy2_13⟩) hHeld ?_
    case hy2_13 => (intro w hSw; (try dsimp only at hSw); go_simp; try with_reducible rfl)
    simp only [Act.put, List.setIfInBounds_toArray, List.set_cons_zero, List.set_cons_succ]
    refine wpAnyH_ready (rs := [14]) (by kernel_rfl) (by simp) ?_
    refine AllReadyH.cons (o := { dst := some 10, op := _, type := _, pos := _, after := _, guard := _ }) rfl (fun K hK => ?_) AllReadyH.nil
    go_simp
    have hz : W.heap.size ≤ u6.heap.size := Hu6.size
    have rz := heap_alloc_new u6 (.cells #[.int .i64 0, .slice none 0 0] 25)
    have H3 := below_on Hu6 (al1 u6 (.cells #[.int .i64 0, .slice none 0 0] 25))
    refine hK.out _ _ H3 (fun hHeld => ?_)
    clear hK K
    generalize u6.heap.size = zb at *
    generalize u6.alloc (.cells #[.int .i64 0, .slice none 0 0] 25) = u3 at *
    refine wpAnyH_ready (rs := [15]) (by kernel_rfl) (by simp) ?_
    refine AllReadyH.cons (o := { dst := none, op := _, type := _, pos := _, after := _, guard := _ }) rfl (fun K hK => ?_) AllReadyH.nil
    go_simp
    obtain ⟨s0, s1, f0, f1⟩ := row2z rz
    go_simp
    obtain ⟨u9, hu9⟩ : ∃ u9, u9 = (u3.setCell ⟨zb, 0, none⟩ (.int .i64 0)).setCell ⟨zb, 1, none⟩ (.slice none 0 0) := ⟨_, rfl⟩
    have H9 : Below W.heap.size W u9 := by rw [hu9]; exact (hHeld.setCell (p := ⟨zb, 0, none⟩) hz _).setCell (p := ⟨zb, 1, none⟩) hz _
    rw [← hu9]
    refine hK.out _ _ H9 (fun hHeld => ?_)
    clear hK K hu9 s0 s1 f0 f1 rz
    refine wpAnyH_take (i := 16) (oi := { dst := some 11, op := _, type := _, pos := _, after := _, guard := _ }) (v := ?v3_16) rfl (by kernel_rfl) (by kernel_rfl) (by kernel_rfl) (fun _ _ _ h => h) (Or.inl ⟨by rfl, ?hy3_16⟩) hHeld ?_
    case hy3_16 => (intro w hSw; (try dsimp only at hSw); go_simp; try with_reducible rfl)
    simp only [Act.put, List.setIfInBounds_toArray, List.set_cons_zero, List.set_cons_succ]
    refine wpAnyH_ready (rs := [17]) (by kernel_rfl) (by simp) ?_
    refine AllReadyH.cons (o := { dst := some 12, op := _, type := _, pos := _, after := _, guard := _ }) rfl (fun K hK => ?_) AllReadyH.nil
    go_simp
    refine hK.out _ _ H9 (fun hHeld => ?_)
    clear hK K
    refine wpAnyH_done (by kernel_rfl) ?_ _
    go_wp2_with fail
    go_ret
    exact ⟨ret_bool (by simp), H9⟩
  · go_simp
    have hz : W.heap.size ≤ wd.heap.size := hHeld.size
    have rz := heap_alloc_new wd (.cells #[.int .i64 0, .slice none 0 0] 25)
    have H3 := below_on hHeld (al1 wd (.cells #[.int .i64 0, .slice none 0 0] 25))
    refine hK.out _ _ H3 (fun hHeld => ?_)
    clear hK K H3
    generalize wd.heap.size = zb at *
    generalize wd.alloc (.cells #[.int .i64 0, .slice none 0 0] 25) = u3 at *
    refine wpAnyH_ready (rs := [9]) (by kernel_rfl) (by simp) ?_
    refine AllReadyH.cons (o := { dst := some 51, op := _, type := _, pos := _, after := _, guard := _ }) rfl (fun K hK => ?_) AllReadyH.nil
    go_simp
    go_at_call 9
    refine (HP2.out _ (hT.out.on hHeld)).mono ?_
    rintro e u6 ⟨rfl, hb⟩
    have Hu6 := below_on hHeld hb
    refine hK.out _ _ Hu6 (fun hHeld => ?_)
    clear hK K
    replace rz := row_kept rz hb
    refine wpAnyH_take (i := 10) (oi := { dst := some 41, op := _, type := _, pos := _, after := _, guard := _ }) (v := ?v4_10) rfl (by kernel_rfl) (by kernel_rfl) (by kernel_rfl) (fun _ _ _ h => h) (Or.inl ⟨by rfl, ?hy4_10⟩) hHeld ?_
    case hy4_10 => (intro w hSw; (try dsimp only at hSw); go_simp; try with_reducible rfl)
    simp only [Act.put, List.setIfInBounds_toArray, List.set_cons_zero, List.set_cons_succ]
    refine wpAnyH_take (i := 11) (oi := { dst := some 52, op := _, type := _, pos := _, after := _, guard := _ }) (v := ?v4_11) rfl (by kernel_rfl) (by kernel_rfl) (by kernel_rfl) (fun _ _ _ h => h) (Or.inl ⟨by rfl, ?hy4_11⟩) hHeld ?_
    case hy4_11 => (intro w hSw; (try dsimp only at hSw); go_simp; try with_reducible rfl)
    simp only [Act.put, List.setIfInBounds_toArray, List.set_cons_zero, List.set_cons_succ]
    refine wpAnyH_take (i := 12) (oi := { dst := some 53, op := _, type := _, pos := _, after := _, guard := _ }) (v := ?v4_12) rfl (by kernel_rfl) (by kernel_rfl) (by kernel_rfl) (fun _ _ _ h => h) (Or.inl ⟨by rfl, ?hy4_12⟩) hHeld ?_
    case hy4_12 => (intro w hSw; (try dsimp only at hSw); go_simp; try with_reducible rfl)
    simp only [Act.put, List.setIfInBounds_toArray, List.set_cons_zero, List.set_cons_succ]
    refine wpAnyH_take (i := 13) (oi := { dst := some 54, op := _, type := _, pos := _, after := _, guard := _ }) (v := ?v4_13) rfl (by kernel_rfl) (by kernel_rfl) (by kernel_rfl) (fun _ _ _ h => h) (Or.inl ⟨by rfl, ?hy4_13⟩) hHeld ?_
    case hy4_13 => (intro w hSw; (try dsimp only at hSw); go_simp; try with_reducible rfl)
    simp only [Act.put, List.setIfInBounds_toArray, List.set_cons_zero, List.set_cons_succ]
    refine wpAnyH_ready (rs := [15]) (by kernel_rfl) (by simp) ?_
    refine AllReadyH.cons (o := { dst := none, op := _, type := _, pos := _, after := _, guard := _ }) rfl (fun K hK => ?_) AllReadyH.nil
    go_simp
    obtain ⟨s0, s1, f0, f1⟩ := row2z rz
    go_simp
    obtain ⟨u9, hu9⟩ : ∃ u9, u9 = (u6.setCell ⟨zb, 0, none⟩ (.int .i64 0)).setCell ⟨zb, 1, none⟩ (.slice none 0 0) := ⟨_, rfl⟩
    have H9 : Below W.heap.size W u9 := by rw [hu9]; exact (hHeld.setCell (p := ⟨zb, 0, none⟩) hz _).setCell (p := ⟨zb, 1, none⟩) hz _
    rw [← hu9]
    refine hK.out _ _ H9 (fun hHeld => ?_)
    clear hK K hu9 s0 s1 f0 f1 rz
    refine wpAnyH_take (i := 16) (oi := { dst := some 11, op := _, type := _, pos := _, after := _, guard := _ }) (v := ?v5_16) rfl (by kernel_rfl) (by kernel_rfl) (by kernel_rfl) (fun _ _ _ h => h) (Or.inl ⟨by rfl, ?hy5_16⟩) hHeld ?_
    case hy5_16 => (intro w hSw; (try dsimp only at hSw); go_simp; try with_reducible rfl)
    simp only [Act.put, List.setIfInBounds_toArray, List.set_cons_zero, List.set_cons_succ]
    refine wpAnyH_ready (rs := [17]) (by kernel_rfl) (by simp) ?_
    refine AllReadyH.cons (o := { dst := some 12, op := _, type := _, pos := _, after := _, guard := _ }) rfl (fun K hK => ?_) AllReadyH.nil
    go_simp
    refine hK.out _ _ H9 (fun hHeld => ?_)
    clear hK K
    refine wpAnyH_done (by kernel_rfl) ?_ _
    go_wp2_with fail
    go_ret
    exact ⟨ret_bool (by simp), H9⟩
theorem l27o_any (z : Kz) (v : Value) (a : Int) (ha : 0 ≤ a ∧ a ≤ 65535) (W : World) (hT : T26 W) (h : KalAt W v z) :
    Calls Tryz.prog 6 #[v, .int .u16 a] W fun e w' => e = .returned (.bool true) ∧ Below W.heap.size W w' := by
  obtain ⟨yr, l⟩ := z
  obtain ⟨vs, rfl, h1⟩ := h
  have h0 := h1
  obtain ⟨A, c, rfl, -⟩ := h0
  exact l27o_box yr l A c a ha W hT h1
theorem walk (v0 : Value) (z0 : Kz) (a1 : Int) (W : World) (ok0 : KalAt W v0 z0) (w1 : (Lit.int .u16 a1).wf = true) (hT : T26 W) :
    Calls Tryz.prog 6 #[v0, .int .u16 a1] W fun e w' => e = .returned (.bool true) ∧ Below W.heap.size W w' := by
  have h : 0 ≤ a1 ∧ a1 ≤ 65535 := by
    have h : IntKind.u16.min ≤ a1 ∧ a1 ≤ IntKind.u16.max := by simpa [Lit.wf] using w1
    have e1 : IntKind.u16.min = 0 := by decide
    have e2 : IntKind.u16.max = 65535 := by decide
    rw [e1, e2] at h
    omega
  exact l27o_any z0 v0 a1 h W hT ok0

/-! ### the row's step -/
set_option maxRecDepth 100000 in
theorem lifted (os : Os) (started : os.Started) (H : Type) (enc : TypeId × Value → H) :
    ReturnsInHanded {} Tryz.checked os 6 .any (fun w args => (Rows.ordotextOffsetsSpec.pre enc Tryz.prog Tryz.f6 [] false w args ∧ laidMetH Tryz.prog laidL w) ∧ sizedMet enc Tryz.prog Tryz.f6 (OpenSpec.ofChange Rows.ordotextOffsetsSpec) false w args)
      (Rows.ordotextOffsetsSpec.post enc Tryz.prog Tryz.f6 false true false false) := by
  refine returnsInHanded_of_change_and (C := Tryz.checked) (X := fun w _ => laidMetH Tryz.prog laidL w) (fun _ _ _ hh h => h.of_heap hh) own started (by kernel_rfl) Tryz.func6
    (ChangeSpec.witness_shaped (enc := enc) (C := Tryz.checked) (os := os) (X := fun w _ => laidMetH Tryz.prog laidL w) false (World.doorLaid Tryz.prog 400 os) #[.agg #[.int .i64 0, .slice none 0 0], .int .u16 0] 8 rfl (World.shaped_of_RefB (by kernel_rfl) (by kernel_rfl)) (by kernel_rfl) (by kernel_rfl) (by kernel_rfl) (door_met os _)) ?_
  intro W base args ds gs before hval0 hW _ _ hL _
  have hval : ∀ (j : Nat) t v, Tryz.f6.params[j]? = some t → args[j]? = some v → Value.okWide Tryz.prog W .any base t v := hval0
  have hW' := hW
  obtain ⟨p, q, hA0, hV, rfl, hfz, hnd⟩ := hW
  have hA : DataW.TrodAll enc Tryz.prog W 0 (fun _ => true) true Tryz.f6.params.toList args.toList ds p := hA0
  have hAk := hA
  rw [Tryz.params6] at hA hval
  obtain ⟨v0, vs0, d0, ds0, p0, q0, hargs, rfl, rfl, h0, r0⟩ := trodAll_cons hA
  obtain ⟨v1, vs1, d1, ds1, p1, q1, rfl, rfl, rfl, h1, r1⟩ := trodAll_cons r0
  obtain ⟨rfl, rfl, rfl⟩ := trodAll_nil r1
  obtain rfl : args = #[v0, v1] := by cases args; simp_all
  obtain ⟨rfl, rfl⟩ := trodVars_none hV
  obtain ⟨z0, ok0⟩ := open_kal (hval 0 25 v0 rfl rfl) h0
  obtain ⟨a1, rfl, rfl, rfl, w1⟩ := open_int Tryz.underlying41 (hval 1 41 v1 rfl rfl) h1
  clear hA0 hval0
  simp only [List.append_nil] at hW' hAk
  have hlt := hW'.lt
  refine (walk v0 z0 a1 W ok0 w1 (laid_facts hL)).mono fun e W' ⟨he, bel⟩ => ?_
  subst he
  exact ⟨_, rfl, _, _, _, [], _, [], hW', trodAll_mk1 (shut_bool Tryz.underlying4 _), (back_all zkids zfull (by rw [Tryz.params6]; decide) hAk hlt bel (fun p hp => by simpa using hlt p hp)), rfl, bel.frame _, fun h => by cases h⟩

theorem over : Rows.ordotextOffsetsRow.holds Tryz.pinned (OpenSpec.ofChange Rows.ordotextOffsetsSpec) :=
  OpenClaim.holds_of_wide 6 Tryz.f6 rfl rfl rfl rfl rfl rfl rfl ⟨rfl, rfl, rfl, rfl, rfl⟩ rfl rfl rfl rfl rfl (by kernel_rfl) Tryz.func6 (by kernel_rfl)
    (of_decide_eq_true (by kernel_rfl)) (by unfold Func.isWrapper; first | (rw [if_pos (by decide +kernel)]; kernel_rfl) | (rw [if_neg (by decide +kernel)]; exact ⟨rfl, rfl⟩))
    (fun os started H enc _ => lifted os started H enc)

/-- The statement: the tied card. -/
theorem proved : Rows.OrdotextOffsetsCardSaid :=
  Claim7.holds_tied_plain_at .later [] [.data, .data, .data, .data, .sentinel, .sentinel] true (true, "fbb649e9f719bd2b8dcff64b536c53961f34130c9224932c9f8c41654ff39dd4") true
    over (fun _ h => by cases h) (by kernel_rfl) (fun _ h => by cases h) ordotextOffsets_row_tie rfl ⟨rfl, rfl⟩ (by kernel_rfl) rfl
    (fun f fn hf hfn => by
      obtain rfl : f = 6 := Option.some.inj ((show Tryz.prog.funcNamed "computus/computuslaw27.OrdotextOffsets" = some 6 by kernel_rfl).symm.trans hf) |>.symm
      obtain rfl : fn = Tryz.f6 := (Option.some.inj (Tryz.func6.symm.trans hfn)).symm
      exact ⟨by kernel_rfl, fun j t ht => by
        rw [Tryz.params6] at ht
        have hm : t ∈ [25, 41] := by simpa using Array.mem_of_getElem? ht
        have hall : ([25, 41].all fun u => !Tryz.prog.wantsStandIn u) = true := by kernel_rfl
        exact (show Tryz.prog.wantsStandIn t = false by simpa using List.all_eq_true.1 hall t hm)⟩)
    (by kernel_rfl)
#print axioms proved
end Go.Proofs.YtkhicgafhbecfaaGreatDoor.ordotextOffsets
