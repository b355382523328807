/- Proved: for all 64-bit integers calendar and year, the law GaussMatchesReference of package computuslaw11 (Trace and Date of package gauss answer as their references do) returns true, and what was in memory is as it was. No condition. -/
import Derived.Test.YtoiiajmdfkgcbaaUe
import Derived.Test.YtoiiajmdfkgcbaaVy
import Derived.WalkKit
import Derived.ProofKit
import Derived.OpenShut
import Derived.ShutString
import Derived.Lib.SmallJoins
import Derived.Deep.RegionHeld3
namespace Go.Proofs.Ytoiiajmdfkgcbaa.gaussMatchesReference
open Go.ChangeShapes Go.WideShapes Go.ChangeAt Go.RowKit Go.Joins
open Go.ChangeMaps (open_string shut_string)
set_option linter.unusedVariables false      -- a walk need not use every fact

set_option maxRecDepth 100000 in
set_option maxHeartbeats 1000000 in
theorem walk_no (c y k : Int)
    (H1 : ∀ w, Calls Try.prog 7 #[.int .i64 c, .int .i64 y] w fun e w' => e = .returned (stv 0 0 0 0 0 k) ∧ Below w.heap.size w w')
    (H2 : ∀ w, Calls Try.prog 8 #[.int .i64 c, .int .i64 y] w fun e w' => e = .returned (datv 0 0 0 k) ∧ Below w.heap.size w w')
    (HA : ∀ w, Calls Try.prog 9 #[.int .i64 c, .int .i64 y] w fun e w' => e = .returned (.int .i64 k) ∧ w = w')
    (hk : (k != 0) = true)
    (W : World) :
    Calls Try.prog 3 #[.int .i64 c, .int .i64 y] W fun e w' => e = .returned (.bool true) ∧ Below W.heap.size W w' := by
  have S0 := Lib.hid (Bst.start W)
  go_enter Try.func3, Try.ntmps3
  go_wp2_with fail
  refine (c11awake_any _).mono ?_
  rintro e w1 ⟨rfl, hb1⟩
  have S1 := Lib.hid (S0.out.on hb1)
  clear hb1
  go_wp2_with fail
  refine (H1 _).mono ?_
  rintro e w2 ⟨rfl, hb2⟩
  have S2 := Lib.hid (S1.out.on hb2)
  clear hb2
  go_wp2_with fail
  refine (H2 _).mono ?_
  rintro e w3 ⟨rfl, hb3⟩
  have S3 := Lib.hid ((S2.out.al _).on hb3)
  have RS3 := Lib.hid (row_on (heap_alloc_new _ _) hb3)
  obtain ⟨cS0, cS1, cS2, cS3, cS4, gS0, gS1, gS2, gS3, gS4, zS⟩ := row5 RS3.out
  clear hb3
  have nSD := Nat.ne_of_lt zS
  have nDS := (Nat.ne_of_lt zS).symm
  go_wp2_with fail
  refine (HA _).mono ?_
  rintro e wq ⟨rfl, rfl⟩
  go_wp2_with fail
  go_ret
  exact ⟨rfl, (S3.out.al _).b⟩
set_option maxRecDepth 100000 in
set_option maxHeartbeats 1000000 in
theorem walk_ok (c y m n d e9 x p q : Int)
    (H1 : ∀ w, Calls Try.prog 7 #[.int .i64 c, .int .i64 y] w fun e w' => e = .returned (stv m n d e9 x 0) ∧ Below w.heap.size w w')
    (H2 : ∀ w, Calls Try.prog 8 #[.int .i64 c, .int .i64 y] w fun e w' => e = .returned (datv y p q 0) ∧ Below w.heap.size w w')
    (HA : ∀ w, Calls Try.prog 9 #[.int .i64 c, .int .i64 y] w fun e w' => e = .returned (.int .i64 0) ∧ w = w')
    (HR : ∀ w, Calls Try.prog 10 #[.int .i64 c, .int .i64 y] w fun e w' => e = .returned (rsv m n d e9 x) ∧ Below w.heap.size w w')
    (HS : ∀ w, Calls Try.prog 11 #[.int .i64 c, .int .i64 y] w fun e w' => e = .returned (dtv y p q) ∧ Below w.heap.size w w')
    (W : World) :
    Calls Try.prog 3 #[.int .i64 c, .int .i64 y] W fun e w' => e = .returned (.bool true) ∧ Below W.heap.size W w' := by
  have S0 := Lib.hid (Bst.start W)
  go_enter Try.func3, Try.ntmps3
  go_wp2_with fail
  refine (c11awake_any _).mono ?_
  rintro e w1 ⟨rfl, hb1⟩
  have S1 := Lib.hid (S0.out.on hb1)
  clear hb1
  go_wp2_with fail
  refine (H1 _).mono ?_
  rintro e w2 ⟨rfl, hb2⟩
  have S2 := Lib.hid (S1.out.on hb2)
  clear hb2
  go_wp2_with fail
  refine (H2 _).mono ?_
  rintro e w3 ⟨rfl, hb3⟩
  have S3 := Lib.hid ((S2.out.al _).on hb3)
  have RS3 := Lib.hid (row_on (heap_alloc_new w2 (Obj.cells #[.int .i64 m, .int .i64 n, .int .i64 d, .int .i64 e9, .int .i64 x] 24)) hb3)
  obtain ⟨cS0, cS1, cS2, cS3, cS4, gS0, gS1, gS2, gS3, gS4, zS⟩ := row5 RS3.out
  clear hb3
  have nSD := Nat.ne_of_lt zS
  have nDS := (Nat.ne_of_lt zS).symm
  go_wp2_with fail
  refine (HA _).mono ?_
  rintro e wq ⟨rfl, rfl⟩
  go_wp2_with fail
  refine (HR _).mono ?_
  rintro e w4 ⟨rfl, hb4⟩
  have S4 := Lib.hid ((S3.out.al _).on hb4)
  have RS4 := Lib.hid (row_on (row_al RS3.out (Obj.cells #[.int .i64 y, .int .i64 p, .int .i64 q] 29)) hb4)
  have RD4 := Lib.hid (row_on (heap_alloc_new w3 (Obj.cells #[.int .i64 y, .int .i64 p, .int .i64 q] 29)) hb4)
  clear RS3
  clear cS0 cS1 cS2 cS3 cS4 gS0 gS1 gS2 gS3 gS4 zS
  obtain ⟨cS0, cS1, cS2, cS3, cS4, gS0, gS1, gS2, gS3, gS4, zS⟩ := row5 RS4.out
  obtain ⟨cD0, cD1, cD2, gD0, gD1, gD2, zD⟩ := row3 RD4.out
  clear hb4
  have nST := Nat.ne_of_lt zS
  have nTS := (Nat.ne_of_lt zS).symm
  have nDT := Nat.ne_of_lt zD
  have nTD := (Nat.ne_of_lt zD).symm
  have qS := row5 (row_al RS4.out (Obj.cells #[.int .i64 m, .int .i64 n, .int .i64 d, .int .i64 e9, .int .i64 x] 33))
  have qD := row3 (row_al RD4.out (Obj.cells #[.int .i64 m, .int .i64 n, .int .i64 d, .int .i64 e9, .int .i64 x] 33))
  have qT := row5 (heap_alloc_new w4 (Obj.cells #[.int .i64 m, .int .i64 n, .int .i64 d, .int .i64 e9, .int .i64 x] 33))
  have Hs := Lib.hid (show Thr W (w2.heap.size) (w3.heap.size) (w4.heap.size) m n d e9 x y p q _ from ⟨qS.1, qS.2.1, qS.2.2.1, qS.2.2.2.1, qS.2.2.2.2.1, qD.1, qD.2.1, qD.2.2.1, qT.1, qT.2.1, qT.2.2.1, qT.2.2.2.1, qT.2.2.2.2.1, (S4.out.al _).b⟩).drew
  have XS := Lib.hid (fun u (hu : Thr W (w2.heap.size) (w3.heap.size) (w4.heap.size) m n d e9 x y p q u) => (HS u).mono (R' := fun e u' => e = .returned (dtv y p q) ∧ Thr W (w2.heap.size) (w3.heap.size) (w4.heap.size) m n d e9 x y p q u') fun e u' ⟨he, hb⟩ => ⟨he, hu.on hb⟩)
  have hE5 := eq5 m n d e9 x
  have hE3 := eq3 y p q
  clear qS qD qT H1 H2 HA HR HS
  go_wp2_with fail
  refine wp_region_held_drew (S := fun u => u.cell? ⟨w2.heap.size, 0, none⟩ = some (.int .i64 m) ∧ u.cell? ⟨w2.heap.size, 1, none⟩ = some (.int .i64 n) ∧ u.cell? ⟨w2.heap.size, 2, none⟩ = some (.int .i64 d) ∧ u.cell? ⟨w2.heap.size, 3, none⟩ = some (.int .i64 e9) ∧ u.cell? ⟨w2.heap.size, 4, none⟩ = some (.int .i64 x) ∧ u.cell? ⟨w3.heap.size, 0, none⟩ = some (.int .i64 y) ∧ u.cell? ⟨w3.heap.size, 1, none⟩ = some (.int .i64 p) ∧ u.cell? ⟨w3.heap.size, 2, none⟩ = some (.int .i64 q) ∧ u.cell? ⟨w4.heap.size, 0, none⟩ = some (.int .i64 m) ∧ u.cell? ⟨w4.heap.size, 1, none⟩ = some (.int .i64 n) ∧ u.cell? ⟨w4.heap.size, 2, none⟩ = some (.int .i64 d) ∧ u.cell? ⟨w4.heap.size, 3, none⟩ = some (.int .i64 e9) ∧ u.cell? ⟨w4.heap.size, 4, none⟩ = some (.int .i64 x) ∧ Below W.heap.size W u) (by kernel_rfl) Hs.out (fun hHeld => ?_)
  refine wpAnyH_take (i := 0) (oi := { dst := some 49, op := _, type := _, pos := _, after := _, guard := _ }) (v := ?v1_0) rfl (by kernel_rfl) (by kernel_rfl) (by kernel_rfl) (fun _ _ _ h => h) (Or.inl ⟨by rfl, ?hy1_0⟩) hHeld ?_
  case hy1_0 => (intro w hSw; (try dsimp only at hSw); go_simp; try with_reducible rfl)
  simp only [Act.put, List.setIfInBounds_toArray, List.set_cons_zero, List.set_cons_succ]
  refine wpAnyH_take (i := 1) (oi := { dst := some 50, op := _, type := _, pos := _, after := _, guard := _ }) (v := ?v1_1) rfl (by kernel_rfl) (by kernel_rfl) (by kernel_rfl) (fun _ _ _ h => h) (Or.inl ⟨by rfl, ?hy1_1⟩) hHeld ?_
  case hy1_1 => (intro w hSw; (try dsimp only at hSw); go_simp; try with_reducible rfl)
  simp only [Act.put, List.setIfInBounds_toArray, List.set_cons_zero, List.set_cons_succ]
  refine wpAnyH_take (i := 2) (oi := { dst := some 51, op := _, type := _, pos := _, after := _, guard := _ }) (v := ?v1_2) rfl (by kernel_rfl) (by kernel_rfl) (by kernel_rfl) (fun _ _ _ h => h) (Or.inl ⟨by rfl, ?hy1_2⟩) hHeld ?_
  case hy1_2 => (intro w hSw; (try dsimp only at hSw); go_simp; try with_reducible rfl)
  simp only [Act.put, List.setIfInBounds_toArray, List.set_cons_zero, List.set_cons_succ]
  refine wpAnyH_take (i := 3) (oi := { dst := some 52, op := _, type := _, pos := _, after := _, guard := _ }) (v := ?v1_3) rfl (by kernel_rfl) (by kernel_rfl) (by kernel_rfl) (fun _ _ _ h => h) (Or.inl ⟨by rfl, ?hy1_3⟩) hHeld ?_
  case hy1_3 => (intro w hSw; (try dsimp only at hSw); go_simp; try with_reducible rfl)
  simp only [Act.put, List.setIfInBounds_toArray, List.set_cons_zero, List.set_cons_succ]
  refine wpAnyH_take (i := 4) (oi := { dst := some 53, op := _, type := _, pos := _, after := _, guard := _ }) (v := ?v1_4) rfl (by kernel_rfl) (by kernel_rfl) (by kernel_rfl) (fun _ _ _ h => h) (Or.inl ⟨by rfl, ?hy1_4⟩) hHeld ?_
  case hy1_4 => (intro w hSw; (try dsimp only at hSw); go_simp; try with_reducible rfl)
  simp only [Act.put, List.setIfInBounds_toArray, List.set_cons_zero, List.set_cons_succ]
  refine wpAnyH_take (i := 5) (oi := { dst := some 54, op := _, type := _, pos := _, after := _, guard := _ }) (v := ?v1_5) rfl (by kernel_rfl) (by kernel_rfl) (by kernel_rfl) (fun _ _ _ h => h) (Or.inl ⟨by rfl, ?hy1_5⟩) hHeld ?_
  case hy1_5 => (intro w hSw; (try dsimp only at hSw); go_simp; try with_reducible rfl)
  simp only [Act.put, List.setIfInBounds_toArray, List.set_cons_zero, List.set_cons_succ]
  refine wpAnyH_take (i := 6) (oi := { dst := some 55, op := _, type := _, pos := _, after := _, guard := _ }) (v := ?v1_6) rfl (by kernel_rfl) (by kernel_rfl) (by kernel_rfl) (fun _ _ _ h => h) (Or.inl ⟨by rfl, ?hy1_6⟩) hHeld ?_
  case hy1_6 => (intro w hSw; (try dsimp only at hSw); go_simp; try with_reducible rfl)
  simp only [Act.put, List.setIfInBounds_toArray, List.set_cons_zero, List.set_cons_succ]
  refine wpAnyH_take (i := 7) (oi := { dst := some 56, op := _, type := _, pos := _, after := _, guard := _ }) (v := ?v1_7) rfl (by kernel_rfl) (by kernel_rfl) (by kernel_rfl) (fun _ _ _ h => h) (Or.inl ⟨by rfl, ?hy1_7⟩) hHeld ?_
  case hy1_7 => (intro w hSw; (try dsimp only at hSw); go_simp; try with_reducible rfl)
  simp only [Act.put, List.setIfInBounds_toArray, List.set_cons_zero, List.set_cons_succ]
  refine wpAnyH_take (i := 8) (oi := { dst := some 57, op := _, type := _, pos := _, after := _, guard := _ }) (v := ?v1_8) rfl (by kernel_rfl) (by kernel_rfl) (by kernel_rfl) (fun _ _ _ h => h) (Or.inl ⟨by rfl, ?hy1_8⟩) hHeld ?_
  case hy1_8 => (intro w hSw; (try dsimp only at hSw); go_simp; try with_reducible rfl)
  simp only [Act.put, List.setIfInBounds_toArray, List.set_cons_zero, List.set_cons_succ]
  refine wpAnyH_take (i := 9) (oi := { dst := some 58, op := _, type := _, pos := _, after := _, guard := _ }) (v := ?v1_9) rfl (by kernel_rfl) (by kernel_rfl) (by kernel_rfl) (fun _ _ _ h => h) (Or.inl ⟨by rfl, ?hy1_9⟩) hHeld ?_
  case hy1_9 => (intro w hSw; (try dsimp only at hSw); go_simp; try with_reducible rfl)
  simp only [Act.put, List.setIfInBounds_toArray, List.set_cons_zero, List.set_cons_succ]
  refine wpAnyH_take (i := 10) (oi := { dst := some 59, op := _, type := _, pos := _, after := _, guard := _ }) (v := ?v1_10) rfl (by kernel_rfl) (by kernel_rfl) (by kernel_rfl) (fun _ _ _ h => h) (Or.inl ⟨by rfl, ?hy1_10⟩) hHeld ?_
  case hy1_10 => (intro w hSw; (try dsimp only at hSw); go_simp; try with_reducible rfl)
  simp only [Act.put, List.setIfInBounds_toArray, List.set_cons_zero, List.set_cons_succ]
  refine wpAnyH_take (i := 11) (oi := { dst := some 60, op := _, type := _, pos := _, after := _, guard := _ }) (v := ?v1_11) rfl (by kernel_rfl) (by kernel_rfl) (by kernel_rfl) (fun _ _ _ h => h) (Or.inl ⟨by rfl, ?hy1_11⟩) hHeld ?_
  case hy1_11 => (intro w hSw; (try dsimp only at hSw); go_simp; try with_reducible rfl)
  simp only [Act.put, List.setIfInBounds_toArray, List.set_cons_zero, List.set_cons_succ]
  refine wpAnyH_take (i := 12) (oi := { dst := some 61, op := _, type := _, pos := _, after := _, guard := _ }) (v := ?v1_12) rfl (by kernel_rfl) (by kernel_rfl) (by kernel_rfl) (fun _ _ _ h => h) (Or.inl ⟨by rfl, ?hy1_12⟩) hHeld ?_
  case hy1_12 => (intro w hSw; (try dsimp only at hSw); go_simp; try with_reducible rfl)
  simp only [Act.put, List.setIfInBounds_toArray, List.set_cons_zero, List.set_cons_succ]
  refine wpAnyH_take (i := 13) (oi := { dst := some 62, op := _, type := _, pos := _, after := _, guard := _ }) (v := ?v1_13) rfl (by kernel_rfl) (by kernel_rfl) (by kernel_rfl) (fun _ _ _ h => h) (Or.inl ⟨by rfl, ?hy1_13⟩) hHeld ?_
  case hy1_13 => (intro w hSw; (try dsimp only at hSw); go_simp; try with_reducible rfl)
  simp only [Act.put, List.setIfInBounds_toArray, List.set_cons_zero, List.set_cons_succ]
  refine wpAnyH_take (i := 14) (oi := { dst := some 63, op := _, type := _, pos := _, after := _, guard := _ }) (v := ?v1_14) rfl (by kernel_rfl) (by kernel_rfl) (by kernel_rfl) (fun _ _ _ h => h) (Or.inl ⟨by rfl, ?hy1_14⟩) hHeld ?_
  case hy1_14 => (intro w hSw; (try dsimp only at hSw); go_simp; try with_reducible rfl)
  simp only [Act.put, List.setIfInBounds_toArray, List.set_cons_zero, List.set_cons_succ]
  refine wpAnyH_take (i := 15) (oi := { dst := some 64, op := _, type := _, pos := _, after := _, guard := _ }) (v := ?v1_15) rfl (by kernel_rfl) (by kernel_rfl) (by kernel_rfl) (fun _ _ _ h => h) (Or.inl ⟨by rfl, ?hy1_15⟩) hHeld ?_
  case hy1_15 => (intro w hSw; (try dsimp only at hSw); go_simp; try with_reducible rfl)
  simp only [Act.put, List.setIfInBounds_toArray, List.set_cons_zero, List.set_cons_succ]
  refine wpAnyH_take (i := 16) (oi := { dst := some 65, op := _, type := _, pos := _, after := _, guard := _ }) (v := ?v1_16) rfl (by kernel_rfl) (by kernel_rfl) (by kernel_rfl) (fun _ _ _ h => h) (Or.inl ⟨by rfl, ?hy1_16⟩) hHeld ?_
  case hy1_16 => (intro w hSw; (try dsimp only at hSw); go_simp; try with_reducible rfl)
  simp only [Act.put, List.setIfInBounds_toArray, List.set_cons_zero, List.set_cons_succ]
  refine wpAnyH_ready (rs := [17]) (by kernel_rfl) (by simp) ?_
  refine AllReadyH.cons (o := { dst := some 66, op := _, type := _, pos := _, after := _, guard := _ }) rfl (fun K hK => ?_) AllReadyH.nil
  go_simp
  go_at_call 11
  refine (XS.out _ (by assumption)).mono ?_
  rintro e1 v0 ⟨rfl, hs1⟩
  refine hK.out _ _ hs1 (fun hHeld => ?_)
  clear hK K
  refine wpAnyH_take (i := 18) (oi := { dst := some 67, op := _, type := _, pos := _, after := _, guard := _ }) (v := ?v1_18) rfl (by kernel_rfl) (by kernel_rfl) (by kernel_rfl) (fun _ _ _ h => h) (Or.inl ⟨by rfl, ?hy1_18⟩) hHeld ?_
  case hy1_18 => (intro w hSw; (try dsimp only at hSw); go_simp; try with_reducible rfl)
  simp only [Act.put, List.setIfInBounds_toArray, List.set_cons_zero, List.set_cons_succ]
  refine wpAnyH_take (i := 19) (oi := { dst := some 68, op := _, type := _, pos := _, after := _, guard := _ }) (v := ?v1_19) rfl (by kernel_rfl) (by kernel_rfl) (by kernel_rfl) (fun _ _ _ h => h) (Or.inl ⟨by rfl, ?hy1_19⟩) hHeld ?_
  case hy1_19 => (intro w hSw; (try dsimp only at hSw); go_simp; try with_reducible rfl)
  simp only [Act.put, List.setIfInBounds_toArray, List.set_cons_zero, List.set_cons_succ]
  refine wpAnyH_take (i := 20) (oi := { dst := some 4, op := _, type := _, pos := _, after := _, guard := _ }) (v := ?v1_20) rfl (by kernel_rfl) (by kernel_rfl) (by kernel_rfl) (fun _ _ _ h => h) (Or.inl ⟨by rfl, ?hy1_20⟩) hHeld ?_
  case hy1_20 => (intro w hSw; (try dsimp only at hSw); go_simp; try with_reducible rfl)
  simp only [Act.put, List.setIfInBounds_toArray, List.set_cons_zero, List.set_cons_succ]
  refine wpAnyH_done (by kernel_rfl) ?_ _
  go_wp2_with fail
  go_ret
  exact ⟨rfl, hs1.2.2.2.2.2.2.2.2.2.2.2.2.2⟩
theorem walk (c y : Int) (w0 : (Lit.int .i64 c).wf = true) (w1 : (Lit.int .i64 y).wf = true) (W : World) :
    Calls Try.prog 3 #[.int .i64 c, .int .i64 y] W fun e w' => e = .returned (.bool true) ∧ Below W.heap.size W w' := by
  have HA := fun w => rfail_any c y w
  by_cases h : epE c y = 0
  · rw [h] at HA
    exact walk_ok c y _ _ _ _ _ _ _ (fun w => utrace_any c y w h) (fun w => udate_any c y w h) HA (fun w => r11trace_any c y w h) (fun w => r11date_any c y w h) W
  · exact walk_no c y _ (fun w => utrace_bad c y w h) (fun w => udate_bad c y w h) HA (bne_iff_ne.2 h) W

/-! ### the row's step -/
set_option maxRecDepth 100000 in
theorem lifted (os : Os) (started : os.Started) (H : Type) (enc : TypeId × Value → H) :
    ReturnsInHanded {} Try.checked os 3 .any (Rows.gaussMatchesReferenceSpec.pre6 enc Try.prog Try.f3 Rows.gaussMatchesReferenceRow.domain false) (Rows.gaussMatchesReferenceSpec.post enc Try.prog Try.f3 false true false false) := by
  refine returnsInHanded_of_change (C := Try.checked) own started (by kernel_rfl) Try.func3
    (ChangeSpec.witness6 (enc := enc) (C := Try.checked) false ⟨#[], #[.int .i64 0, .int .i64 0], []⟩ 8 (by kernel_rfl) (by kernel_rfl) (by kernel_rfl) (by kernel_rfl)) ?_
  intro W base args ds gs before hval0 hW hcnd _
  have hval : ∀ (j : Nat) t v, Try.f3.params[j]? = some t → args[j]? = some v → Value.okWide Try.prog W .any base t v := hval0
  have hW' := hW
  obtain ⟨p, q, hA0, hV, rfl, hfz, hnd⟩ := hW
  have hA : DataW.TrodAll enc Try.prog W 0 (fun _ => true) true Try.f3.params.toList args.toList ds p := hA0
  rw [Try.params3] at hA hval
  obtain ⟨v0, vs0, d0, ds0, p0, q0, hargs, rfl, rfl, h0, r0⟩ := trodAll_cons hA
  obtain ⟨v1, vs1, d1, ds1, p1, q1, rfl, rfl, rfl, h1, r1⟩ := trodAll_cons r0
  obtain ⟨rfl, rfl, rfl⟩ := trodAll_nil r1
  obtain rfl : args = #[v0, v1] := by cases args; simp_all
  obtain ⟨rfl, rfl⟩ := trodVars_none hV
  obtain ⟨a0, rfl, rfl, rfl, w0⟩ := open_int Try.underlying3 (hval 0 3 v0 rfl rfl) h0
  obtain ⟨a1, rfl, rfl, rfl, w1⟩ := open_int Try.underlying3 (hval 1 3 v1 rfl rfl) h1
  clear hA0 hval0
  simp only [List.append_nil] at hW'
  refine (walk a0 a1 w0 w1 W).mono fun e W' ⟨he, bel⟩ => ?_
  subst he
  exact ⟨_, rfl, _, _, _, [], _, [], hW', trodAll_mk1 (shut_bool Try.underlying4 _), (trodAll_cons_mk (shut_int Try.underlying3 w0) (trodAll_cons_mk (shut_int Try.underlying3 w1) trodAll_mk0)), rfl, bel.frame _, fun h => by cases h⟩

theorem over : Rows.gaussMatchesReferenceRow.holds Try.pinned (OpenSpec.ofChange Rows.gaussMatchesReferenceSpec) :=
  OpenClaim.holds_of_wide 3 Try.f3 rfl rfl rfl rfl rfl rfl rfl ⟨rfl, rfl, rfl, rfl, rfl⟩ rfl rfl rfl rfl rfl (by kernel_rfl) Try.func3 (by kernel_rfl)
    (of_decide_eq_true (by kernel_rfl)) (by unfold Func.isWrapper; first | (rw [if_pos (by decide +kernel)]; kernel_rfl) | (rw [if_neg (by decide +kernel)]; exact ⟨rfl, rfl⟩))
    (fun os started H enc _ => lifted os started H enc)

/-- The statement. -/
theorem proved : Rows.GaussMatchesReferenceSaid :=
  over
#print axioms proved
end Go.Proofs.Ytoiiajmdfkgcbaa.gaussMatchesReference
