/- Proved: for all 64-bit integers calendar and year and for every date, the law PaschalMatchesReference of package computuslaw09 (FullMoon and NewMoon of package paschal answer as their references do) returns true, and what was in memory is as it was. Condition: the tables of packages julian, gregorian and label (the lengths of the months, the groups of years, the beginnings of the lunations) read as the program's text lays them (the card ties them). -/
import Derived.Test.YtodmpmcnlbkhhaaDoorKp
import Derived.Test.YtodmpmcnlbkhhaaDoorVy
import Derived.WalkKit
import Derived.ProofKit
import Derived.OpenShut
import Derived.ShutString
import Derived.Lib.SmallJoins
import Derived.Deep.RegionHeld3
import Derived.LaidMore
import Derived.Stop.Joined
import Derived.SevenTiedAt
import Derived.Test.YtodmpmcnlbkhhaaDoorCards
import Derived.Test.YtodmpmcnlbkhhaaDoorTie
namespace Go.Proofs.YtodmpmcnlbkhhaaDoor.paschalMatchesReference
open Go.ChangeShapes Go.WideShapes Go.ChangeAt Go.RowKit Go.Joins
open Go.ChangeMaps (open_string shut_string)
set_option linter.unusedVariables false      -- a walk need not use every fact

theorem One.dn {W u : World} {b : Nat} {y m d : Int} (h : One W b y m d u) (n : Nat) : One W b y m d (u.drewN n) := h.on (below_dn (Below.refl _ _) n)
theorem neq_date (y m d : Int) (w : World) : (binOp .neq 23 (dtv y m d) (dtv y m d)).run Tryd.prog w = .ok (.bool false) w := by simp [go_sem]
set_option maxRecDepth 100000 in
set_option maxHeartbeats 1000000 in
theorem walk_00 (c y p q r k f : Int)
    (H1 : ∀ w, PT w → Calls Tryd.prog 9 #[.int .i64 c, .int .i64 y] w fun e w' => e = .returned (datv 0 0 0 k) ∧ Below w.heap.size w w')
    (HA : ∀ w, Calls Tryd.prog 10 #[.int .i64 c, .int .i64 y] w fun e w' => e = .returned (.int .i64 k) ∧ w = w')
    (HN : ∀ w, PT w → Calls Tryd.prog 12 #[.int .i64 c, dtv p q r] w fun e w' => e = .returned (.tuple #[.bool false, .int .i64 f]) ∧ Below w.heap.size w w')
    (HE : ∀ w, PT w → Calls Tryd.prog 13 #[.int .i64 c, dtv p q r] w fun e w' => e = .returned (.int .i64 f) ∧ Below w.heap.size w w')
    (hk : (k != 0) = true) (hk2 : (k == 0) = false)
    (hf : (f == 0) = false)
    (W : World) (ht : PT W) :
    Calls Tryd.prog 3 #[.int .i64 c, .int .i64 y, dtv p q r] W fun e w' => e = .returned (.bool true) ∧ Below W.heap.size W w' := by
  have HT := Lib.hid ht
  have S0 := Lib.hid (PSt.start ht)
  clear ht
  go_enter Tryd.func3, Tryd.ntmps3
  go_wp2_with fail
  refine (c9awake_any _ (S0.out.al _).t).mono ?_
  rintro e w1 ⟨rfl, hb1⟩
  have S1 := Lib.hid ((S0.out.al _).on hb1)
  have RD1 := Lib.hid (row_on (heap_alloc_new _ _) hb1)
  obtain ⟨cD0, cD1, cD2, gD0, gD1, gD2, zD⟩ := row3 RD1.out
  clear hb1
  go_wp2_with fail
  refine (H1 _ S1.out.t).mono ?_
  rintro e w2 ⟨rfl, hb2⟩
  have S2 := Lib.hid (S1.out.on hb2)
  have RD2 := Lib.hid (row_on RD1.out hb2)
  clear RD1
  clear cD0 cD1 cD2 gD0 gD1 gD2 zD
  obtain ⟨cD0, cD1, cD2, gD0, gD1, gD2, zD⟩ := row3 RD2.out
  clear hb2
  have nDX := Nat.ne_of_lt zD
  have nXD := (Nat.ne_of_lt zD).symm
  go_wp2_with fail
  refine (HA _).mono ?_
  rintro e wq ⟨rfl, rfl⟩
  have qD := row3 (row_al RD2.out (Obj.cells #[.int .i64 0, .int .i64 0, .int .i64 0] 23))
  have qX := row3 (heap_alloc_new w2 (Obj.cells #[.int .i64 0, .int .i64 0, .int .i64 0] 23))
  have K0 : Hid (One W W.heap.size p q r _) := Lib.hid ⟨qD.1, qD.2.1, qD.2.2.1, (S2.out.al _).b⟩
  clear qD qX H1 HA
  go_wp2_with fail
  go_quiet (fail)
  go_wp2_with fail
  refine (HN _ (HT.out.on (One.dn K0.out _).2.2.2)).mono ?_
  rintro e v1 ⟨rfl, hv1⟩
  have K1 := Lib.hid (One.on (One.dn K0.out _) hv1)
  obtain ⟨d0, d1, d2, _⟩ := K1.out
  clear hv1
  go_wp2_with fail
  refine (HE _ (HT.out.on K1.out.2.2.2)).mono ?_
  rintro e v2 ⟨rfl, hv2⟩
  have K2 := Lib.hid (One.on K1.out hv2)
  clear d0 d1 d2
  obtain ⟨d0, d1, d2, _⟩ := K2.out
  clear hv2
  go_wp2_with fail
  go_ret
  exact ⟨rfl, K2.out.2.2.2⟩
set_option maxRecDepth 100000 in
set_option maxHeartbeats 1000000 in
theorem walk_01 (c y p q r k : Int) (b : Bool)
    (H1 : ∀ w, PT w → Calls Tryd.prog 9 #[.int .i64 c, .int .i64 y] w fun e w' => e = .returned (datv 0 0 0 k) ∧ Below w.heap.size w w')
    (HA : ∀ w, Calls Tryd.prog 10 #[.int .i64 c, .int .i64 y] w fun e w' => e = .returned (.int .i64 k) ∧ w = w')
    (HN : ∀ w, PT w → Calls Tryd.prog 12 #[.int .i64 c, dtv p q r] w fun e w' => e = .returned (.tuple #[.bool b, .int .i64 0]) ∧ Below w.heap.size w w')
    (HE : ∀ w, PT w → Calls Tryd.prog 13 #[.int .i64 c, dtv p q r] w fun e w' => e = .returned (.int .i64 0) ∧ Below w.heap.size w w')
    (HM : ∀ w, Calls Tryd.prog 14 #[.int .i64 c, dtv p q r] w fun e w' => e = .returned (.bool b) ∧ Below w.heap.size w w')
    (hk : (k != 0) = true) (hk2 : (k == 0) = false)
    (W : World) (ht : PT W) :
    Calls Tryd.prog 3 #[.int .i64 c, .int .i64 y, dtv p q r] W fun e w' => e = .returned (.bool true) ∧ Below W.heap.size W w' := by
  have HT := Lib.hid ht
  have S0 := Lib.hid (PSt.start ht)
  clear ht
  go_enter Tryd.func3, Tryd.ntmps3
  go_wp2_with fail
  refine (c9awake_any _ (S0.out.al _).t).mono ?_
  rintro e w1 ⟨rfl, hb1⟩
  have S1 := Lib.hid ((S0.out.al _).on hb1)
  have RD1 := Lib.hid (row_on (heap_alloc_new _ _) hb1)
  obtain ⟨cD0, cD1, cD2, gD0, gD1, gD2, zD⟩ := row3 RD1.out
  clear hb1
  go_wp2_with fail
  refine (H1 _ S1.out.t).mono ?_
  rintro e w2 ⟨rfl, hb2⟩
  have S2 := Lib.hid (S1.out.on hb2)
  have RD2 := Lib.hid (row_on RD1.out hb2)
  clear RD1
  clear cD0 cD1 cD2 gD0 gD1 gD2 zD
  obtain ⟨cD0, cD1, cD2, gD0, gD1, gD2, zD⟩ := row3 RD2.out
  clear hb2
  have nDX := Nat.ne_of_lt zD
  have nXD := (Nat.ne_of_lt zD).symm
  go_wp2_with fail
  refine (HA _).mono ?_
  rintro e wq ⟨rfl, rfl⟩
  have qD := row3 (row_al RD2.out (Obj.cells #[.int .i64 0, .int .i64 0, .int .i64 0] 23))
  have qX := row3 (heap_alloc_new w2 (Obj.cells #[.int .i64 0, .int .i64 0, .int .i64 0] 23))
  have K0 : Hid (One W W.heap.size p q r _) := Lib.hid ⟨qD.1, qD.2.1, qD.2.2.1, (S2.out.al _).b⟩
  clear qD qX H1 HA
  go_wp2_with fail
  go_quiet (fail)
  go_wp2_with fail
  refine (HN _ (HT.out.on (One.dn K0.out _).2.2.2)).mono ?_
  rintro e v1 ⟨rfl, hv1⟩
  have K1 := Lib.hid (One.on (One.dn K0.out _) hv1)
  obtain ⟨d0, d1, d2, _⟩ := K1.out
  clear hv1
  go_wp2_with fail
  refine (HE _ (HT.out.on K1.out.2.2.2)).mono ?_
  rintro e v2 ⟨rfl, hv2⟩
  have K2 := Lib.hid (One.on K1.out hv2)
  clear d0 d1 d2
  obtain ⟨d0, d1, d2, _⟩ := K2.out
  clear hv2
  go_wp2_with fail
  refine (HM _).mono ?_
  rintro e v3 ⟨rfl, hv3⟩
  have K3 := Lib.hid (One.on K2.out hv3)
  clear hv3
  go_wp2_with fail
  go_ret
  exact ⟨rfl, K3.out.2.2.2⟩
set_option maxRecDepth 100000 in
set_option maxHeartbeats 1000000 in
theorem walk_10 (c y p q r m d f : Int)
    (H1 : ∀ w, PT w → Calls Tryd.prog 9 #[.int .i64 c, .int .i64 y] w fun e w' => e = .returned (datv y m d 0) ∧ Below w.heap.size w w')
    (HA : ∀ w, Calls Tryd.prog 10 #[.int .i64 c, .int .i64 y] w fun e w' => e = .returned (.int .i64 0) ∧ w = w')
    (HR : ∀ w, PT w → Calls Tryd.prog 11 #[.int .i64 c, .int .i64 y] w fun e w' => e = .returned (dtv y m d) ∧ Below w.heap.size w w')
    (HN : ∀ w, PT w → Calls Tryd.prog 12 #[.int .i64 c, dtv p q r] w fun e w' => e = .returned (.tuple #[.bool false, .int .i64 f]) ∧ Below w.heap.size w w')
    (HE : ∀ w, PT w → Calls Tryd.prog 13 #[.int .i64 c, dtv p q r] w fun e w' => e = .returned (.int .i64 f) ∧ Below w.heap.size w w')
    (hf : (f == 0) = false)
    (W : World) (ht : PT W) :
    Calls Tryd.prog 3 #[.int .i64 c, .int .i64 y, dtv p q r] W fun e w' => e = .returned (.bool true) ∧ Below W.heap.size W w' := by
  have HT := Lib.hid ht
  have S0 := Lib.hid (PSt.start ht)
  clear ht
  go_enter Tryd.func3, Tryd.ntmps3
  go_wp2_with fail
  refine (c9awake_any _ (S0.out.al _).t).mono ?_
  rintro e w1 ⟨rfl, hb1⟩
  have S1 := Lib.hid ((S0.out.al _).on hb1)
  have RD1 := Lib.hid (row_on (heap_alloc_new _ _) hb1)
  obtain ⟨cD0, cD1, cD2, gD0, gD1, gD2, zD⟩ := row3 RD1.out
  clear hb1
  go_wp2_with fail
  refine (H1 _ S1.out.t).mono ?_
  rintro e w2 ⟨rfl, hb2⟩
  have S2 := Lib.hid (S1.out.on hb2)
  have RD2 := Lib.hid (row_on RD1.out hb2)
  clear RD1
  clear cD0 cD1 cD2 gD0 gD1 gD2 zD
  obtain ⟨cD0, cD1, cD2, gD0, gD1, gD2, zD⟩ := row3 RD2.out
  clear hb2
  have nDX := Nat.ne_of_lt zD
  have nXD := (Nat.ne_of_lt zD).symm
  go_wp2_with fail
  refine (HA _).mono ?_
  rintro e wq ⟨rfl, rfl⟩
  have qD := row3 (row_al RD2.out (Obj.cells #[.int .i64 y, .int .i64 m, .int .i64 d] 23))
  have qX := row3 (heap_alloc_new w2 (Obj.cells #[.int .i64 y, .int .i64 m, .int .i64 d] 23))
  have Hs := Lib.hid (show Two W (W.heap.size) (w2.heap.size) p q r y m d _ from ⟨qD.1, qD.2.1, qD.2.2.1, qX.1, qX.2.1, qX.2.2.1, (S2.out.al _).b⟩).drew
  have XR := Lib.hid (fun u (hu : Two W (W.heap.size) (w2.heap.size) p q r y m d u) => (HR u (HT.out.on hu.2.2.2.2.2.2)).mono (R' := fun e u' => e = .returned (dtv y m d) ∧ Two W (W.heap.size) (w2.heap.size) p q r y m d u') fun e u' ⟨he, hb⟩ => ⟨he, hu.on hb⟩)
  have hE := neq_date y m d
  clear qD qX H1 HA HR
  go_wp2_with fail
  refine wp_region_held_drew (S := fun u => u.cell? ⟨W.heap.size, 0, none⟩ = some (.int .i64 p) ∧ u.cell? ⟨W.heap.size, 1, none⟩ = some (.int .i64 q) ∧ u.cell? ⟨W.heap.size, 2, none⟩ = some (.int .i64 r) ∧ u.cell? ⟨w2.heap.size, 0, none⟩ = some (.int .i64 y) ∧ u.cell? ⟨w2.heap.size, 1, none⟩ = some (.int .i64 m) ∧ u.cell? ⟨w2.heap.size, 2, none⟩ = some (.int .i64 d) ∧ Below W.heap.size W u) (by kernel_rfl) Hs.out (fun hHeld => ?_)
  refine wpAnyH_take (i := 0) (oi := { dst := some 24, op := _, type := _, pos := _, after := _, guard := _ }) (v := ?v1_0) rfl (by kernel_rfl) (by kernel_rfl) (by kernel_rfl) (fun _ _ _ h => h) (Or.inl ⟨by rfl, ?hy1_0⟩) hHeld ?_
  case hy1_0 => (intro w hSw; (try dsimp only at hSw); go_simp; try with_reducible rfl)
  simp only [Act.put, List.setIfInBounds_toArray, List.set_cons_zero, List.set_cons_succ]
  refine wpAnyH_take (i := 1) (oi := { dst := some 25, op := _, type := _, pos := _, after := _, guard := _ }) (v := ?v1_1) rfl (by kernel_rfl) (by kernel_rfl) (by kernel_rfl) (fun _ _ _ h => h) (Or.inl ⟨by rfl, ?hy1_1⟩) hHeld ?_
  case hy1_1 => (intro w hSw; (try dsimp only at hSw); go_simp; try with_reducible rfl)
  simp only [Act.put, List.setIfInBounds_toArray, List.set_cons_zero, List.set_cons_succ]
  refine wpAnyH_take (i := 2) (oi := { dst := some 26, op := _, type := _, pos := _, after := _, guard := _ }) (v := ?v1_2) rfl (by kernel_rfl) (by kernel_rfl) (by kernel_rfl) (fun _ _ _ h => h) (Or.inl ⟨by rfl, ?hy1_2⟩) hHeld ?_
  case hy1_2 => (intro w hSw; (try dsimp only at hSw); go_simp; try with_reducible rfl)
  simp only [Act.put, List.setIfInBounds_toArray, List.set_cons_zero, List.set_cons_succ]
  refine wpAnyH_take (i := 3) (oi := { dst := some 27, op := _, type := _, pos := _, after := _, guard := _ }) (v := ?v1_3) rfl (by kernel_rfl) (by kernel_rfl) (by kernel_rfl) (fun _ _ _ h => h) (Or.inl ⟨by rfl, ?hy1_3⟩) hHeld ?_
  case hy1_3 => (intro w hSw; (try dsimp only at hSw); go_simp; try with_reducible rfl)
  simp only [Act.put, List.setIfInBounds_toArray, List.set_cons_zero, List.set_cons_succ]
  refine wpAnyH_take (i := 4) (oi := { dst := some 28, op := _, type := _, pos := _, after := _, guard := _ }) (v := ?v1_4) rfl (by kernel_rfl) (by kernel_rfl) (by kernel_rfl) (fun _ _ _ h => h) (Or.inl ⟨by rfl, ?hy1_4⟩) hHeld ?_
  case hy1_4 => (intro w hSw; (try dsimp only at hSw); go_simp; try with_reducible rfl)
  simp only [Act.put, List.setIfInBounds_toArray, List.set_cons_zero, List.set_cons_succ]
  refine wpAnyH_take (i := 5) (oi := { dst := some 29, op := _, type := _, pos := _, after := _, guard := _ }) (v := ?v1_5) rfl (by kernel_rfl) (by kernel_rfl) (by kernel_rfl) (fun _ _ _ h => h) (Or.inl ⟨by rfl, ?hy1_5⟩) hHeld ?_
  case hy1_5 => (intro w hSw; (try dsimp only at hSw); go_simp; try with_reducible rfl)
  simp only [Act.put, List.setIfInBounds_toArray, List.set_cons_zero, List.set_cons_succ]
  refine wpAnyH_take (i := 6) (oi := { dst := some 30, op := _, type := _, pos := _, after := _, guard := _ }) (v := ?v1_6) rfl (by kernel_rfl) (by kernel_rfl) (by kernel_rfl) (fun _ _ _ h => h) (Or.inl ⟨by rfl, ?hy1_6⟩) hHeld ?_
  case hy1_6 => (intro w hSw; (try dsimp only at hSw); go_simp; try with_reducible rfl)
  simp only [Act.put, List.setIfInBounds_toArray, List.set_cons_zero, List.set_cons_succ]
  refine wpAnyH_take (i := 7) (oi := { dst := some 31, op := _, type := _, pos := _, after := _, guard := _ }) (v := undef) rfl (by kernel_rfl) (by kernel_rfl) (by kernel_rfl) (fun _ _ _ h => h) (Or.inr ⟨by rfl, rfl⟩) hHeld ?_
  simp only [Act.put, List.setIfInBounds_toArray, List.set_cons_zero, List.set_cons_succ]
  refine wpAnyH_take (i := 8) (oi := { dst := some 32, op := _, type := _, pos := _, after := _, guard := _ }) (v := undef) rfl (by kernel_rfl) (by kernel_rfl) (by kernel_rfl) (fun _ _ _ h => h) (Or.inr ⟨by rfl, rfl⟩) hHeld ?_
  simp only [Act.put, List.setIfInBounds_toArray, List.set_cons_zero, List.set_cons_succ]
  refine wpAnyH_take (i := 9) (oi := { dst := some 33, op := _, type := _, pos := _, after := _, guard := _ }) (v := undef) rfl (by kernel_rfl) (by kernel_rfl) (by kernel_rfl) (fun _ _ _ h => h) (Or.inr ⟨by rfl, rfl⟩) hHeld ?_
  simp only [Act.put, List.setIfInBounds_toArray, List.set_cons_zero, List.set_cons_succ]
  refine wpAnyH_take (i := 10) (oi := { dst := some 34, op := _, type := _, pos := _, after := _, guard := _ }) (v := ?v1_10) rfl (by kernel_rfl) (by kernel_rfl) (by kernel_rfl) (fun _ _ _ h => h) (Or.inl ⟨by rfl, ?hy1_10⟩) hHeld ?_
  case hy1_10 => (intro w hSw; (try dsimp only at hSw); go_simp; try with_reducible rfl)
  simp only [Act.put, List.setIfInBounds_toArray, List.set_cons_zero, List.set_cons_succ]
  refine wpAnyH_take (i := 11) (oi := { dst := some 35, op := _, type := _, pos := _, after := _, guard := _ }) (v := ?v1_11) rfl (by kernel_rfl) (by kernel_rfl) (by kernel_rfl) (fun _ _ _ h => h) (Or.inl ⟨by rfl, ?hy1_11⟩) hHeld ?_
  case hy1_11 => (intro w hSw; (try dsimp only at hSw); go_simp; try with_reducible rfl)
  simp only [Act.put, List.setIfInBounds_toArray, List.set_cons_zero, List.set_cons_succ]
  refine wpAnyH_take (i := 12) (oi := { dst := some 36, op := _, type := _, pos := _, after := _, guard := _ }) (v := ?v1_12) rfl (by kernel_rfl) (by kernel_rfl) (by kernel_rfl) (fun _ _ _ h => h) (Or.inl ⟨by rfl, ?hy1_12⟩) hHeld ?_
  case hy1_12 => (intro w hSw; (try dsimp only at hSw); go_simp; try with_reducible rfl)
  simp only [Act.put, List.setIfInBounds_toArray, List.set_cons_zero, List.set_cons_succ]
  refine wpAnyH_take (i := 13) (oi := { dst := some 37, op := _, type := _, pos := _, after := _, guard := _ }) (v := ?v1_13) rfl (by kernel_rfl) (by kernel_rfl) (by kernel_rfl) (fun _ _ _ h => h) (Or.inl ⟨by rfl, ?hy1_13⟩) hHeld ?_
  case hy1_13 => (intro w hSw; (try dsimp only at hSw); go_simp; try with_reducible rfl)
  simp only [Act.put, List.setIfInBounds_toArray, List.set_cons_zero, List.set_cons_succ]
  refine wpAnyH_take (i := 14) (oi := { dst := some 38, op := _, type := _, pos := _, after := _, guard := _ }) (v := ?v1_14) rfl (by kernel_rfl) (by kernel_rfl) (by kernel_rfl) (fun _ _ _ h => h) (Or.inl ⟨by rfl, ?hy1_14⟩) hHeld ?_
  case hy1_14 => (intro w hSw; (try dsimp only at hSw); go_simp; try with_reducible rfl)
  simp only [Act.put, List.setIfInBounds_toArray, List.set_cons_zero, List.set_cons_succ]
  refine wpAnyH_take (i := 15) (oi := { dst := some 39, op := _, type := _, pos := _, after := _, guard := _ }) (v := ?v1_15) rfl (by kernel_rfl) (by kernel_rfl) (by kernel_rfl) (fun _ _ _ h => h) (Or.inl ⟨by rfl, ?hy1_15⟩) hHeld ?_
  case hy1_15 => (intro w hSw; (try dsimp only at hSw); go_simp; try with_reducible rfl)
  simp only [Act.put, List.setIfInBounds_toArray, List.set_cons_zero, List.set_cons_succ]
  refine wpAnyH_take (i := 16) (oi := { dst := some 40, op := _, type := _, pos := _, after := _, guard := _ }) (v := ?v1_16) rfl (by kernel_rfl) (by kernel_rfl) (by kernel_rfl) (fun _ _ _ h => h) (Or.inl ⟨by rfl, ?hy1_16⟩) hHeld ?_
  case hy1_16 => (intro w hSw; (try dsimp only at hSw); go_simp; try with_reducible rfl)
  simp only [Act.put, List.setIfInBounds_toArray, List.set_cons_zero, List.set_cons_succ]
  refine wpAnyH_take (i := 17) (oi := { dst := some 41, op := _, type := _, pos := _, after := _, guard := _ }) (v := ?v1_17) rfl (by kernel_rfl) (by kernel_rfl) (by kernel_rfl) (fun _ _ _ h => h) (Or.inl ⟨by rfl, ?hy1_17⟩) hHeld ?_
  case hy1_17 => (intro w hSw; (try dsimp only at hSw); go_simp; try with_reducible rfl)
  simp only [Act.put, List.setIfInBounds_toArray, List.set_cons_zero, List.set_cons_succ]
  refine wpAnyH_take (i := 18) (oi := { dst := some 42, op := _, type := _, pos := _, after := _, guard := _ }) (v := ?v1_18) rfl (by kernel_rfl) (by kernel_rfl) (by kernel_rfl) (fun _ _ _ h => h) (Or.inl ⟨by rfl, ?hy1_18⟩) hHeld ?_
  case hy1_18 => (intro w hSw; (try dsimp only at hSw); go_simp; try with_reducible rfl)
  simp only [Act.put, List.setIfInBounds_toArray, List.set_cons_zero, List.set_cons_succ]
  refine wpAnyH_ready (rs := [19]) (by kernel_rfl) (by simp) ?_
  refine AllReadyH.cons (o := { dst := some 43, op := _, type := _, pos := _, after := _, guard := _ }) rfl (fun K hK => ?_) AllReadyH.nil
  go_simp
  go_at_call 11
  refine (XR.out _ (by assumption)).mono ?_
  rintro e1 v0 ⟨rfl, hs1⟩
  refine hK.out _ _ hs1 (fun hHeld => ?_)
  clear hK K
  refine wpAnyH_take (i := 20) (oi := { dst := some 44, op := _, type := _, pos := _, after := _, guard := _ }) (v := ?v1_20) rfl (by kernel_rfl) (by kernel_rfl) (by kernel_rfl) (fun _ _ _ h => h) (Or.inl ⟨by rfl, ?hy1_20⟩) hHeld ?_
  case hy1_20 => (intro w hSw; (try dsimp only at hSw); go_simp; try with_reducible rfl)
  simp only [Act.put, List.setIfInBounds_toArray, List.set_cons_zero, List.set_cons_succ]
  refine wpAnyH_take (i := 21) (oi := { dst := some 45, op := _, type := _, pos := _, after := _, guard := _ }) (v := ?v1_21) rfl (by kernel_rfl) (by kernel_rfl) (by kernel_rfl) (fun _ _ _ h => h) (Or.inl ⟨by rfl, ?hy1_21⟩) hHeld ?_
  case hy1_21 => (intro w hSw; (try dsimp only at hSw); go_simp; try with_reducible rfl)
  simp only [Act.put, List.setIfInBounds_toArray, List.set_cons_zero, List.set_cons_succ]
  refine wpAnyH_take (i := 22) (oi := { dst := some 46, op := _, type := _, pos := _, after := _, guard := _ }) (v := ?v1_22) rfl (by kernel_rfl) (by kernel_rfl) (by kernel_rfl) (fun _ _ _ h => h) (Or.inl ⟨by rfl, ?hy1_22⟩) hHeld ?_
  case hy1_22 => (intro w hSw; (try dsimp only at hSw); go_simp; try with_reducible rfl)
  simp only [Act.put, List.setIfInBounds_toArray, List.set_cons_zero, List.set_cons_succ]
  refine wpAnyH_done (by kernel_rfl) ?_ _
  have K0 : Hid (One W W.heap.size p q r _) := Lib.hid ⟨hs1.1, hs1.2.1, hs1.2.2.1, hs1.2.2.2.2.2.2⟩
  obtain ⟨z0, z1, z2, _⟩ := K0.out
  clear hs1
  go_wp2_with fail
  refine (HN _ (HT.out.on K0.out.2.2.2)).mono ?_
  rintro e v1 ⟨rfl, hv1⟩
  have K1 := Lib.hid (One.on K0.out hv1)
  obtain ⟨d0, d1, d2, _⟩ := K1.out
  clear hv1
  go_wp2_with fail
  refine (HE _ (HT.out.on K1.out.2.2.2)).mono ?_
  rintro e v2 ⟨rfl, hv2⟩
  have K2 := Lib.hid (One.on K1.out hv2)
  clear d0 d1 d2
  obtain ⟨d0, d1, d2, _⟩ := K2.out
  clear hv2
  go_wp2_with fail
  go_ret
  exact ⟨rfl, K2.out.2.2.2⟩
set_option maxRecDepth 100000 in
set_option maxHeartbeats 1000000 in
theorem walk_11 (c y p q r m d : Int) (b : Bool)
    (H1 : ∀ w, PT w → Calls Tryd.prog 9 #[.int .i64 c, .int .i64 y] w fun e w' => e = .returned (datv y m d 0) ∧ Below w.heap.size w w')
    (HA : ∀ w, Calls Tryd.prog 10 #[.int .i64 c, .int .i64 y] w fun e w' => e = .returned (.int .i64 0) ∧ w = w')
    (HR : ∀ w, PT w → Calls Tryd.prog 11 #[.int .i64 c, .int .i64 y] w fun e w' => e = .returned (dtv y m d) ∧ Below w.heap.size w w')
    (HN : ∀ w, PT w → Calls Tryd.prog 12 #[.int .i64 c, dtv p q r] w fun e w' => e = .returned (.tuple #[.bool b, .int .i64 0]) ∧ Below w.heap.size w w')
    (HE : ∀ w, PT w → Calls Tryd.prog 13 #[.int .i64 c, dtv p q r] w fun e w' => e = .returned (.int .i64 0) ∧ Below w.heap.size w w')
    (HM : ∀ w, Calls Tryd.prog 14 #[.int .i64 c, dtv p q r] w fun e w' => e = .returned (.bool b) ∧ Below w.heap.size w w')
    (W : World) (ht : PT W) :
    Calls Tryd.prog 3 #[.int .i64 c, .int .i64 y, dtv p q r] W fun e w' => e = .returned (.bool true) ∧ Below W.heap.size W w' := by
  have HT := Lib.hid ht
  have S0 := Lib.hid (PSt.start ht)
  clear ht
  go_enter Tryd.func3, Tryd.ntmps3
  go_wp2_with fail
  refine (c9awake_any _ (S0.out.al _).t).mono ?_
  rintro e w1 ⟨rfl, hb1⟩
  have S1 := Lib.hid ((S0.out.al _).on hb1)
  have RD1 := Lib.hid (row_on (heap_alloc_new _ _) hb1)
  obtain ⟨cD0, cD1, cD2, gD0, gD1, gD2, zD⟩ := row3 RD1.out
  clear hb1
  go_wp2_with fail
  refine (H1 _ S1.out.t).mono ?_
  rintro e w2 ⟨rfl, hb2⟩
  have S2 := Lib.hid (S1.out.on hb2)
  have RD2 := Lib.hid (row_on RD1.out hb2)
  clear RD1
  clear cD0 cD1 cD2 gD0 gD1 gD2 zD
  obtain ⟨cD0, cD1, cD2, gD0, gD1, gD2, zD⟩ := row3 RD2.out
  clear hb2
  have nDX := Nat.ne_of_lt zD
  have nXD := (Nat.ne_of_lt zD).symm
  go_wp2_with fail
  refine (HA _).mono ?_
  rintro e wq ⟨rfl, rfl⟩
  have qD := row3 (row_al RD2.out (Obj.cells #[.int .i64 y, .int .i64 m, .int .i64 d] 23))
  have qX := row3 (heap_alloc_new w2 (Obj.cells #[.int .i64 y, .int .i64 m, .int .i64 d] 23))
  have Hs := Lib.hid (show Two W (W.heap.size) (w2.heap.size) p q r y m d _ from ⟨qD.1, qD.2.1, qD.2.2.1, qX.1, qX.2.1, qX.2.2.1, (S2.out.al _).b⟩).drew
  have XR := Lib.hid (fun u (hu : Two W (W.heap.size) (w2.heap.size) p q r y m d u) => (HR u (HT.out.on hu.2.2.2.2.2.2)).mono (R' := fun e u' => e = .returned (dtv y m d) ∧ Two W (W.heap.size) (w2.heap.size) p q r y m d u') fun e u' ⟨he, hb⟩ => ⟨he, hu.on hb⟩)
  have hE := neq_date y m d
  clear qD qX H1 HA HR
  go_wp2_with fail
  refine wp_region_held_drew (S := fun u => u.cell? ⟨W.heap.size, 0, none⟩ = some (.int .i64 p) ∧ u.cell? ⟨W.heap.size, 1, none⟩ = some (.int .i64 q) ∧ u.cell? ⟨W.heap.size, 2, none⟩ = some (.int .i64 r) ∧ u.cell? ⟨w2.heap.size, 0, none⟩ = some (.int .i64 y) ∧ u.cell? ⟨w2.heap.size, 1, none⟩ = some (.int .i64 m) ∧ u.cell? ⟨w2.heap.size, 2, none⟩ = some (.int .i64 d) ∧ Below W.heap.size W u) (by kernel_rfl) Hs.out (fun hHeld => ?_)
  refine wpAnyH_take (i := 0) (oi := { dst := some 24, op := _, type := _, pos := _, after := _, guard := _ }) (v := ?v2_0) rfl (by kernel_rfl) (by kernel_rfl) (by kernel_rfl) (fun _ _ _ h => h) (Or.inl ⟨by rfl, ?hy2_0⟩) hHeld ?_
  case hy2_0 => (intro w hSw; (try dsimp only at hSw); go_simp; try with_reducible rfl)
  simp only [Act.put, List.setIfInBounds_toArray, List.set_cons_zero, List.set_cons_succ]
  refine wpAnyH_take (i := 1) (oi := { dst := some 25, op := _, type := _, pos := _, after := _, guard := _ }) (v := ?v2_1) rfl (by kernel_rfl) (by kernel_rfl) (by kernel_rfl) (fun _ _ _ h => h) (Or.inl ⟨by rfl, ?hy2_1⟩) hHeld ?_
  case hy2_1 => (intro w hSw; (try dsimp only at hSw); go_simp; try with_reducible rfl)
  simp only [Act.put, List.setIfInBounds_toArray, List.set_cons_zero, List.set_cons_succ]
  refine wpAnyH_take (i := 2) (oi := { dst := some 26, op := _, type := _, pos := _, after := _, guard := _ }) (v := ?v2_2) rfl (by kernel_rfl) (by kernel_rfl) (by kernel_rfl) (fun _ _ _ h => h) (Or.inl ⟨by rfl, ?hy2_2⟩) hHeld ?_
  case hy2_2 => (intro w hSw; (try dsimp only at hSw); go_simp; try with_reducible rfl)
  simp only [Act.put, List.setIfInBounds_toArray, List.set_cons_zero, List.set_cons_succ]
  refine wpAnyH_take (i := 3) (oi := { dst := some 27, op := _, type := _, pos := _, after := _, guard := _ }) (v := ?v2_3) rfl (by kernel_rfl) (by kernel_rfl) (by kernel_rfl) (fun _ _ _ h => h) (Or.inl ⟨by rfl, ?hy2_3⟩) hHeld ?_
  case hy2_3 => (intro w hSw; (try dsimp only at hSw); go_simp; try with_reducible rfl)
  simp only [Act.put, List.setIfInBounds_toArray, List.set_cons_zero, List.set_cons_succ]
  refine wpAnyH_take (i := 4) (oi := { dst := some 28, op := _, type := _, pos := _, after := _, guard := _ }) (v := ?v2_4) rfl (by kernel_rfl) (by kernel_rfl) (by kernel_rfl) (fun _ _ _ h => h) (Or.inl ⟨by rfl, ?hy2_4⟩) hHeld ?_
  case hy2_4 => (intro w hSw; (try dsimp only at hSw); go_simp; try with_reducible rfl)
  simp only [Act.put, List.setIfInBounds_toArray, List.set_cons_zero, List.set_cons_succ]
  refine wpAnyH_take (i := 5) (oi := { dst := some 29, op := _, type := _, pos := _, after := _, guard := _ }) (v := ?v2_5) rfl (by kernel_rfl) (by kernel_rfl) (by kernel_rfl) (fun _ _ _ h => h) (Or.inl ⟨by rfl, ?hy2_5⟩) hHeld ?_
  case hy2_5 => (intro w hSw; (try dsimp only at hSw); go_simp; try with_reducible rfl)
  simp only [Act.put, List.setIfInBounds_toArray, List.set_cons_zero, List.set_cons_succ]
  refine wpAnyH_take (i := 6) (oi := { dst := some 30, op := _, type := _, pos := _, after := _, guard := _ }) (v := ?v2_6) rfl (by kernel_rfl) (by kernel_rfl) (by kernel_rfl) (fun _ _ _ h => h) (Or.inl ⟨by rfl, ?hy2_6⟩) hHeld ?_
  case hy2_6 => (intro w hSw; (try dsimp only at hSw); go_simp; try with_reducible rfl)
  simp only [Act.put, List.setIfInBounds_toArray, List.set_cons_zero, List.set_cons_succ]
  refine wpAnyH_take (i := 7) (oi := { dst := some 31, op := _, type := _, pos := _, after := _, guard := _ }) (v := undef) rfl (by kernel_rfl) (by kernel_rfl) (by kernel_rfl) (fun _ _ _ h => h) (Or.inr ⟨by rfl, rfl⟩) hHeld ?_
  simp only [Act.put, List.setIfInBounds_toArray, List.set_cons_zero, List.set_cons_succ]
  refine wpAnyH_take (i := 8) (oi := { dst := some 32, op := _, type := _, pos := _, after := _, guard := _ }) (v := undef) rfl (by kernel_rfl) (by kernel_rfl) (by kernel_rfl) (fun _ _ _ h => h) (Or.inr ⟨by rfl, rfl⟩) hHeld ?_
  simp only [Act.put, List.setIfInBounds_toArray, List.set_cons_zero, List.set_cons_succ]
  refine wpAnyH_take (i := 9) (oi := { dst := some 33, op := _, type := _, pos := _, after := _, guard := _ }) (v := undef) rfl (by kernel_rfl) (by kernel_rfl) (by kernel_rfl) (fun _ _ _ h => h) (Or.inr ⟨by rfl, rfl⟩) hHeld ?_
  simp only [Act.put, List.setIfInBounds_toArray, List.set_cons_zero, List.set_cons_succ]
  refine wpAnyH_take (i := 10) (oi := { dst := some 34, op := _, type := _, pos := _, after := _, guard := _ }) (v := ?v2_10) rfl (by kernel_rfl) (by kernel_rfl) (by kernel_rfl) (fun _ _ _ h => h) (Or.inl ⟨by rfl, ?hy2_10⟩) hHeld ?_
  case hy2_10 => (intro w hSw; (try dsimp only at hSw); go_simp; try with_reducible rfl)
  simp only [Act.put, List.setIfInBounds_toArray, List.set_cons_zero, List.set_cons_succ]
  refine wpAnyH_take (i := 11) (oi := { dst := some 35, op := _, type := _, pos := _, after := _, guard := _ }) (v := ?v2_11) rfl (by kernel_rfl) (by kernel_rfl) (by kernel_rfl) (fun _ _ _ h => h) (Or.inl ⟨by rfl, ?hy2_11⟩) hHeld ?_
  case hy2_11 => (intro w hSw; (try dsimp only at hSw); go_simp; try with_reducible rfl)
  simp only [Act.put, List.setIfInBounds_toArray, List.set_cons_zero, List.set_cons_succ]
  refine wpAnyH_take (i := 12) (oi := { dst := some 36, op := _, type := _, pos := _, after := _, guard := _ }) (v := ?v2_12) rfl (by kernel_rfl) (by kernel_rfl) (by kernel_rfl) (fun _ _ _ h => h) (Or.inl ⟨by rfl, ?hy2_12⟩) hHeld ?_
  case hy2_12 => (intro w hSw; (try dsimp only at hSw); go_simp; try with_reducible rfl)
  simp only [Act.put, List.setIfInBounds_toArray, List.set_cons_zero, List.set_cons_succ]
  refine wpAnyH_take (i := 13) (oi := { dst := some 37, op := _, type := _, pos := _, after := _, guard := _ }) (v := ?v2_13) rfl (by kernel_rfl) (by kernel_rfl) (by kernel_rfl) (fun _ _ _ h => h) (Or.inl ⟨by rfl, ?hy2_13⟩) hHeld ?_
  case hy2_13 => (intro w hSw; (try dsimp only at hSw); go_simp; try with_reducible rfl)
  simp only [Act.put, List.setIfInBounds_toArray, List.set_cons_zero, List.set_cons_succ]
  refine wpAnyH_take (i := 14) (oi := { dst := some 38, op := _, type := _, pos := _, after := _, guard := _ }) (v := ?v2_14) rfl (by kernel_rfl) (by kernel_rfl) (by kernel_rfl) (fun _ _ _ h => h) (Or.inl ⟨by rfl, ?hy2_14⟩) hHeld ?_
  case hy2_14 => (intro w hSw; (try dsimp only at hSw); go_simp; try with_reducible rfl)
  simp only [Act.put, List.setIfInBounds_toArray, List.set_cons_zero, List.set_cons_succ]
  refine wpAnyH_take (i := 15) (oi := { dst := some 39, op := _, type := _, pos := _, after := _, guard := _ }) (v := ?v2_15) rfl (by kernel_rfl) (by kernel_rfl) (by kernel_rfl) (fun _ _ _ h => h) (Or.inl ⟨by rfl, ?hy2_15⟩) hHeld ?_
  case hy2_15 => (intro w hSw; (try dsimp only at hSw); go_simp; try with_reducible rfl)
  simp only [Act.put, List.setIfInBounds_toArray, List.set_cons_zero, List.set_cons_succ]
  refine wpAnyH_take (i := 16) (oi := { dst := some 40, op := _, type := _, pos := _, after := _, guard := _ }) (v := ?v2_16) rfl (by kernel_rfl) (by kernel_rfl) (by kernel_rfl) (fun _ _ _ h => h) (Or.inl ⟨by rfl, ?hy2_16⟩) hHeld ?_
  case hy2_16 => (intro w hSw; (try dsimp only at hSw); go_simp; try with_reducible rfl)
  simp only [Act.put, List.setIfInBounds_toArray, List.set_cons_zero, List.set_cons_succ]
  refine wpAnyH_take (i := 17) (oi := { dst := some 41, op := _, type := _, pos := _, after := _, guard := _ }) (v := ?v2_17) rfl (by kernel_rfl) (by kernel_rfl) (by kernel_rfl) (fun _ _ _ h => h) (Or.inl ⟨by rfl, ?hy2_17⟩) hHeld ?_
  case hy2_17 => (intro w hSw; (try dsimp only at hSw); go_simp; try with_reducible rfl)
  simp only [Act.put, List.setIfInBounds_toArray, List.set_cons_zero, List.set_cons_succ]
  refine wpAnyH_take (i := 18) (oi := { dst := some 42, op := _, type := _, pos := _, after := _, guard := _ }) (v := ?v2_18) rfl (by kernel_rfl) (by kernel_rfl) (by kernel_rfl) (fun _ _ _ h => h) (Or.inl ⟨by rfl, ?hy2_18⟩) hHeld ?_
  case hy2_18 => (intro w hSw; (try dsimp only at hSw); go_simp; try with_reducible rfl)
  simp only [Act.put, List.setIfInBounds_toArray, List.set_cons_zero, List.set_cons_succ]
  refine wpAnyH_ready (rs := [19]) (by kernel_rfl) (by simp) ?_
  refine AllReadyH.cons (o := { dst := some 43, op := _, type := _, pos := _, after := _, guard := _ }) rfl (fun K hK => ?_) AllReadyH.nil
  go_simp
  go_at_call 11
  refine (XR.out _ (by assumption)).mono ?_
  rintro e1 v0 ⟨rfl, hs1⟩
  refine hK.out _ _ hs1 (fun hHeld => ?_)
  clear hK K
  refine wpAnyH_take (i := 20) (oi := { dst := some 44, op := _, type := _, pos := _, after := _, guard := _ }) (v := ?v2_20) rfl (by kernel_rfl) (by kernel_rfl) (by kernel_rfl) (fun _ _ _ h => h) (Or.inl ⟨by rfl, ?hy2_20⟩) hHeld ?_
  case hy2_20 => (intro w hSw; (try dsimp only at hSw); go_simp; try with_reducible rfl)
  simp only [Act.put, List.setIfInBounds_toArray, List.set_cons_zero, List.set_cons_succ]
  refine wpAnyH_take (i := 21) (oi := { dst := some 45, op := _, type := _, pos := _, after := _, guard := _ }) (v := ?v2_21) rfl (by kernel_rfl) (by kernel_rfl) (by kernel_rfl) (fun _ _ _ h => h) (Or.inl ⟨by rfl, ?hy2_21⟩) hHeld ?_
  case hy2_21 => (intro w hSw; (try dsimp only at hSw); go_simp; try with_reducible rfl)
  simp only [Act.put, List.setIfInBounds_toArray, List.set_cons_zero, List.set_cons_succ]
  refine wpAnyH_take (i := 22) (oi := { dst := some 46, op := _, type := _, pos := _, after := _, guard := _ }) (v := ?v2_22) rfl (by kernel_rfl) (by kernel_rfl) (by kernel_rfl) (fun _ _ _ h => h) (Or.inl ⟨by rfl, ?hy2_22⟩) hHeld ?_
  case hy2_22 => (intro w hSw; (try dsimp only at hSw); go_simp; try with_reducible rfl)
  simp only [Act.put, List.setIfInBounds_toArray, List.set_cons_zero, List.set_cons_succ]
  refine wpAnyH_done (by kernel_rfl) ?_ _
  have K0 : Hid (One W W.heap.size p q r _) := Lib.hid ⟨hs1.1, hs1.2.1, hs1.2.2.1, hs1.2.2.2.2.2.2⟩
  obtain ⟨z0, z1, z2, _⟩ := K0.out
  clear hs1
  go_wp2_with fail
  refine (HN _ (HT.out.on K0.out.2.2.2)).mono ?_
  rintro e v1 ⟨rfl, hv1⟩
  have K1 := Lib.hid (One.on K0.out hv1)
  obtain ⟨d0, d1, d2, _⟩ := K1.out
  clear hv1
  go_wp2_with fail
  refine (HE _ (HT.out.on K1.out.2.2.2)).mono ?_
  rintro e v2 ⟨rfl, hv2⟩
  have K2 := Lib.hid (One.on K1.out hv2)
  clear d0 d1 d2
  obtain ⟨d0, d1, d2, _⟩ := K2.out
  clear hv2
  go_wp2_with fail
  refine (HM _).mono ?_
  rintro e v3 ⟨rfl, hv3⟩
  have K3 := Lib.hid (One.on K2.out hv3)
  clear hv3
  go_wp2_with fail
  go_ret
  exact ⟨rfl, K3.out.2.2.2⟩
theorem walk (c y p q r : Int) (w0 : (Lit.int .i64 c).wf = true) (w1 : (Lit.int .i64 y).wf = true) (w2 : (Lit.int .i64 p).wf = true) (w3 : (Lit.int .i64 q).wf = true) (w4 : (Lit.int .i64 r).wf = true) (W : World) (ht0 : CTab W ∧ LTab W) :
    Calls Tryd.prog 3 #[.int .i64 c, .int .i64 y, dtv p q r] W fun e w' => e = .returned (.bool true) ∧ Below W.heap.size W w' := by
  have ht : PT W := ⟨ht0.1, ht0.2⟩
  have HA := fun w => rfail_any c y w
  have H1 := fun w ht => pfu_any c y w w0 ht
  have HN := fun w ht => pnm_any c p q r w w0 ht
  have HE := fun w ht => r9f_any c p q r w ht
  by_cases h : epE c y = 0
  · rw [h] at HA
    rw [(pu_ok h).1, (pu_ok h).2.1, (pu_ok h).2.2, h] at H1
    have HR := fun w ht => r9fu_any c y w h ht
    by_cases h2 : nmE c p q r = 0
    · have h3 : epE c p = 0 := by
        by_cases g : epE c p = 0
        · exact g
        · rw [(nmE_no c p q r g).1] at h2; exact h2
      have h4 : nmB c p q r = bears q r (lab c p) := nm_found h3
      rw [h2, h4] at HN
      rw [h2] at HE
      exact walk_11 c y p q r _ _ _ H1 HA HR HN HE (fun w => r9nm_any c p q r w h3) W ht
    · have h4 : nmB c p q r = false := by unfold nmB; rw [decide_eq_false h2, Bool.false_and]
      rw [h4] at HN
      exact walk_10 c y p q r _ _ _ H1 HA HR HN HE (beq_eq_false_iff_ne.2 h2) W ht
  · rw [(pu_no h).1, (pu_no h).2.1, (pu_no h).2.2] at H1
    by_cases h2 : nmE c p q r = 0
    · have h3 : epE c p = 0 := by
        by_cases g : epE c p = 0
        · exact g
        · rw [(nmE_no c p q r g).1] at h2; exact h2
      have h4 : nmB c p q r = bears q r (lab c p) := nm_found h3
      rw [h2, h4] at HN
      rw [h2] at HE
      exact walk_01 c y p q r _ _ H1 HA HN HE (fun w => r9nm_any c p q r w h3) (tE_ne h) (beq_eq_false_iff_ne.2 h) W ht
    · have h4 : nmB c p q r = false := by unfold nmB; rw [decide_eq_false h2, Bool.false_and]
      rw [h4] at HN
      exact walk_00 c y p q r _ _ H1 HA HN HE (tE_ne h) (beq_eq_false_iff_ne.2 h) (beq_eq_false_iff_ne.2 h2) W ht

/-! ### the row's step -/
set_option maxRecDepth 100000 in
theorem lifted (os : Os) (started : os.Started) (H : Type) (enc : TypeId × Value → H) :
    ReturnsInHanded {} Tryd.checked os 3 .any (fun w args => (Rows.paschalMatchesReferenceSpec.pre enc Tryd.prog Tryd.f3 [] false w args ∧ laidMetH Tryd.prog laidL w) ∧ sizedMet enc Tryd.prog Tryd.f3 (OpenSpec.ofChange Rows.paschalMatchesReferenceSpec) false w args)
      (Rows.paschalMatchesReferenceSpec.post enc Tryd.prog Tryd.f3 false true false false) := by
  refine returnsInHanded_of_change_and (C := Tryd.checked) (X := fun w _ => laidMetH Tryd.prog laidL w) (fun _ _ _ hh h => h.of_heap hh) own started (by kernel_rfl) Tryd.func3
    (ChangeSpec.witness_shaped (enc := enc) (C := Tryd.checked) (os := os) (X := fun w _ => laidMetH Tryd.prog laidL w) false (World.doorLaid Tryd.prog 400 os) #[.int .i64 0, .int .i64 0, .agg #[.int .i64 0, .int .i64 0, .int .i64 0]] 8 rfl (World.shaped_of_RefB (by kernel_rfl) (by kernel_rfl)) (by kernel_rfl) (by kernel_rfl) (by kernel_rfl) (door_met os _)) ?_
  intro W base args ds gs before hval0 hW _ _ hL _
  have hval : ∀ (j : Nat) t v, Tryd.f3.params[j]? = some t → args[j]? = some v → Value.okWide Tryd.prog W .any base t v := hval0
  have hW' := hW
  obtain ⟨p, q, hA0, hV, rfl, hfz, hnd⟩ := hW
  have hA : DataW.TrodAll enc Tryd.prog W 0 (fun _ => true) true Tryd.f3.params.toList args.toList ds p := hA0
  rw [Tryd.params3] at hA hval
  obtain ⟨v0, vs0, d0, ds0, p0, q0, hargs, rfl, rfl, h0, r0⟩ := trodAll_cons hA
  obtain ⟨v1, vs1, d1, ds1, p1, q1, rfl, rfl, rfl, h1, r1⟩ := trodAll_cons r0
  obtain ⟨v2, vs2, d2, ds2, p2, q2, rfl, rfl, rfl, h2, r2⟩ := trodAll_cons r1
  obtain ⟨rfl, rfl, rfl⟩ := trodAll_nil r2
  obtain rfl : args = #[v0, v1, v2] := by cases args; simp_all
  obtain ⟨rfl, rfl⟩ := trodVars_none hV
  obtain ⟨a0, rfl, rfl, rfl, w0⟩ := open_int Tryd.underlying3 (hval 0 3 v0 rfl rfl) h0
  obtain ⟨a1, rfl, rfl, rfl, w1⟩ := open_int Tryd.underlying3 (hval 1 3 v1 rfl rfl) h1
  obtain ⟨c2_0, c2_1, c2_2, y2_0, y2_1, y2_2, m2, rfl, rfl, rfl, hy2_0, hy2_1, hy2_2⟩ := open_agg3 Tryd.underlying23 (by kernel_rfl) (show Tryd.prog.cellsOf 23 = 3 by kernel_rfl) (hval 2 23 v2 rfl rfl) h2
  obtain ⟨f2_0, e2_0, rfl, w2_0⟩ := DataW.trod_int Tryd.underlying3 hy2_0
  simp at e2_0; subst e2_0
  obtain ⟨f2_1, e2_1, rfl, w2_1⟩ := DataW.trod_int Tryd.underlying3 hy2_1
  simp at e2_1; subst e2_1
  obtain ⟨f2_2, e2_2, rfl, w2_2⟩ := DataW.trod_int Tryd.underlying3 hy2_2
  simp at e2_2; subst e2_2
  clear hA0 hval0
  simp only [List.append_nil] at hW'
  have sr2 : ∀ (W' : World) (sp : Nat → Bool), DataW.Trod enc Tryd.prog W' 0 sp true 23 (.agg #[.int .i64 f2_0, .int .i64 f2_1, .int .i64 f2_2]) (.agg [.lit (.int .i64 f2_0), .lit (.int .i64 f2_1), .lit (.int .i64 f2_2)]) [] := fun W' sp =>
    shut_agg3 (y0 := (.lit (.int .i64 f2_0), [])) (y1 := (.lit (.int .i64 f2_1), [])) (y2 := (.lit (.int .i64 f2_2), [])) Tryd.underlying23 (by kernel_rfl) (show Tryd.prog.cellsOf 23 = 3 by kernel_rfl) ⟨1, by simp [DataW.trod, Tryd.underlying3, w2_0]⟩ ⟨1, by simp [DataW.trod, Tryd.underlying3, w2_1]⟩ ⟨1, by simp [DataW.trod, Tryd.underlying3, w2_2]⟩
  refine (walk a0 a1 f2_0 f2_1 f2_2 w0 w1 w2_0 w2_1 w2_2 W (laid_facts hL)).mono fun e W' ⟨he, bel⟩ => ?_
  subst he
  exact ⟨_, rfl, _, _, _, [], _, [], hW', trodAll_mk1 (shut_bool Tryd.underlying4 _), (trodAll_cons_mk (shut_int Tryd.underlying3 w0) (trodAll_cons_mk (shut_int Tryd.underlying3 w1) (trodAll_cons_mk (sr2 _ _) trodAll_mk0))), rfl, bel.frame _, fun h => by cases h⟩

theorem over : Rows.paschalMatchesReferenceRow.holds Tryd.pinned (OpenSpec.ofChange Rows.paschalMatchesReferenceSpec) :=
  OpenClaim.holds_of_wide 3 Tryd.f3 rfl rfl rfl rfl rfl rfl rfl ⟨rfl, rfl, rfl, rfl, rfl⟩ rfl rfl rfl rfl rfl (by kernel_rfl) Tryd.func3 (by kernel_rfl)
    (of_decide_eq_true (by kernel_rfl)) (by unfold Func.isWrapper; first | (rw [if_pos (by decide +kernel)]; kernel_rfl) | (rw [if_neg (by decide +kernel)]; exact ⟨rfl, rfl⟩))
    (fun os started H enc _ => lifted os started H enc)

/-- The statement: the tied card. -/
theorem proved : Rows.PaschalMatchesReferenceCardSaid :=
  Claim7.holds_tied_plain_at .later [] [.data, .data, .data, .data, .data] true (true, "1237d3f1e50856818fa86864392605a27e6a3b74ca523ef2395e1d47a8fcbeee") false
    over (fun _ h => by cases h) (by kernel_rfl) (fun _ h => by cases h) paschalMatchesReference_row_tie rfl ⟨rfl, rfl⟩ (by kernel_rfl) rfl
    (fun f fn hf hfn => by
      obtain rfl : f = 3 := Option.some.inj ((show Tryd.prog.funcNamed "computus/computuslaw09.PaschalMatchesReference" = some 3 by kernel_rfl).symm.trans hf) |>.symm
      obtain rfl : fn = Tryd.f3 := (Option.some.inj (Tryd.func3.symm.trans hfn)).symm
      exact ⟨by kernel_rfl, fun j t ht => by
        rw [Tryd.params3] at ht
        have hm : t ∈ [3, 3, 23] := by simpa using Array.mem_of_getElem? ht
        have hall : ([3, 3, 23].all fun u => !Tryd.prog.wantsStandIn u) = true := by kernel_rfl
        exact (show Tryd.prog.wantsStandIn t = false by simpa using List.all_eq_true.1 hall t hm)⟩)
    (by kernel_rfl)
#print axioms proved
end Go.Proofs.YtodmpmcnlbkhhaaDoor.paschalMatchesReference
