/- Proved: for all 64-bit integers calendar and year and for every date, the law EasterMatchesReference of package computuslaw10 (Day, Date and Offset of package easter answer as their references do) returns true, and what was in memory is as it was. Condition: the tables of packages julian, gregorian and label (the lengths of the months, the groups of years, the beginnings of the lunations) read as the program's text lays them (the card ties them). -/
import Derived.Test.YtenapnmbdilabaaGreatDoorKs
import Derived.Test.YtenapnmbdilabaaGreatDoorVy
import Derived.WalkKit
import Derived.ProofKit
import Derived.OpenShut
import Derived.ShutString
import Derived.Lib.SmallJoins
import Derived.Deep.RegionHeld3
import Derived.LaidMore
import Derived.Stop.Joined
import Derived.SevenTiedAt
import Derived.Test.YtenapnmbdilabaaGreatDoorCards
import Derived.Test.YtenapnmbdilabaaGreatDoorTie
namespace Go.Proofs.YtenapnmbdilabaaGreatDoor.easterMatchesReference
open Go.ChangeShapes Go.WideShapes Go.ChangeAt Go.RowKit Go.Joins
open Go.ChangeMaps (open_string shut_string)
set_option linter.unusedVariables false      -- a walk need not use every fact

theorem One.dn {W u : World} {b : Nat} {y m d : Int} (h : One W b y m d u) (n : Nat) : One W b y m d (u.drewN n) := h.on (below_dn (Below.refl _ _) n)
theorem neq_date (y m d : Int) (w : World) : (binOp .neq 23 (dtv y m d) (dtv y m d)).run Tryz.prog w = .ok (.bool false) w := by simp [go_sem]
set_option maxRecDepth 100000 in
set_option maxHeartbeats 1000000 in
theorem walk_00 (c y p q r k f : Int)
    (H1 : ∀ w, PT w → Calls Tryz.prog 6 #[.int .i64 c, .int .i64 y] w fun e w' => e = .returned (numv 0 k) ∧ Below w.heap.size w w')
    (H2 : ∀ w, PT w → Calls Tryz.prog 7 #[.int .i64 c, .int .i64 y] w fun e w' => e = .returned (datv 0 0 0 k) ∧ Below w.heap.size w w')
    (HA : ∀ w, Calls Tryz.prog 8 #[.int .i64 c, .int .i64 y] w fun e w' => e = .returned (.int .i64 k) ∧ w = w')
    (HN : ∀ w, PT w → Calls Tryz.prog 11 #[.int .i64 c, dtv p q r] w fun e w' => e = .returned (numv 0 f) ∧ Below w.heap.size w w')
    (HE : ∀ w, PT w → Calls Tryz.prog 12 #[.int .i64 c, dtv p q r] w fun e w' => e = .returned (.int .i64 f) ∧ Below w.heap.size w w')
    (hk : (k != 0) = true) (hk2 : (k == 0) = false)
    (hf : (f == 0) = false) (hf2 : (f != 0) = true)
    (W : World) (ht : PT W) :
    Calls Tryz.prog 3 #[.int .i64 c, .int .i64 y, dtv p q r] W fun e w' => e = .returned (.bool true) ∧ Below W.heap.size W w' := by
  have HT := Lib.hid ht
  have S0 := Lib.hid (PSt.start ht)
  clear ht
  go_enter Tryz.func3, Tryz.ntmps3
  go_wp2_with fail
  refine (c10awake_any _ (S0.out.al _).t).mono ?_
  rintro e w1 ⟨rfl, hb1⟩
  have S1 := Lib.hid ((S0.out.al _).on hb1)
  have RD1 := Lib.hid (row_on (heap_alloc_new _ _) hb1)
  obtain ⟨cD0, cD1, cD2, gD0, gD1, gD2, zD⟩ := row3 RD1.out
  clear hb1
  go_wp2_with fail
  refine (H1 _ S1.out.t).mono ?_
  rintro e w2 ⟨rfl, hb2⟩
  have S2 := Lib.hid (S1.out.on hb2)
  have RD2 := Lib.hid (row_on RD1.out hb2)
  clear RD1
  clear cD0 cD1 cD2 gD0 gD1 gD2 zD
  obtain ⟨cD0, cD1, cD2, gD0, gD1, gD2, zD⟩ := row3 RD2.out
  clear hb2
  go_wp2_with fail
  refine (H2 _ S2.out.t).mono ?_
  rintro e w3 ⟨rfl, hb3⟩
  have S3 := Lib.hid (S2.out.on hb3)
  have RD3 := Lib.hid (row_on RD2.out hb3)
  clear RD2
  clear cD0 cD1 cD2 gD0 gD1 gD2 zD
  obtain ⟨cD0, cD1, cD2, gD0, gD1, gD2, zD⟩ := row3 RD3.out
  clear hb3
  have nDX := Nat.ne_of_lt zD
  have nXD := (Nat.ne_of_lt zD).symm
  go_wp2_with fail
  refine (HA _).mono ?_
  rintro e wq ⟨rfl, rfl⟩
  have qD := row3 (row_al RD3.out (Obj.cells #[.int .i64 0, .int .i64 0, .int .i64 0] 23))
  have qX := row3 (heap_alloc_new w3 (Obj.cells #[.int .i64 0, .int .i64 0, .int .i64 0] 23))
  have K0 : Hid (One W W.heap.size p q r _) := Lib.hid ⟨qD.1, qD.2.1, qD.2.2.1, (S3.out.al _).b⟩
  clear qD qX H1 H2 HA
  go_wp2_with fail
  go_quiet (fail)
  go_wp2_with fail
  refine (HN _ (HT.out.on (One.dn K0.out _).2.2.2)).mono ?_
  rintro e v1 ⟨rfl, hv1⟩
  have K1 := Lib.hid (One.on (One.dn K0.out _) hv1)
  obtain ⟨d0, d1, d2, _⟩ := K1.out
  clear hv1
  go_wp2_with fail
  refine (HE _ (HT.out.on K1.out.2.2.2)).mono ?_
  rintro e v2 ⟨rfl, hv2⟩
  have K2 := Lib.hid (One.on K1.out hv2)
  clear d0 d1 d2
  obtain ⟨d0, d1, d2, _⟩ := K2.out
  clear hv2
  go_wp2_with fail
  go_ret
  exact ⟨rfl, K2.out.2.2.2⟩
set_option maxRecDepth 100000 in
set_option maxHeartbeats 1000000 in
theorem walk_01 (c y p q r k a b : Int)
    (H1 : ∀ w, PT w → Calls Tryz.prog 6 #[.int .i64 c, .int .i64 y] w fun e w' => e = .returned (numv 0 k) ∧ Below w.heap.size w w')
    (H2 : ∀ w, PT w → Calls Tryz.prog 7 #[.int .i64 c, .int .i64 y] w fun e w' => e = .returned (datv 0 0 0 k) ∧ Below w.heap.size w w')
    (HA : ∀ w, Calls Tryz.prog 8 #[.int .i64 c, .int .i64 y] w fun e w' => e = .returned (.int .i64 k) ∧ w = w')
    (HN : ∀ w, PT w → Calls Tryz.prog 11 #[.int .i64 c, dtv p q r] w fun e w' => e = .returned (numv (a - b) 0) ∧ Below w.heap.size w w')
    (HE : ∀ w, PT w → Calls Tryz.prog 12 #[.int .i64 c, dtv p q r] w fun e w' => e = .returned (.int .i64 0) ∧ Below w.heap.size w w')
    (HQ : ∀ w, PT w → Calls Tryz.prog 13 #[.int .i64 c, dtv p q r] w fun e w' => e = .returned (numv a 0) ∧ Below w.heap.size w w')
    (HD : ∀ w, PT w → Calls Tryz.prog 9 #[.int .i64 c, .int .i64 p] w fun e w' => e = .returned (.int .i64 b) ∧ Below w.heap.size w w')
    (a1 : -1 ≤ a) (a2 : a ≤ 365250000100) (b1 : -1 ≤ b) (b2 : b ≤ 365250000100)
    (hk : (k != 0) = true) (hk2 : (k == 0) = false)
    (W : World) (ht : PT W) :
    Calls Tryz.prog 3 #[.int .i64 c, .int .i64 y, dtv p q r] W fun e w' => e = .returned (.bool true) ∧ Below W.heap.size W w' := by
  have HT := Lib.hid ht
  have S0 := Lib.hid (PSt.start ht)
  clear ht
  go_enter Tryz.func3, Tryz.ntmps3
  go_wp2_with fail
  refine (c10awake_any _ (S0.out.al _).t).mono ?_
  rintro e w1 ⟨rfl, hb1⟩
  have S1 := Lib.hid ((S0.out.al _).on hb1)
  have RD1 := Lib.hid (row_on (heap_alloc_new _ _) hb1)
  obtain ⟨cD0, cD1, cD2, gD0, gD1, gD2, zD⟩ := row3 RD1.out
  clear hb1
  go_wp2_with fail
  refine (H1 _ S1.out.t).mono ?_
  rintro e w2 ⟨rfl, hb2⟩
  have S2 := Lib.hid (S1.out.on hb2)
  have RD2 := Lib.hid (row_on RD1.out hb2)
  clear RD1
  clear cD0 cD1 cD2 gD0 gD1 gD2 zD
  obtain ⟨cD0, cD1, cD2, gD0, gD1, gD2, zD⟩ := row3 RD2.out
  clear hb2
  go_wp2_with fail
  refine (H2 _ S2.out.t).mono ?_
  rintro e w3 ⟨rfl, hb3⟩
  have S3 := Lib.hid (S2.out.on hb3)
  have RD3 := Lib.hid (row_on RD2.out hb3)
  clear RD2
  clear cD0 cD1 cD2 gD0 gD1 gD2 zD
  obtain ⟨cD0, cD1, cD2, gD0, gD1, gD2, zD⟩ := row3 RD3.out
  clear hb3
  have nDX := Nat.ne_of_lt zD
  have nXD := (Nat.ne_of_lt zD).symm
  go_wp2_with fail
  refine (HA _).mono ?_
  rintro e wq ⟨rfl, rfl⟩
  have qD := row3 (row_al RD3.out (Obj.cells #[.int .i64 0, .int .i64 0, .int .i64 0] 23))
  have qX := row3 (heap_alloc_new w3 (Obj.cells #[.int .i64 0, .int .i64 0, .int .i64 0] 23))
  have K0 : Hid (One W W.heap.size p q r _) := Lib.hid ⟨qD.1, qD.2.1, qD.2.2.1, (S3.out.al _).b⟩
  clear qD qX H1 H2 HA
  go_wp2_with fail
  go_quiet (fail)
  go_wp2_with fail
  refine (HN _ (HT.out.on (One.dn K0.out _).2.2.2)).mono ?_
  rintro e v1 ⟨rfl, hv1⟩
  have K1 := Lib.hid (One.on (One.dn K0.out _) hv1)
  obtain ⟨d0, d1, d2, _⟩ := K1.out
  clear hv1
  go_wp2_with fail
  refine (HE _ (HT.out.on K1.out.2.2.2)).mono ?_
  rintro e v2 ⟨rfl, hv2⟩
  have K2 := Lib.hid (One.on K1.out hv2)
  clear d0 d1 d2
  obtain ⟨d0, d1, d2, _⟩ := K2.out
  clear hv2
  go_wp2_with fail
  refine (HQ _ (HT.out.on K2.out.2.2.2)).mono ?_
  rintro e v3 ⟨rfl, hv3⟩
  have K3 := Lib.hid (One.on K2.out hv3)
  clear d0 d1 d2
  obtain ⟨d0, d1, d2, _⟩ := K3.out
  clear hv3
  go_wp2_with fail
  refine (HD _ (HT.out.on K3.out.2.2.2)).mono ?_
  rintro e v4 ⟨rfl, hv4⟩
  have K4 := Lib.hid (One.on K3.out hv4)
  clear d0 d1 d2
  obtain ⟨d0, d1, d2, _⟩ := K4.out
  clear hv4
  go_wp2_with fail
  go_ret
  exact ⟨rfl, K4.out.2.2.2⟩
set_option maxRecDepth 100000 in
set_option maxHeartbeats 1000000 in
theorem walk_10 (c y p q r n m d f : Int)
    (H1 : ∀ w, PT w → Calls Tryz.prog 6 #[.int .i64 c, .int .i64 y] w fun e w' => e = .returned (numv n 0) ∧ Below w.heap.size w w')
    (H2 : ∀ w, PT w → Calls Tryz.prog 7 #[.int .i64 c, .int .i64 y] w fun e w' => e = .returned (datv y m d 0) ∧ Below w.heap.size w w')
    (HA : ∀ w, Calls Tryz.prog 8 #[.int .i64 c, .int .i64 y] w fun e w' => e = .returned (.int .i64 0) ∧ w = w')
    (HR : ∀ w, PT w → Calls Tryz.prog 9 #[.int .i64 c, .int .i64 y] w fun e w' => e = .returned (.int .i64 n) ∧ Below w.heap.size w w')
    (HS : ∀ w, PT w → Calls Tryz.prog 10 #[.int .i64 c, .int .i64 y] w fun e w' => e = .returned (dtv y m d) ∧ Below w.heap.size w w')
    (HN : ∀ w, PT w → Calls Tryz.prog 11 #[.int .i64 c, dtv p q r] w fun e w' => e = .returned (numv 0 f) ∧ Below w.heap.size w w')
    (HE : ∀ w, PT w → Calls Tryz.prog 12 #[.int .i64 c, dtv p q r] w fun e w' => e = .returned (.int .i64 f) ∧ Below w.heap.size w w')
    (hf : (f == 0) = false) (hf2 : (f != 0) = true)
    (W : World) (ht : PT W) :
    Calls Tryz.prog 3 #[.int .i64 c, .int .i64 y, dtv p q r] W fun e w' => e = .returned (.bool true) ∧ Below W.heap.size W w' := by
  have HT := Lib.hid ht
  have S0 := Lib.hid (PSt.start ht)
  clear ht
  go_enter Tryz.func3, Tryz.ntmps3
  go_wp2_with fail
  refine (c10awake_any _ (S0.out.al _).t).mono ?_
  rintro e w1 ⟨rfl, hb1⟩
  have S1 := Lib.hid ((S0.out.al _).on hb1)
  have RD1 := Lib.hid (row_on (heap_alloc_new _ _) hb1)
  obtain ⟨cD0, cD1, cD2, gD0, gD1, gD2, zD⟩ := row3 RD1.out
  clear hb1
  go_wp2_with fail
  refine (H1 _ S1.out.t).mono ?_
  rintro e w2 ⟨rfl, hb2⟩
  have S2 := Lib.hid (S1.out.on hb2)
  have RD2 := Lib.hid (row_on RD1.out hb2)
  clear RD1
  clear cD0 cD1 cD2 gD0 gD1 gD2 zD
  obtain ⟨cD0, cD1, cD2, gD0, gD1, gD2, zD⟩ := row3 RD2.out
  clear hb2
  go_wp2_with fail
  refine (H2 _ S2.out.t).mono ?_
  rintro e w3 ⟨rfl, hb3⟩
  have S3 := Lib.hid (S2.out.on hb3)
  have RD3 := Lib.hid (row_on RD2.out hb3)
  clear RD2
  clear cD0 cD1 cD2 gD0 gD1 gD2 zD
  obtain ⟨cD0, cD1, cD2, gD0, gD1, gD2, zD⟩ := row3 RD3.out
  clear hb3
  have nDX := Nat.ne_of_lt zD
  have nXD := (Nat.ne_of_lt zD).symm
  go_wp2_with fail
  refine (HA _).mono ?_
  rintro e wq ⟨rfl, rfl⟩
  have qD := row3 (row_al RD3.out (Obj.cells #[.int .i64 y, .int .i64 m, .int .i64 d] 23))
  have qX := row3 (heap_alloc_new w3 (Obj.cells #[.int .i64 y, .int .i64 m, .int .i64 d] 23))
  have Hs := Lib.hid (show Two W (W.heap.size) (w3.heap.size) p q r y m d _ from ⟨qD.1, qD.2.1, qD.2.2.1, qX.1, qX.2.1, qX.2.2.1, (S3.out.al _).b⟩).drew
  have XR := Lib.hid (fun u (hu : Two W (W.heap.size) (w3.heap.size) p q r y m d u) => (HR u (HT.out.on hu.2.2.2.2.2.2)).mono (R' := fun e u' => e = .returned (.int .i64 n) ∧ Two W (W.heap.size) (w3.heap.size) p q r y m d u') fun e u' ⟨he, hb⟩ => ⟨he, hu.on hb⟩)
  have XS := Lib.hid (fun u (hu : Two W (W.heap.size) (w3.heap.size) p q r y m d u) => (HS u (HT.out.on hu.2.2.2.2.2.2)).mono (R' := fun e u' => e = .returned (dtv y m d) ∧ Two W (W.heap.size) (w3.heap.size) p q r y m d u') fun e u' ⟨he, hb⟩ => ⟨he, hu.on hb⟩)
  have hE := neq_date y m d
  clear qD qX H1 H2 HA HR HS
  go_wp2_with fail
  refine wp_region_held_drew (S := fun u => u.cell? ⟨W.heap.size, 0, none⟩ = some (.int .i64 p) ∧ u.cell? ⟨W.heap.size, 1, none⟩ = some (.int .i64 q) ∧ u.cell? ⟨W.heap.size, 2, none⟩ = some (.int .i64 r) ∧ u.cell? ⟨w3.heap.size, 0, none⟩ = some (.int .i64 y) ∧ u.cell? ⟨w3.heap.size, 1, none⟩ = some (.int .i64 m) ∧ u.cell? ⟨w3.heap.size, 2, none⟩ = some (.int .i64 d) ∧ Below W.heap.size W u) (by kernel_rfl) Hs.out (fun hHeld => ?_)
  refine wpAnyH_take (i := 0) (oi := { dst := some 42, op := _, type := _, pos := _, after := _, guard := _ }) (v := ?v1_0) rfl (by kernel_rfl) (by kernel_rfl) (by kernel_rfl) (fun _ _ _ h => h) (Or.inl ⟨by rfl, ?hy1_0⟩) hHeld ?_
  case hy1_0 => (intro w hSw; (try dsimp only at hSw); go_simp; try with_reducible rfl)
  simp only [Act.put, List.setIfInBounds_toArray, List.set_cons_zero, List.set_cons_succ]
  refine wpAnyH_take (i := 1) (oi := { dst := some 43, op := _, type := _, pos := _, after := _, guard := _ }) (v := ?v1_1) rfl (by kernel_rfl) (by kernel_rfl) (by kernel_rfl) (fun _ _ _ h => h) (Or.inl ⟨by rfl, ?hy1_1⟩) hHeld ?_
  case hy1_1 => (intro w hSw; (try dsimp only at hSw); go_simp; try with_reducible rfl)
  simp only [Act.put, List.setIfInBounds_toArray, List.set_cons_zero, List.set_cons_succ]
  refine wpAnyH_take (i := 2) (oi := { dst := some 44, op := _, type := _, pos := _, after := _, guard := _ }) (v := ?v1_2) rfl (by kernel_rfl) (by kernel_rfl) (by kernel_rfl) (fun _ _ _ h => h) (Or.inl ⟨by rfl, ?hy1_2⟩) hHeld ?_
  case hy1_2 => (intro w hSw; (try dsimp only at hSw); go_simp; try with_reducible rfl)
  simp only [Act.put, List.setIfInBounds_toArray, List.set_cons_zero, List.set_cons_succ]
  refine wpAnyH_take (i := 3) (oi := { dst := some 45, op := _, type := _, pos := _, after := _, guard := _ }) (v := undef) rfl (by kernel_rfl) (by kernel_rfl) (by kernel_rfl) (fun _ _ _ h => h) (Or.inr ⟨by rfl, rfl⟩) hHeld ?_
  simp only [Act.put, List.setIfInBounds_toArray, List.set_cons_zero, List.set_cons_succ]
  refine wpAnyH_take (i := 4) (oi := { dst := some 46, op := _, type := _, pos := _, after := _, guard := _ }) (v := undef) rfl (by kernel_rfl) (by kernel_rfl) (by kernel_rfl) (fun _ _ _ h => h) (Or.inr ⟨by rfl, rfl⟩) hHeld ?_
  simp only [Act.put, List.setIfInBounds_toArray, List.set_cons_zero, List.set_cons_succ]
  refine wpAnyH_take (i := 5) (oi := { dst := some 47, op := _, type := _, pos := _, after := _, guard := _ }) (v := undef) rfl (by kernel_rfl) (by kernel_rfl) (by kernel_rfl) (fun _ _ _ h => h) (Or.inr ⟨by rfl, rfl⟩) hHeld ?_
  simp only [Act.put, List.setIfInBounds_toArray, List.set_cons_zero, List.set_cons_succ]
  refine wpAnyH_take (i := 6) (oi := { dst := some 48, op := _, type := _, pos := _, after := _, guard := _ }) (v := undef) rfl (by kernel_rfl) (by kernel_rfl) (by kernel_rfl) (fun _ _ _ h => h) (Or.inr ⟨by rfl, rfl⟩) hHeld ?_
  simp only [Act.put, List.setIfInBounds_toArray, List.set_cons_zero, List.set_cons_succ]
  refine wpAnyH_take (i := 7) (oi := { dst := some 49, op := _, type := _, pos := _, after := _, guard := _ }) (v := undef) rfl (by kernel_rfl) (by kernel_rfl) (by kernel_rfl) (fun _ _ _ h => h) (Or.inr ⟨by rfl, rfl⟩) hHeld ?_
  simp only [Act.put, List.setIfInBounds_toArray, List.set_cons_zero, List.set_cons_succ]
  refine wpAnyH_take (i := 8) (oi := { dst := some 50, op := _, type := _, pos := _, after := _, guard := _ }) (v := undef) rfl (by kernel_rfl) (by kernel_rfl) (by kernel_rfl) (fun _ _ _ h => h) (Or.inr ⟨by rfl, rfl⟩) hHeld ?_
  simp only [Act.put, List.setIfInBounds_toArray, List.set_cons_zero, List.set_cons_succ]
  refine wpAnyH_take (i := 9) (oi := { dst := some 51, op := _, type := _, pos := _, after := _, guard := _ }) (v := undef) rfl (by kernel_rfl) (by kernel_rfl) (by kernel_rfl) (fun _ _ _ h => h) (Or.inr ⟨by rfl, rfl⟩) hHeld ?_
  simp only [Act.put, List.setIfInBounds_toArray, List.set_cons_zero, List.set_cons_succ]
  refine wpAnyH_take (i := 10) (oi := { dst := some 52, op := _, type := _, pos := _, after := _, guard := _ }) (v := ?v1_10) rfl (by kernel_rfl) (by kernel_rfl) (by kernel_rfl) (fun _ _ _ h => h) (Or.inl ⟨by rfl, ?hy1_10⟩) hHeld ?_
  case hy1_10 => (intro w hSw; (try dsimp only at hSw); go_simp; try with_reducible rfl)
  simp only [Act.put, List.setIfInBounds_toArray, List.set_cons_zero, List.set_cons_succ]
  refine wpAnyH_take (i := 11) (oi := { dst := some 53, op := _, type := _, pos := _, after := _, guard := _ }) (v := ?v1_11) rfl (by kernel_rfl) (by kernel_rfl) (by kernel_rfl) (fun _ _ _ h => h) (Or.inl ⟨by rfl, ?hy1_11⟩) hHeld ?_
  case hy1_11 => (intro w hSw; (try dsimp only at hSw); go_simp; try with_reducible rfl)
  simp only [Act.put, List.setIfInBounds_toArray, List.set_cons_zero, List.set_cons_succ]
  refine wpAnyH_take (i := 12) (oi := { dst := some 54, op := _, type := _, pos := _, after := _, guard := _ }) (v := ?v1_12) rfl (by kernel_rfl) (by kernel_rfl) (by kernel_rfl) (fun _ _ _ h => h) (Or.inl ⟨by rfl, ?hy1_12⟩) hHeld ?_
  case hy1_12 => (intro w hSw; (try dsimp only at hSw); go_simp; try with_reducible rfl)
  simp only [Act.put, List.setIfInBounds_toArray, List.set_cons_zero, List.set_cons_succ]
  refine wpAnyH_take (i := 13) (oi := { dst := some 55, op := _, type := _, pos := _, after := _, guard := _ }) (v := ?v1_13) rfl (by kernel_rfl) (by kernel_rfl) (by kernel_rfl) (fun _ _ _ h => h) (Or.inl ⟨by rfl, ?hy1_13⟩) hHeld ?_
  case hy1_13 => (intro w hSw; (try dsimp only at hSw); go_simp; try with_reducible rfl)
  simp only [Act.put, List.setIfInBounds_toArray, List.set_cons_zero, List.set_cons_succ]
  refine wpAnyH_take (i := 14) (oi := { dst := some 56, op := _, type := _, pos := _, after := _, guard := _ }) (v := ?v1_14) rfl (by kernel_rfl) (by kernel_rfl) (by kernel_rfl) (fun _ _ _ h => h) (Or.inl ⟨by rfl, ?hy1_14⟩) hHeld ?_
  case hy1_14 => (intro w hSw; (try dsimp only at hSw); go_simp; try with_reducible rfl)
  simp only [Act.put, List.setIfInBounds_toArray, List.set_cons_zero, List.set_cons_succ]
  refine wpAnyH_take (i := 15) (oi := { dst := some 57, op := _, type := _, pos := _, after := _, guard := _ }) (v := ?v1_15) rfl (by kernel_rfl) (by kernel_rfl) (by kernel_rfl) (fun _ _ _ h => h) (Or.inl ⟨by rfl, ?hy1_15⟩) hHeld ?_
  case hy1_15 => (intro w hSw; (try dsimp only at hSw); go_simp; try with_reducible rfl)
  simp only [Act.put, List.setIfInBounds_toArray, List.set_cons_zero, List.set_cons_succ]
  refine wpAnyH_take (i := 16) (oi := { dst := some 58, op := _, type := _, pos := _, after := _, guard := _ }) (v := ?v1_16) rfl (by kernel_rfl) (by kernel_rfl) (by kernel_rfl) (fun _ _ _ h => h) (Or.inl ⟨by rfl, ?hy1_16⟩) hHeld ?_
  case hy1_16 => (intro w hSw; (try dsimp only at hSw); go_simp; try with_reducible rfl)
  simp only [Act.put, List.setIfInBounds_toArray, List.set_cons_zero, List.set_cons_succ]
  refine wpAnyH_take (i := 17) (oi := { dst := some 59, op := _, type := _, pos := _, after := _, guard := _ }) (v := ?v1_17) rfl (by kernel_rfl) (by kernel_rfl) (by kernel_rfl) (fun _ _ _ h => h) (Or.inl ⟨by rfl, ?hy1_17⟩) hHeld ?_
  case hy1_17 => (intro w hSw; (try dsimp only at hSw); go_simp; try with_reducible rfl)
  simp only [Act.put, List.setIfInBounds_toArray, List.set_cons_zero, List.set_cons_succ]
  refine wpAnyH_ready (rs := [18]) (by kernel_rfl) (by simp) ?_
  refine AllReadyH.cons (o := { dst := some 60, op := _, type := _, pos := _, after := _, guard := _ }) rfl (fun K hK => ?_) AllReadyH.nil
  go_simp
  go_at_call 9
  refine (XR.out _ (by assumption)).mono ?_
  rintro e1 v0 ⟨rfl, hs1⟩
  refine hK.out _ _ hs1 (fun hHeld => ?_)
  clear hK K
  refine wpAnyH_take (i := 19) (oi := { dst := some 61, op := _, type := _, pos := _, after := _, guard := _ }) (v := ?v1_19) rfl (by kernel_rfl) (by kernel_rfl) (by kernel_rfl) (fun _ _ _ h => h) (Or.inl ⟨by rfl, ?hy1_19⟩) hHeld ?_
  case hy1_19 => (intro w hSw; (try dsimp only at hSw); go_simp; try with_reducible rfl)
  simp only [Act.put, List.setIfInBounds_toArray, List.set_cons_zero, List.set_cons_succ]
  refine wpAnyH_take (i := 20) (oi := { dst := some 62, op := _, type := _, pos := _, after := _, guard := _ }) (v := ?v1_20) rfl (by kernel_rfl) (by kernel_rfl) (by kernel_rfl) (fun _ _ _ h => h) (Or.inl ⟨by rfl, ?hy1_20⟩) hHeld ?_
  case hy1_20 => (intro w hSw; (try dsimp only at hSw); go_simp; try with_reducible rfl)
  simp only [Act.put, List.setIfInBounds_toArray, List.set_cons_zero, List.set_cons_succ]
  refine wpAnyH_take (i := 21) (oi := { dst := some 63, op := _, type := _, pos := _, after := _, guard := _ }) (v := ?v1_21) rfl (by kernel_rfl) (by kernel_rfl) (by kernel_rfl) (fun _ _ _ h => h) (Or.inl ⟨by rfl, ?hy1_21⟩) hHeld ?_
  case hy1_21 => (intro w hSw; (try dsimp only at hSw); go_simp; try with_reducible rfl)
  simp only [Act.put, List.setIfInBounds_toArray, List.set_cons_zero, List.set_cons_succ]
  refine wpAnyH_take (i := 22) (oi := { dst := some 64, op := _, type := _, pos := _, after := _, guard := _ }) (v := ?v1_22) rfl (by kernel_rfl) (by kernel_rfl) (by kernel_rfl) (fun _ _ _ h => h) (Or.inl ⟨by rfl, ?hy1_22⟩) hHeld ?_
  case hy1_22 => (intro w hSw; (try dsimp only at hSw); go_simp; try with_reducible rfl)
  simp only [Act.put, List.setIfInBounds_toArray, List.set_cons_zero, List.set_cons_succ]
  refine wpAnyH_take (i := 23) (oi := { dst := some 65, op := _, type := _, pos := _, after := _, guard := _ }) (v := ?v1_23) rfl (by kernel_rfl) (by kernel_rfl) (by kernel_rfl) (fun _ _ _ h => h) (Or.inl ⟨by rfl, ?hy1_23⟩) hHeld ?_
  case hy1_23 => (intro w hSw; (try dsimp only at hSw); go_simp; try with_reducible rfl)
  simp only [Act.put, List.setIfInBounds_toArray, List.set_cons_zero, List.set_cons_succ]
  refine wpAnyH_ready (rs := [24]) (by kernel_rfl) (by simp) ?_
  refine AllReadyH.cons (o := { dst := some 66, op := _, type := _, pos := _, after := _, guard := _ }) rfl (fun K hK => ?_) AllReadyH.nil
  go_simp
  go_at_call 10
  refine (XS.out _ (by assumption)).mono ?_
  rintro e2 v9 ⟨rfl, hs2⟩
  refine hK.out _ _ hs2 (fun hHeld => ?_)
  clear hK K
  refine wpAnyH_take (i := 25) (oi := { dst := some 67, op := _, type := _, pos := _, after := _, guard := _ }) (v := ?v1_25) rfl (by kernel_rfl) (by kernel_rfl) (by kernel_rfl) (fun _ _ _ h => h) (Or.inl ⟨by rfl, ?hy1_25⟩) hHeld ?_
  case hy1_25 => (intro w hSw; (try dsimp only at hSw); go_simp; try with_reducible rfl)
  simp only [Act.put, List.setIfInBounds_toArray, List.set_cons_zero, List.set_cons_succ]
  refine wpAnyH_take (i := 26) (oi := { dst := some 68, op := _, type := _, pos := _, after := _, guard := _ }) (v := ?v1_26) rfl (by kernel_rfl) (by kernel_rfl) (by kernel_rfl) (fun _ _ _ h => h) (Or.inl ⟨by rfl, ?hy1_26⟩) hHeld ?_
  case hy1_26 => (intro w hSw; (try dsimp only at hSw); go_simp; try with_reducible rfl)
  simp only [Act.put, List.setIfInBounds_toArray, List.set_cons_zero, List.set_cons_succ]
  refine wpAnyH_take (i := 27) (oi := { dst := some 69, op := _, type := _, pos := _, after := _, guard := _ }) (v := ?v1_27) rfl (by kernel_rfl) (by kernel_rfl) (by kernel_rfl) (fun _ _ _ h => h) (Or.inl ⟨by rfl, ?hy1_27⟩) hHeld ?_
  case hy1_27 => (intro w hSw; (try dsimp only at hSw); go_simp; try with_reducible rfl)
  simp only [Act.put, List.setIfInBounds_toArray, List.set_cons_zero, List.set_cons_succ]
  refine wpAnyH_take (i := 28) (oi := { dst := some 70, op := _, type := _, pos := _, after := _, guard := _ }) (v := ?v1_28) rfl (by kernel_rfl) (by kernel_rfl) (by kernel_rfl) (fun _ _ _ h => h) (Or.inl ⟨by rfl, ?hy1_28⟩) hHeld ?_
  case hy1_28 => (intro w hSw; (try dsimp only at hSw); go_simp; try with_reducible rfl)
  simp only [Act.put, List.setIfInBounds_toArray, List.set_cons_zero, List.set_cons_succ]
  refine wpAnyH_done (by kernel_rfl) ?_ _
  have K0 : Hid (One W W.heap.size p q r _) := Lib.hid ⟨hs2.1, hs2.2.1, hs2.2.2.1, hs2.2.2.2.2.2.2⟩
  obtain ⟨z0, z1, z2, _⟩ := K0.out
  clear hs1 hs2
  go_wp2_with fail
  refine (HN _ (HT.out.on K0.out.2.2.2)).mono ?_
  rintro e v1 ⟨rfl, hv1⟩
  have K1 := Lib.hid (One.on K0.out hv1)
  obtain ⟨d0, d1, d2, _⟩ := K1.out
  clear hv1
  go_wp2_with fail
  refine (HE _ (HT.out.on K1.out.2.2.2)).mono ?_
  rintro e v2 ⟨rfl, hv2⟩
  have K2 := Lib.hid (One.on K1.out hv2)
  clear d0 d1 d2
  obtain ⟨d0, d1, d2, _⟩ := K2.out
  clear hv2
  go_wp2_with fail
  go_ret
  exact ⟨rfl, K2.out.2.2.2⟩
set_option maxRecDepth 100000 in
set_option maxHeartbeats 1000000 in
theorem walk_11 (c y p q r n m d a b : Int)
    (H1 : ∀ w, PT w → Calls Tryz.prog 6 #[.int .i64 c, .int .i64 y] w fun e w' => e = .returned (numv n 0) ∧ Below w.heap.size w w')
    (H2 : ∀ w, PT w → Calls Tryz.prog 7 #[.int .i64 c, .int .i64 y] w fun e w' => e = .returned (datv y m d 0) ∧ Below w.heap.size w w')
    (HA : ∀ w, Calls Tryz.prog 8 #[.int .i64 c, .int .i64 y] w fun e w' => e = .returned (.int .i64 0) ∧ w = w')
    (HR : ∀ w, PT w → Calls Tryz.prog 9 #[.int .i64 c, .int .i64 y] w fun e w' => e = .returned (.int .i64 n) ∧ Below w.heap.size w w')
    (HS : ∀ w, PT w → Calls Tryz.prog 10 #[.int .i64 c, .int .i64 y] w fun e w' => e = .returned (dtv y m d) ∧ Below w.heap.size w w')
    (HN : ∀ w, PT w → Calls Tryz.prog 11 #[.int .i64 c, dtv p q r] w fun e w' => e = .returned (numv (a - b) 0) ∧ Below w.heap.size w w')
    (HE : ∀ w, PT w → Calls Tryz.prog 12 #[.int .i64 c, dtv p q r] w fun e w' => e = .returned (.int .i64 0) ∧ Below w.heap.size w w')
    (HQ : ∀ w, PT w → Calls Tryz.prog 13 #[.int .i64 c, dtv p q r] w fun e w' => e = .returned (numv a 0) ∧ Below w.heap.size w w')
    (HD : ∀ w, PT w → Calls Tryz.prog 9 #[.int .i64 c, .int .i64 p] w fun e w' => e = .returned (.int .i64 b) ∧ Below w.heap.size w w')
    (a1 : -1 ≤ a) (a2 : a ≤ 365250000100) (b1 : -1 ≤ b) (b2 : b ≤ 365250000100)
    (W : World) (ht : PT W) :
    Calls Tryz.prog 3 #[.int .i64 c, .int .i64 y, dtv p q r] W fun e w' => e = .returned (.bool true) ∧ Below W.heap.size W w' := by
  have HT := Lib.hid ht
  have S0 := Lib.hid (PSt.start ht)
  clear ht
  go_enter Tryz.func3, Tryz.ntmps3
  go_wp2_with fail
  refine (c10awake_any _ (S0.out.al _).t).mono ?_
  rintro e w1 ⟨rfl, hb1⟩
  have S1 := Lib.hid ((S0.out.al _).on hb1)
  have RD1 := Lib.hid (row_on (heap_alloc_new _ _) hb1)
  obtain ⟨cD0, cD1, cD2, gD0, gD1, gD2, zD⟩ := row3 RD1.out
  clear hb1
  go_wp2_with fail
  refine (H1 _ S1.out.t).mono ?_
  rintro e w2 ⟨rfl, hb2⟩
  have S2 := Lib.hid (S1.out.on hb2)
  have RD2 := Lib.hid (row_on RD1.out hb2)
  clear RD1
  clear cD0 cD1 cD2 gD0 gD1 gD2 zD
  obtain ⟨cD0, cD1, cD2, gD0, gD1, gD2, zD⟩ := row3 RD2.out
  clear hb2
  go_wp2_with fail
  refine (H2 _ S2.out.t).mono ?_
  rintro e w3 ⟨rfl, hb3⟩
  have S3 := Lib.hid (S2.out.on hb3)
  have RD3 := Lib.hid (row_on RD2.out hb3)
  clear RD2
  clear cD0 cD1 cD2 gD0 gD1 gD2 zD
  obtain ⟨cD0, cD1, cD2, gD0, gD1, gD2, zD⟩ := row3 RD3.out
  clear hb3
  have nDX := Nat.ne_of_lt zD
  have nXD := (Nat.ne_of_lt zD).symm
  go_wp2_with fail
  refine (HA _).mono ?_
  rintro e wq ⟨rfl, rfl⟩
  have qD := row3 (row_al RD3.out (Obj.cells #[.int .i64 y, .int .i64 m, .int .i64 d] 23))
  have qX := row3 (heap_alloc_new w3 (Obj.cells #[.int .i64 y, .int .i64 m, .int .i64 d] 23))
  have Hs := Lib.hid (show Two W (W.heap.size) (w3.heap.size) p q r y m d _ from ⟨qD.1, qD.2.1, qD.2.2.1, qX.1, qX.2.1, qX.2.2.1, (S3.out.al _).b⟩).drew
  have XR := Lib.hid (fun u (hu : Two W (W.heap.size) (w3.heap.size) p q r y m d u) => (HR u (HT.out.on hu.2.2.2.2.2.2)).mono (R' := fun e u' => e = .returned (.int .i64 n) ∧ Two W (W.heap.size) (w3.heap.size) p q r y m d u') fun e u' ⟨he, hb⟩ => ⟨he, hu.on hb⟩)
  have XS := Lib.hid (fun u (hu : Two W (W.heap.size) (w3.heap.size) p q r y m d u) => (HS u (HT.out.on hu.2.2.2.2.2.2)).mono (R' := fun e u' => e = .returned (dtv y m d) ∧ Two W (W.heap.size) (w3.heap.size) p q r y m d u') fun e u' ⟨he, hb⟩ => ⟨he, hu.on hb⟩)
  have hE := neq_date y m d
  clear qD qX H1 H2 HA HR HS
  go_wp2_with fail
  refine wp_region_held_drew (S := fun u => u.cell? ⟨W.heap.size, 0, none⟩ = some (.int .i64 p) ∧ u.cell? ⟨W.heap.size, 1, none⟩ = some (.int .i64 q) ∧ u.cell? ⟨W.heap.size, 2, none⟩ = some (.int .i64 r) ∧ u.cell? ⟨w3.heap.size, 0, none⟩ = some (.int .i64 y) ∧ u.cell? ⟨w3.heap.size, 1, none⟩ = some (.int .i64 m) ∧ u.cell? ⟨w3.heap.size, 2, none⟩ = some (.int .i64 d) ∧ Below W.heap.size W u) (by kernel_rfl) Hs.out (fun hHeld => ?_)
  refine wpAnyH_take (i := 0) (oi := { dst := some 42, op := _, type := _, pos := _, after := _, guard := _ }) (v := ?v2_0) rfl (by kernel_rfl) (by kernel_rfl) (by kernel_rfl) (fun _ _ _ h => h) (Or.inl ⟨by rfl, ?hy2_0⟩) hHeld ?_
  case hy2_0 => (intro w hSw; (try dsimp only at hSw); go_simp; try with_reducible rfl)
  simp only [Act.put, List.setIfInBounds_toArray, List.set_cons_zero, List.set_cons_succ]
  refine wpAnyH_take (i := 1) (oi := { dst := some 43, op := _, type := _, pos := _, after := _, guard := _ }) (v := ?v2_1) rfl (by kernel_rfl) (by kernel_rfl) (by kernel_rfl) (fun _ _ _ h => h) (Or.inl ⟨by rfl, ?hy2_1⟩) hHeld ?_
  case hy2_1 => (intro w hSw; (try dsimp only at hSw); go_simp; try with_reducible rfl)
  simp only [Act.put, List.setIfInBounds_toArray, List.set_cons_zero, List.set_cons_succ]
  refine wpAnyH_take (i := 2) (oi := { dst := some 44, op := _, type := _, pos := _, after := _, guard := _ }) (v := ?v2_2) rfl (by kernel_rfl) (by kernel_rfl) (by kernel_rfl) (fun _ _ _ h => h) (Or.inl ⟨by rfl, ?hy2_2⟩) hHeld ?_
  case hy2_2 => (intro w hSw; (try dsimp only at hSw); go_simp; try with_reducible rfl)
  simp only [Act.put, List.setIfInBounds_toArray, List.set_cons_zero, List.set_cons_succ]
  refine wpAnyH_take (i := 3) (oi := { dst := some 45, op := _, type := _, pos := _, after := _, guard := _ }) (v := undef) rfl (by kernel_rfl) (by kernel_rfl) (by kernel_rfl) (fun _ _ _ h => h) (Or.inr ⟨by rfl, rfl⟩) hHeld ?_
  simp only [Act.put, List.setIfInBounds_toArray, List.set_cons_zero, List.set_cons_succ]
  refine wpAnyH_take (i := 4) (oi := { dst := some 46, op := _, type := _, pos := _, after := _, guard := _ }) (v := undef) rfl (by kernel_rfl) (by kernel_rfl) (by kernel_rfl) (fun _ _ _ h => h) (Or.inr ⟨by rfl, rfl⟩) hHeld ?_
  simp only [Act.put, List.setIfInBounds_toArray, List.set_cons_zero, List.set_cons_succ]
  refine wpAnyH_take (i := 5) (oi := { dst := some 47, op := _, type := _, pos := _, after := _, guard := _ }) (v := undef) rfl (by kernel_rfl) (by kernel_rfl) (by kernel_rfl) (fun _ _ _ h => h) (Or.inr ⟨by rfl, rfl⟩) hHeld ?_
  simp only [Act.put, List.setIfInBounds_toArray, List.set_cons_zero, List.set_cons_succ]
  refine wpAnyH_take (i := 6) (oi := { dst := some 48, op := _, type := _, pos := _, after := _, guard := _ }) (v := undef) rfl (by kernel_rfl) (by kernel_rfl) (by kernel_rfl) (fun _ _ _ h => h) (Or.inr ⟨by rfl, rfl⟩) hHeld ?_
  simp only [Act.put, List.setIfInBounds_toArray, List.set_cons_zero, List.set_cons_succ]
  refine wpAnyH_take (i := 7) (oi := { dst := some 49, op := _, type := _, pos := _, after := _, guard := _ }) (v := undef) rfl (by kernel_rfl) (by kernel_rfl) (by kernel_rfl) (fun _ _ _ h => h) (Or.inr ⟨by rfl, rfl⟩) hHeld ?_
  simp only [Act.put, List.setIfInBounds_toArray, List.set_cons_zero, List.set_cons_succ]
  refine wpAnyH_take (i := 8) (oi := { dst := some 50, op := _, type := _, pos := _, after := _, guard := _ }) (v := undef) rfl (by kernel_rfl) (by kernel_rfl) (by kernel_rfl) (fun _ _ _ h => h) (Or.inr ⟨by rfl, rfl⟩) hHeld ?_
  simp only [Act.put, List.setIfInBounds_toArray, List.set_cons_zero, List.set_cons_succ]
  refine wpAnyH_take (i := 9) (oi := { dst := some 51, op := _, type := _, pos := _, after := _, guard := _ }) (v := undef) rfl (by kernel_rfl) (by kernel_rfl) (by kernel_rfl) (fun _ _ _ h => h) (Or.inr ⟨by rfl, rfl⟩) hHeld ?_
  simp only [Act.put, List.setIfInBounds_toArray, List.set_cons_zero, List.set_cons_succ]
  refine wpAnyH_take (i := 10) (oi := { dst := some 52, op := _, type := _, pos := _, after := _, guard := _ }) (v := ?v2_10) rfl (by kernel_rfl) (by kernel_rfl) (by kernel_rfl) (fun _ _ _ h => h) (Or.inl ⟨by rfl, ?hy2_10⟩) hHeld ?_
  case hy2_10 => (intro w hSw; (try dsimp only at hSw); go_simp; try with_reducible rfl)
  simp only [Act.put, List.setIfInBounds_toArray, List.set_cons_zero, List.set_cons_succ]
  refine wpAnyH_take (i := 11) (oi := { dst := some 53, op := _, type := _, pos := _, after := _, guard := _ }) (v := ?v2_11) rfl (by kernel_rfl) (by kernel_rfl) (by kernel_rfl) (fun _ _ _ h => h) (Or.inl ⟨by rfl, ?hy2_11⟩) hHeld ?_
  case hy2_11 => (intro w hSw; (try dsimp only at hSw); go_simp; try with_reducible rfl)
  simp only [Act.put, List.setIfInBounds_toArray, List.set_cons_zero, List.set_cons_succ]
  refine wpAnyH_take (i := 12) (oi := { dst := some 54, op := _, type := _, pos := _, after := _, guard := _ }) (v := ?v2_12) rfl (by kernel_rfl) (by kernel_rfl) (by kernel_rfl) (fun _ _ _ h => h) (Or.inl ⟨by rfl, ?hy2_12⟩) hHeld ?_
  case hy2_12 => (intro w hSw; (try dsimp only at hSw); go_simp; try with_reducible rfl)
  simp only [Act.put, List.setIfInBounds_toArray, List.set_cons_zero, List.set_cons_succ]
  refine wpAnyH_take (i := 13) (oi := { dst := some 55, op := _, type := _, pos := _, after := _, guard := _ }) (v := ?v2_13) rfl (by kernel_rfl) (by kernel_rfl) (by kernel_rfl) (fun _ _ _ h => h) (Or.inl ⟨by rfl, ?hy2_13⟩) hHeld ?_
  case hy2_13 => (intro w hSw; (try dsimp only at hSw); go_simp; try with_reducible rfl)
  simp only [Act.put, List.setIfInBounds_toArray, List.set_cons_zero, List.set_cons_succ]
  refine wpAnyH_take (i := 14) (oi := { dst := some 56, op := _, type := _, pos := _, after := _, guard := _ }) (v := ?v2_14) rfl (by kernel_rfl) (by kernel_rfl) (by kernel_rfl) (fun _ _ _ h => h) (Or.inl ⟨by rfl, ?hy2_14⟩) hHeld ?_
  case hy2_14 => (intro w hSw; (try dsimp only at hSw); go_simp; try with_reducible rfl)
  simp only [Act.put, List.setIfInBounds_toArray, List.set_cons_zero, List.set_cons_succ]
  refine wpAnyH_take (i := 15) (oi := { dst := some 57, op := _, type := _, pos := _, after := _, guard := _ }) (v := ?v2_15) rfl (by kernel_rfl) (by kernel_rfl) (by kernel_rfl) (fun _ _ _ h => h) (Or.inl ⟨by rfl, ?hy2_15⟩) hHeld ?_
  case hy2_15 => (intro w hSw; (try dsimp only at hSw); go_simp; try with_reducible rfl)
  simp only [Act.put, List.setIfInBounds_toArray, List.set_cons_zero, List.set_cons_succ]
  refine wpAnyH_take (i := 16) (oi := { dst := some 58, op := _, type := _, pos := _, after := _, guard := _ }) (v := ?v2_16) rfl (by kernel_rfl) (by kernel_rfl) (by kernel_rfl) (fun _ _ _ h => h) (Or.inl ⟨by rfl, ?hy2_16⟩) hHeld ?_
  case hy2_16 => (intro w hSw; (try dsimp only at hSw); go_simp; try with_reducible rfl)
  simp only [Act.put, List.setIfInBounds_toArray, List.set_cons_zero, List.set_cons_succ]
  refine wpAnyH_take (i := 17) (oi := { dst := some 59, op := _, type := _, pos := _, after := _, guard := _ }) (v := ?v2_17) rfl (by kernel_rfl) (by kernel_rfl) (by kernel_rfl) (fun _ _ _ h => h) (Or.inl ⟨by rfl, ?hy2_17⟩) hHeld ?_
  case hy2_17 => (intro w hSw; (try dsimp only at hSw); go_simp; try with_reducible rfl)
  simp only [Act.put, List.setIfInBounds_toArray, List.set_cons_zero, List.set_cons_succ]
  refine wpAnyH_ready (rs := [18]) (by kernel_rfl) (by simp) ?_
  refine AllReadyH.cons (o := { dst := some 60, op := _, type := _, pos := _, after := _, guard := _ }) rfl (fun K hK => ?_) AllReadyH.nil
  go_simp
  go_at_call 9
  refine (XR.out _ (by assumption)).mono ?_
  rintro e1 v0 ⟨rfl, hs1⟩
  refine hK.out _ _ hs1 (fun hHeld => ?_)
  clear hK K
  refine wpAnyH_take (i := 19) (oi := { dst := some 61, op := _, type := _, pos := _, after := _, guard := _ }) (v := ?v2_19) rfl (by kernel_rfl) (by kernel_rfl) (by kernel_rfl) (fun _ _ _ h => h) (Or.inl ⟨by rfl, ?hy2_19⟩) hHeld ?_
  case hy2_19 => (intro w hSw; (try dsimp only at hSw); go_simp; try with_reducible rfl)
  simp only [Act.put, List.setIfInBounds_toArray, List.set_cons_zero, List.set_cons_succ]
  refine wpAnyH_take (i := 20) (oi := { dst := some 62, op := _, type := _, pos := _, after := _, guard := _ }) (v := ?v2_20) rfl (by kernel_rfl) (by kernel_rfl) (by kernel_rfl) (fun _ _ _ h => h) (Or.inl ⟨by rfl, ?hy2_20⟩) hHeld ?_
  case hy2_20 => (intro w hSw; (try dsimp only at hSw); go_simp; try with_reducible rfl)
  simp only [Act.put, List.setIfInBounds_toArray, List.set_cons_zero, List.set_cons_succ]
  refine wpAnyH_take (i := 21) (oi := { dst := some 63, op := _, type := _, pos := _, after := _, guard := _ }) (v := ?v2_21) rfl (by kernel_rfl) (by kernel_rfl) (by kernel_rfl) (fun _ _ _ h => h) (Or.inl ⟨by rfl, ?hy2_21⟩) hHeld ?_
  case hy2_21 => (intro w hSw; (try dsimp only at hSw); go_simp; try with_reducible rfl)
  simp only [Act.put, List.setIfInBounds_toArray, List.set_cons_zero, List.set_cons_succ]
  refine wpAnyH_take (i := 22) (oi := { dst := some 64, op := _, type := _, pos := _, after := _, guard := _ }) (v := ?v2_22) rfl (by kernel_rfl) (by kernel_rfl) (by kernel_rfl) (fun _ _ _ h => h) (Or.inl ⟨by rfl, ?hy2_22⟩) hHeld ?_
  case hy2_22 => (intro w hSw; (try dsimp only at hSw); go_simp; try with_reducible rfl)
  simp only [Act.put, List.setIfInBounds_toArray, List.set_cons_zero, List.set_cons_succ]
  refine wpAnyH_take (i := 23) (oi := { dst := some 65, op := _, type := _, pos := _, after := _, guard := _ }) (v := ?v2_23) rfl (by kernel_rfl) (by kernel_rfl) (by kernel_rfl) (fun _ _ _ h => h) (Or.inl ⟨by rfl, ?hy2_23⟩) hHeld ?_
  case hy2_23 => (intro w hSw; (try dsimp only at hSw); go_simp; try with_reducible rfl)
  simp only [Act.put, List.setIfInBounds_toArray, List.set_cons_zero, List.set_cons_succ]
  refine wpAnyH_ready (rs := [24]) (by kernel_rfl) (by simp) ?_
  refine AllReadyH.cons (o := { dst := some 66, op := _, type := _, pos := _, after := _, guard := _ }) rfl (fun K hK => ?_) AllReadyH.nil
  go_simp
  go_at_call 10
  refine (XS.out _ (by assumption)).mono ?_
  rintro e2 v9 ⟨rfl, hs2⟩
  refine hK.out _ _ hs2 (fun hHeld => ?_)
  clear hK K
  refine wpAnyH_take (i := 25) (oi := { dst := some 67, op := _, type := _, pos := _, after := _, guard := _ }) (v := ?v2_25) rfl (by kernel_rfl) (by kernel_rfl) (by kernel_rfl) (fun _ _ _ h => h) (Or.inl ⟨by rfl, ?hy2_25⟩) hHeld ?_
  case hy2_25 => (intro w hSw; (try dsimp only at hSw); go_simp; try with_reducible rfl)
  simp only [Act.put, List.setIfInBounds_toArray, List.set_cons_zero, List.set_cons_succ]
  refine wpAnyH_take (i := 26) (oi := { dst := some 68, op := _, type := _, pos := _, after := _, guard := _ }) (v := ?v2_26) rfl (by kernel_rfl) (by kernel_rfl) (by kernel_rfl) (fun _ _ _ h => h) (Or.inl ⟨by rfl, ?hy2_26⟩) hHeld ?_
  case hy2_26 => (intro w hSw; (try dsimp only at hSw); go_simp; try with_reducible rfl)
  simp only [Act.put, List.setIfInBounds_toArray, List.set_cons_zero, List.set_cons_succ]
  refine wpAnyH_take (i := 27) (oi := { dst := some 69, op := _, type := _, pos := _, after := _, guard := _ }) (v := ?v2_27) rfl (by kernel_rfl) (by kernel_rfl) (by kernel_rfl) (fun _ _ _ h => h) (Or.inl ⟨by rfl, ?hy2_27⟩) hHeld ?_
  case hy2_27 => (intro w hSw; (try dsimp only at hSw); go_simp; try with_reducible rfl)
  simp only [Act.put, List.setIfInBounds_toArray, List.set_cons_zero, List.set_cons_succ]
  refine wpAnyH_take (i := 28) (oi := { dst := some 70, op := _, type := _, pos := _, after := _, guard := _ }) (v := ?v2_28) rfl (by kernel_rfl) (by kernel_rfl) (by kernel_rfl) (fun _ _ _ h => h) (Or.inl ⟨by rfl, ?hy2_28⟩) hHeld ?_
  case hy2_28 => (intro w hSw; (try dsimp only at hSw); go_simp; try with_reducible rfl)
  simp only [Act.put, List.setIfInBounds_toArray, List.set_cons_zero, List.set_cons_succ]
  refine wpAnyH_done (by kernel_rfl) ?_ _
  have K0 : Hid (One W W.heap.size p q r _) := Lib.hid ⟨hs2.1, hs2.2.1, hs2.2.2.1, hs2.2.2.2.2.2.2⟩
  obtain ⟨z0, z1, z2, _⟩ := K0.out
  clear hs1 hs2
  go_wp2_with fail
  refine (HN _ (HT.out.on K0.out.2.2.2)).mono ?_
  rintro e v1 ⟨rfl, hv1⟩
  have K1 := Lib.hid (One.on K0.out hv1)
  obtain ⟨d0, d1, d2, _⟩ := K1.out
  clear hv1
  go_wp2_with fail
  refine (HE _ (HT.out.on K1.out.2.2.2)).mono ?_
  rintro e v2 ⟨rfl, hv2⟩
  have K2 := Lib.hid (One.on K1.out hv2)
  clear d0 d1 d2
  obtain ⟨d0, d1, d2, _⟩ := K2.out
  clear hv2
  go_wp2_with fail
  refine (HQ _ (HT.out.on K2.out.2.2.2)).mono ?_
  rintro e v3 ⟨rfl, hv3⟩
  have K3 := Lib.hid (One.on K2.out hv3)
  clear d0 d1 d2
  obtain ⟨d0, d1, d2, _⟩ := K3.out
  clear hv3
  go_wp2_with fail
  refine (HD _ (HT.out.on K3.out.2.2.2)).mono ?_
  rintro e v4 ⟨rfl, hv4⟩
  have K4 := Lib.hid (One.on K3.out hv4)
  clear d0 d1 d2
  obtain ⟨d0, d1, d2, _⟩ := K4.out
  clear hv4
  go_wp2_with fail
  go_ret
  exact ⟨rfl, K4.out.2.2.2⟩
theorem walk (c y p q r : Int) (w0 : (Lit.int .i64 c).wf = true) (w1 : (Lit.int .i64 y).wf = true) (w2 : (Lit.int .i64 p).wf = true) (w3 : (Lit.int .i64 q).wf = true) (w4 : (Lit.int .i64 r).wf = true) (W : World) (ht0 : CTab W ∧ LTab W) :
    Calls Tryz.prog 3 #[.int .i64 c, .int .i64 y, dtv p q r] W fun e w' => e = .returned (.bool true) ∧ Below W.heap.size W w' := by
  have ht : PT W := ⟨ht0.1, ht0.2⟩
  have HA := fun w => rfail_any c y w
  have H1 := fun w ht => pday_any c y w w0 ht
  have H2 := fun w ht => pdate_any c y w w0 ht
  have HN := fun w ht => poff_any c p q r w w0 ht
  have HE := fun w ht => r9f_any c p q r w ht
  have a0 := tN_bd c p q r
  by_cases h2 : nmE c p q r = 0
  · obtain ⟨h3, h4⟩ := nmE_zero h2
    have b0 := eaN_bd h3
    have HQ := fun w (ht : PT w) => r5day_any p q r w c ht.c
    rw [h4] at HQ
    have HD := fun w ht => r10day_any c p w h3 ht
    rw [(eo_ok h3 h4).2, h2] at HN
    rw [h2] at HE
    by_cases h : epE c y = 0
    · rw [h] at HA
      rw [(ed_ok h).1, h] at H1
      rw [(ed_ok h).2.1, (ed_ok h).2.2.1, (ed_ok h).2.2.2, h] at H2
      exact walk_11 c y p q r _ _ _ _ _ H1 H2 HA (fun w ht => r10day_any c y w h ht) (fun w ht => r10date_any c y w h ht) HN HE HQ HD (by omega) (by omega) (by omega) (by omega) W ht
    · rw [(ed_no h).1] at H1
      rw [(ed_no h).2.1, (ed_no h).2.2.1, (ed_no h).2.2.2] at H2
      exact walk_01 c y p q r _ _ _ H1 H2 HA HN HE HQ HD (by omega) (by omega) (by omega) (by omega) (tE_ne h) (beq_eq_false_iff_ne.2 h) W ht
  · have e : eoN c p q r = 0 := by unfold eoN; rw [if_neg h2]
    rw [e] at HN
    by_cases h : epE c y = 0
    · rw [h] at HA
      rw [(ed_ok h).1, h] at H1
      rw [(ed_ok h).2.1, (ed_ok h).2.2.1, (ed_ok h).2.2.2, h] at H2
      exact walk_10 c y p q r _ _ _ _ H1 H2 HA (fun w ht => r10day_any c y w h ht) (fun w ht => r10date_any c y w h ht) HN HE (beq_eq_false_iff_ne.2 h2) (tE_ne h2) W ht
    · rw [(ed_no h).1] at H1
      rw [(ed_no h).2.1, (ed_no h).2.2.1, (ed_no h).2.2.2] at H2
      exact walk_00 c y p q r _ _ H1 H2 HA HN HE (tE_ne h) (beq_eq_false_iff_ne.2 h) (beq_eq_false_iff_ne.2 h2) (tE_ne h2) W ht

/-! ### the row's step -/
set_option maxRecDepth 100000 in
theorem lifted (os : Os) (started : os.Started) (H : Type) (enc : TypeId × Value → H) :
    ReturnsInHanded {} Tryz.checked os 3 .any (fun w args => (Rows.easterMatchesReferenceSpec.pre enc Tryz.prog Tryz.f3 [] false w args ∧ laidMetH Tryz.prog laidL w) ∧ sizedMet enc Tryz.prog Tryz.f3 (OpenSpec.ofChange Rows.easterMatchesReferenceSpec) false w args)
      (Rows.easterMatchesReferenceSpec.post enc Tryz.prog Tryz.f3 false true false false) := by
  refine returnsInHanded_of_change_and (C := Tryz.checked) (X := fun w _ => laidMetH Tryz.prog laidL w) (fun _ _ _ hh h => h.of_heap hh) own started (by kernel_rfl) Tryz.func3
    (ChangeSpec.witness_shaped (enc := enc) (C := Tryz.checked) (os := os) (X := fun w _ => laidMetH Tryz.prog laidL w) false (World.doorLaid Tryz.prog 400 os) #[.int .i64 0, .int .i64 0, .agg #[.int .i64 0, .int .i64 0, .int .i64 0]] 8 rfl (World.shaped_of_RefB (by kernel_rfl) (by kernel_rfl)) (by kernel_rfl) (by kernel_rfl) (by kernel_rfl) (door_met os _)) ?_
  intro W base args ds gs before hval0 hW _ _ hL _
  have hval : ∀ (j : Nat) t v, Tryz.f3.params[j]? = some t → args[j]? = some v → Value.okWide Tryz.prog W .any base t v := hval0
  have hW' := hW
  obtain ⟨p, q, hA0, hV, rfl, hfz, hnd⟩ := hW
  have hA : DataW.TrodAll enc Tryz.prog W 0 (fun _ => true) true Tryz.f3.params.toList args.toList ds p := hA0
  rw [Tryz.params3] at hA hval
  obtain ⟨v0, vs0, d0, ds0, p0, q0, hargs, rfl, rfl, h0, r0⟩ := trodAll_cons hA
  obtain ⟨v1, vs1, d1, ds1, p1, q1, rfl, rfl, rfl, h1, r1⟩ := trodAll_cons r0
  obtain ⟨v2, vs2, d2, ds2, p2, q2, rfl, rfl, rfl, h2, r2⟩ := trodAll_cons r1
  obtain ⟨rfl, rfl, rfl⟩ := trodAll_nil r2
  obtain rfl : args = #[v0, v1, v2] := by cases args; simp_all
  obtain ⟨rfl, rfl⟩ := trodVars_none hV
  obtain ⟨a0, rfl, rfl, rfl, w0⟩ := open_int Tryz.underlying3 (hval 0 3 v0 rfl rfl) h0
  obtain ⟨a1, rfl, rfl, rfl, w1⟩ := open_int Tryz.underlying3 (hval 1 3 v1 rfl rfl) h1
  obtain ⟨c2_0, c2_1, c2_2, y2_0, y2_1, y2_2, m2, rfl, rfl, rfl, hy2_0, hy2_1, hy2_2⟩ := open_agg3 Tryz.underlying23 (by kernel_rfl) (show Tryz.prog.cellsOf 23 = 3 by kernel_rfl) (hval 2 23 v2 rfl rfl) h2
  obtain ⟨f2_0, e2_0, rfl, w2_0⟩ := DataW.trod_int Tryz.underlying3 hy2_0
  simp at e2_0; subst e2_0
  obtain ⟨f2_1, e2_1, rfl, w2_1⟩ := DataW.trod_int Tryz.underlying3 hy2_1
  simp at e2_1; subst e2_1
  obtain ⟨f2_2, e2_2, rfl, w2_2⟩ := DataW.trod_int Tryz.underlying3 hy2_2
  simp at e2_2; subst e2_2
  clear hA0 hval0
  simp only [List.append_nil] at hW'
  have sr2 : ∀ (W' : World) (sp : Nat → Bool), DataW.Trod enc Tryz.prog W' 0 sp true 23 (.agg #[.int .i64 f2_0, .int .i64 f2_1, .int .i64 f2_2]) (.agg [.lit (.int .i64 f2_0), .lit (.int .i64 f2_1), .lit (.int .i64 f2_2)]) [] := fun W' sp =>
    shut_agg3 (y0 := (.lit (.int .i64 f2_0), [])) (y1 := (.lit (.int .i64 f2_1), [])) (y2 := (.lit (.int .i64 f2_2), [])) Tryz.underlying23 (by kernel_rfl) (show Tryz.prog.cellsOf 23 = 3 by kernel_rfl) ⟨1, by simp [DataW.trod, Tryz.underlying3, w2_0]⟩ ⟨1, by simp [DataW.trod, Tryz.underlying3, w2_1]⟩ ⟨1, by simp [DataW.trod, Tryz.underlying3, w2_2]⟩
  refine (walk a0 a1 f2_0 f2_1 f2_2 w0 w1 w2_0 w2_1 w2_2 W (laid_facts hL)).mono fun e W' ⟨he, bel⟩ => ?_
  subst he
  exact ⟨_, rfl, _, _, _, [], _, [], hW', trodAll_mk1 (shut_bool Tryz.underlying4 _), (trodAll_cons_mk (shut_int Tryz.underlying3 w0) (trodAll_cons_mk (shut_int Tryz.underlying3 w1) (trodAll_cons_mk (sr2 _ _) trodAll_mk0))), rfl, bel.frame _, fun h => by cases h⟩

theorem over : Rows.easterMatchesReferenceRow.holds Tryz.pinned (OpenSpec.ofChange Rows.easterMatchesReferenceSpec) :=
  OpenClaim.holds_of_wide 3 Tryz.f3 rfl rfl rfl rfl rfl rfl rfl ⟨rfl, rfl, rfl, rfl, rfl⟩ rfl rfl rfl rfl rfl (by kernel_rfl) Tryz.func3 (by kernel_rfl)
    (of_decide_eq_true (by kernel_rfl)) (by unfold Func.isWrapper; first | (rw [if_pos (by decide +kernel)]; kernel_rfl) | (rw [if_neg (by decide +kernel)]; exact ⟨rfl, rfl⟩))
    (fun os started H enc _ => lifted os started H enc)

/-- The statement: the tied card. -/
theorem proved : Rows.EasterMatchesReferenceCardSaid :=
  Claim7.holds_tied_plain_at .later [] [.data, .data, .data, .data, .data] true (true, "d79797b27c65588c44ccf8ffa0dcf0902f280e6afa535837cb6ef581da2bfdb7") false
    over (fun _ h => by cases h) (by kernel_rfl) (fun _ h => by cases h) easterMatchesReference_row_tie rfl ⟨rfl, rfl⟩ (by kernel_rfl) rfl
    (fun f fn hf hfn => by
      obtain rfl : f = 3 := Option.some.inj ((show Tryz.prog.funcNamed "computus/computuslaw10.EasterMatchesReference" = some 3 by kernel_rfl).symm.trans hf) |>.symm
      obtain rfl : fn = Tryz.f3 := (Option.some.inj (Tryz.func3.symm.trans hfn)).symm
      exact ⟨by kernel_rfl, fun j t ht => by
        rw [Tryz.params3] at ht
        have hm : t ∈ [3, 3, 23] := by simpa using Array.mem_of_getElem? ht
        have hall : ([3, 3, 23].all fun u => !Tryz.prog.wantsStandIn u) = true := by kernel_rfl
        exact (show Tryz.prog.wantsStandIn t = false by simpa using List.all_eq_true.1 hall t hm)⟩)
    (by kernel_rfl)
#print axioms proved
end Go.Proofs.YtenapnmbdilabaaGreatDoor.easterMatchesReference
