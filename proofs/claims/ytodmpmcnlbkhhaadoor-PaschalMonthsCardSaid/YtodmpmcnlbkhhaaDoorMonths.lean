/- Proved: for all bytes calendar and at and every 64-bit integer year, the law PaschalMonths of package computuslaw09 (consecutive new moons of a year's table are 29 or 30 days apart, or one more across the leap day) returns true, and what was in memory is as it was. Condition: the tables of packages julian, gregorian and label (the lengths of the months, the groups of years, the beginnings of the lunations) read as the program's text lays them (the card ties them). -/
import Derived.Test.YtodmpmcnlbkhhaaDoorKp
import Derived.Test.YtodmpmcnlbkhhaaDoorVy
import Derived.WalkKit
import Derived.ProofKit
import Derived.OpenShut
import Derived.ShutString
import Derived.Lib.SmallJoins
import Derived.Deep.RegionHeld3
import Derived.LaidMore
import Derived.Stop.Joined
import Derived.SevenTiedAt
import Derived.Test.YtodmpmcnlbkhhaaDoorCards
import Derived.Test.YtodmpmcnlbkhhaaDoorTie
namespace Go.Proofs.YtodmpmcnlbkhhaaDoor.paschalMonths
open Go.ChangeShapes Go.WideShapes Go.ChangeAt Go.RowKit Go.Joins
open Go.ChangeMaps (open_string shut_string)
set_option linter.unusedVariables false      -- a walk need not use every fact

theorem walk_a (u y v k : Int)
    (hu : 0 ≤ u) (hu2 : u ≤ 255)
    (HA : ∀ w, Calls Tryd.prog 10 #[.int .i64 (1 + u % 2), .int .i64 y] w fun e w' => e = .returned (.int .i64 k) ∧ w = w')
    (hk : (k != 0) = true)
    (W : World) (ht : PT W) :
    Calls Tryd.prog 7 #[.int .u8 u, .int .i64 y, .int .u8 v] W fun e w' => e = .returned (.bool true) ∧ Below W.heap.size W w' := by
  have S0 := Lib.hid (PSt.start ht)
  clear ht
  go_enter Tryd.func7, Tryd.ntmps7
  go_wp2_with fail
  refine (c9awake_any _ S0.out.t).mono ?_
  rintro e w1 ⟨rfl, hb1⟩
  have S1 := Lib.hid (S0.out.on hb1)
  clear hb1
  go_wp2_with fail
  refine (HA _).mono ?_
  rintro e wq ⟨rfl, rfl⟩
  go_wp2_with fail
  refine (c9awake_any _ S1.out.t).mono ?_
  rintro e w2 ⟨rfl, hb2⟩
  have S2 := Lib.hid (S1.out.on hb2)
  clear hb2
  go_wp2_with fail
  go_ret
  exact ⟨rfl, S2.out.b⟩
set_option maxRecDepth 100000 in
set_option maxHeartbeats 1000000 in
theorem walk_n12 (u y v a b p q s z : Int) (i : Nat) (ds : List (Int × Int × Int)) (hu : 0 ≤ u) (hu2 : u ≤ 255) (hv : 0 ≤ v) (hv2 : v ≤ 255) (hi : v % 11 = i) (hi2 : i < 11) (hx : ds[i]? = some (y, a, b)) (hz : ds[i + 1]? = some (y, p, q)) (s1 : -1 ≤ s) (s2 : s ≤ 365249999998) (z1 : -1 ≤ z) (z2 : z ≤ 365249999998)
    (d1 : 29 ≤ z - s) (d2 : z - s ≤ 30)
    (HA : ∀ w, Calls Tryd.prog 10 #[.int .i64 (1 + u % 2), .int .i64 y] w fun e w' => e = .returned (.int .i64 0) ∧ w = w')
    (HT : ∀ w, PT w → Calls Tryd.prog 19 #[.int .i64 (1 + u % 2), .int .i64 y] w (RetTOpen 12 ds w))
    (H1 : ∀ w, PT w → Calls Tryd.prog 15 #[.int .i64 (1 + u % 2), dtv y a b] w fun e w' => e = .returned (numv s 0) ∧ Below w.heap.size w w')
    (H2 : ∀ w, PT w → Calls Tryd.prog 15 #[.int .i64 (1 + u % 2), dtv y p q] w fun e w' => e = .returned (numv z 0) ∧ Below w.heap.size w w')
    (HL : ∀ w, Calls Tryd.prog 22 #[.int .i64 (1 + u % 2), .int .i64 y] w fun e w' => e = .returned (.bool false) ∧ w = w')
    (W : World) (ht : PT W) :
    Calls Tryd.prog 7 #[.int .u8 u, .int .i64 y, .int .u8 v] W fun e w' => e = .returned (.bool true) ∧ Below W.heap.size W w' := by
  have HX := Lib.hid hx
  have HZ := Lib.hid hz
  clear hx hz
  have i1 : (0 : Int) ≤ (i : Int) := by omega
  have i2 : (i : Int) < 12 := by omega
  have i3 : (i : Int) + 1 < 12 := by omega
  have S0 := Lib.hid (PSt.start ht)
  clear ht
  go_enter Tryd.func7, Tryd.ntmps7
  go_wp2_with fail
  refine (c9awake_any _ S0.out.t).mono ?_
  rintro e w1 ⟨rfl, hb1⟩
  have S1 := Lib.hid (S0.out.on hb1)
  clear hb1
  go_wp2_with fail
  refine (HA _).mono ?_
  rintro e wq ⟨rfl, rfl⟩
  go_wp2_with fail
  refine (HT _ S1.out.t).mono ?_
  rintro e w2 ⟨g, cap, rfl, _, hD, hb2⟩
  have S2 := Lib.hid (S1.out.on hb2)
  have D2 := Lib.hid hD
  clear hb2 hD
  have hcap := D2.out.le
  have c0 : w2.cell? ⟨g, i * 3, none⟩ = some (.int .i64 y) := D2.out.one i _ HX.out
  have c1 : w2.cell? ⟨g, i * 3 + 1, none⟩ = some (.int .i64 a) := D2.out.two i _ HX.out
  have c2 : w2.cell? ⟨g, i * 3 + 2, none⟩ = some (.int .i64 b) := D2.out.thr i _ HX.out
  have c3 : w2.cell? ⟨g, (i + 1) * 3, none⟩ = some (.int .i64 y) := D2.out.one (i + 1) _ HZ.out
  have c4 : w2.cell? ⟨g, (i + 1) * 3 + 1, none⟩ = some (.int .i64 p) := D2.out.two (i + 1) _ HZ.out
  have c5 : w2.cell? ⟨g, (i + 1) * 3 + 2, none⟩ = some (.int .i64 q) := D2.out.thr (i + 1) _ HZ.out
  go_wp2_with fail
  refine (H1 _ S2.out.t).mono ?_
  rintro e w3 ⟨rfl, hb3⟩
  have S3 := Lib.hid (S2.out.on hb3)
  have D3 := Lib.hid (D2.out.on hb3)
  clear hb3
  clear c0 c1 c2 c3 c4 c5
  have c0 : w3.cell? ⟨g, i * 3, none⟩ = some (.int .i64 y) := D3.out.one i _ HX.out
  have c1 : w3.cell? ⟨g, i * 3 + 1, none⟩ = some (.int .i64 a) := D3.out.two i _ HX.out
  have c2 : w3.cell? ⟨g, i * 3 + 2, none⟩ = some (.int .i64 b) := D3.out.thr i _ HX.out
  have c3 : w3.cell? ⟨g, (i + 1) * 3, none⟩ = some (.int .i64 y) := D3.out.one (i + 1) _ HZ.out
  have c4 : w3.cell? ⟨g, (i + 1) * 3 + 1, none⟩ = some (.int .i64 p) := D3.out.two (i + 1) _ HZ.out
  have c5 : w3.cell? ⟨g, (i + 1) * 3 + 2, none⟩ = some (.int .i64 q) := D3.out.thr (i + 1) _ HZ.out
  go_wp2_with fail
  refine (H2 _ S3.out.t).mono ?_
  rintro e w4 ⟨rfl, hb4⟩
  have S4 := Lib.hid (S3.out.on hb4)
  have D4 := Lib.hid (D3.out.on hb4)
  clear hb4
  clear c0 c1 c2 c3 c4 c5
  have c0 : w4.cell? ⟨g, i * 3, none⟩ = some (.int .i64 y) := D4.out.one i _ HX.out
  have c1 : w4.cell? ⟨g, i * 3 + 1, none⟩ = some (.int .i64 a) := D4.out.two i _ HX.out
  have c2 : w4.cell? ⟨g, i * 3 + 2, none⟩ = some (.int .i64 b) := D4.out.thr i _ HX.out
  have c3 : w4.cell? ⟨g, (i + 1) * 3, none⟩ = some (.int .i64 y) := D4.out.one (i + 1) _ HZ.out
  have c4 : w4.cell? ⟨g, (i + 1) * 3 + 1, none⟩ = some (.int .i64 p) := D4.out.two (i + 1) _ HZ.out
  have c5 : w4.cell? ⟨g, (i + 1) * 3 + 2, none⟩ = some (.int .i64 q) := D4.out.thr (i + 1) _ HZ.out
  go_wp2_with fail
  refine (HL _).mono ?_
  rintro e wq ⟨rfl, rfl⟩
  have e1 : decide (29 ≤ z - s) = true := decide_eq_true (by omega)
  have e2 : decide (z - s ≤ 30) = true := decide_eq_true (by omega)
  go_wp2_with fail
  go_ret
  exact ⟨rfl, S4.out.b⟩
set_option maxRecDepth 100000 in
set_option maxHeartbeats 1000000 in
theorem walk_ll12 (u y v a b p q s z : Int) (i : Nat) (ds : List (Int × Int × Int)) (hu : 0 ≤ u) (hu2 : u ≤ 255) (hv : 0 ≤ v) (hv2 : v ≤ 255) (hi : v % 11 = i) (hi2 : i < 11) (hx : ds[i]? = some (y, a, b)) (hz : ds[i + 1]? = some (y, p, q)) (s1 : -1 ≤ s) (s2 : s ≤ 365249999998) (z1 : -1 ≤ z) (z2 : z ≤ 365249999998)
    (d1 : 29 ≤ z - s) (d2 : z - s ≤ 30) (ea : decide (a ≤ 2) = true) (ep : decide (2 < p) = false)
    (HA : ∀ w, Calls Tryd.prog 10 #[.int .i64 (1 + u % 2), .int .i64 y] w fun e w' => e = .returned (.int .i64 0) ∧ w = w')
    (HT : ∀ w, PT w → Calls Tryd.prog 19 #[.int .i64 (1 + u % 2), .int .i64 y] w (RetTOpen 12 ds w))
    (H1 : ∀ w, PT w → Calls Tryd.prog 15 #[.int .i64 (1 + u % 2), dtv y a b] w fun e w' => e = .returned (numv s 0) ∧ Below w.heap.size w w')
    (H2 : ∀ w, PT w → Calls Tryd.prog 15 #[.int .i64 (1 + u % 2), dtv y p q] w fun e w' => e = .returned (numv z 0) ∧ Below w.heap.size w w')
    (HL : ∀ w, Calls Tryd.prog 22 #[.int .i64 (1 + u % 2), .int .i64 y] w fun e w' => e = .returned (.bool true) ∧ w = w')
    (W : World) (ht : PT W) :
    Calls Tryd.prog 7 #[.int .u8 u, .int .i64 y, .int .u8 v] W fun e w' => e = .returned (.bool true) ∧ Below W.heap.size W w' := by
  have HX := Lib.hid hx
  have HZ := Lib.hid hz
  clear hx hz
  have i1 : (0 : Int) ≤ (i : Int) := by omega
  have i2 : (i : Int) < 12 := by omega
  have i3 : (i : Int) + 1 < 12 := by omega
  have S0 := Lib.hid (PSt.start ht)
  clear ht
  go_enter Tryd.func7, Tryd.ntmps7
  go_wp2_with fail
  refine (c9awake_any _ S0.out.t).mono ?_
  rintro e w1 ⟨rfl, hb1⟩
  have S1 := Lib.hid (S0.out.on hb1)
  clear hb1
  go_wp2_with fail
  refine (HA _).mono ?_
  rintro e wq ⟨rfl, rfl⟩
  go_wp2_with fail
  refine (HT _ S1.out.t).mono ?_
  rintro e w2 ⟨g, cap, rfl, _, hD, hb2⟩
  have S2 := Lib.hid (S1.out.on hb2)
  have D2 := Lib.hid hD
  clear hb2 hD
  have hcap := D2.out.le
  have c0 : w2.cell? ⟨g, i * 3, none⟩ = some (.int .i64 y) := D2.out.one i _ HX.out
  have c1 : w2.cell? ⟨g, i * 3 + 1, none⟩ = some (.int .i64 a) := D2.out.two i _ HX.out
  have c2 : w2.cell? ⟨g, i * 3 + 2, none⟩ = some (.int .i64 b) := D2.out.thr i _ HX.out
  have c3 : w2.cell? ⟨g, (i + 1) * 3, none⟩ = some (.int .i64 y) := D2.out.one (i + 1) _ HZ.out
  have c4 : w2.cell? ⟨g, (i + 1) * 3 + 1, none⟩ = some (.int .i64 p) := D2.out.two (i + 1) _ HZ.out
  have c5 : w2.cell? ⟨g, (i + 1) * 3 + 2, none⟩ = some (.int .i64 q) := D2.out.thr (i + 1) _ HZ.out
  go_wp2_with fail
  refine (H1 _ S2.out.t).mono ?_
  rintro e w3 ⟨rfl, hb3⟩
  have S3 := Lib.hid (S2.out.on hb3)
  have D3 := Lib.hid (D2.out.on hb3)
  clear hb3
  clear c0 c1 c2 c3 c4 c5
  have c0 : w3.cell? ⟨g, i * 3, none⟩ = some (.int .i64 y) := D3.out.one i _ HX.out
  have c1 : w3.cell? ⟨g, i * 3 + 1, none⟩ = some (.int .i64 a) := D3.out.two i _ HX.out
  have c2 : w3.cell? ⟨g, i * 3 + 2, none⟩ = some (.int .i64 b) := D3.out.thr i _ HX.out
  have c3 : w3.cell? ⟨g, (i + 1) * 3, none⟩ = some (.int .i64 y) := D3.out.one (i + 1) _ HZ.out
  have c4 : w3.cell? ⟨g, (i + 1) * 3 + 1, none⟩ = some (.int .i64 p) := D3.out.two (i + 1) _ HZ.out
  have c5 : w3.cell? ⟨g, (i + 1) * 3 + 2, none⟩ = some (.int .i64 q) := D3.out.thr (i + 1) _ HZ.out
  go_wp2_with fail
  refine (H2 _ S3.out.t).mono ?_
  rintro e w4 ⟨rfl, hb4⟩
  have S4 := Lib.hid (S3.out.on hb4)
  have D4 := Lib.hid (D3.out.on hb4)
  clear hb4
  clear c0 c1 c2 c3 c4 c5
  have c0 : w4.cell? ⟨g, i * 3, none⟩ = some (.int .i64 y) := D4.out.one i _ HX.out
  have c1 : w4.cell? ⟨g, i * 3 + 1, none⟩ = some (.int .i64 a) := D4.out.two i _ HX.out
  have c2 : w4.cell? ⟨g, i * 3 + 2, none⟩ = some (.int .i64 b) := D4.out.thr i _ HX.out
  have c3 : w4.cell? ⟨g, (i + 1) * 3, none⟩ = some (.int .i64 y) := D4.out.one (i + 1) _ HZ.out
  have c4 : w4.cell? ⟨g, (i + 1) * 3 + 1, none⟩ = some (.int .i64 p) := D4.out.two (i + 1) _ HZ.out
  have c5 : w4.cell? ⟨g, (i + 1) * 3 + 2, none⟩ = some (.int .i64 q) := D4.out.thr (i + 1) _ HZ.out
  go_wp2_with fail
  refine (HL _).mono ?_
  rintro e wq ⟨rfl, rfl⟩
  have e1 : decide (29 ≤ z - s) = true := decide_eq_true (by omega)
  have e2 : decide (z - s ≤ 30) = true := decide_eq_true (by omega)
  go_wp2_with fail
  go_ret
  exact ⟨rfl, S4.out.b⟩
set_option maxRecDepth 100000 in
set_option maxHeartbeats 1000000 in
theorem walk_lg12 (u y v a b p q s z : Int) (i : Nat) (ds : List (Int × Int × Int)) (hu : 0 ≤ u) (hu2 : u ≤ 255) (hv : 0 ≤ v) (hv2 : v ≤ 255) (hi : v % 11 = i) (hi2 : i < 11) (hx : ds[i]? = some (y, a, b)) (hz : ds[i + 1]? = some (y, p, q)) (s1 : -1 ≤ s) (s2 : s ≤ 365249999998) (z1 : -1 ≤ z) (z2 : z ≤ 365249999998)
    (d1 : 29 ≤ z - s - 1) (d2 : z - s - 1 ≤ 30) (ea : decide (a ≤ 2) = true) (ep : decide (2 < p) = true)
    (HA : ∀ w, Calls Tryd.prog 10 #[.int .i64 (1 + u % 2), .int .i64 y] w fun e w' => e = .returned (.int .i64 0) ∧ w = w')
    (HT : ∀ w, PT w → Calls Tryd.prog 19 #[.int .i64 (1 + u % 2), .int .i64 y] w (RetTOpen 12 ds w))
    (H1 : ∀ w, PT w → Calls Tryd.prog 15 #[.int .i64 (1 + u % 2), dtv y a b] w fun e w' => e = .returned (numv s 0) ∧ Below w.heap.size w w')
    (H2 : ∀ w, PT w → Calls Tryd.prog 15 #[.int .i64 (1 + u % 2), dtv y p q] w fun e w' => e = .returned (numv z 0) ∧ Below w.heap.size w w')
    (HL : ∀ w, Calls Tryd.prog 22 #[.int .i64 (1 + u % 2), .int .i64 y] w fun e w' => e = .returned (.bool true) ∧ w = w')
    (W : World) (ht : PT W) :
    Calls Tryd.prog 7 #[.int .u8 u, .int .i64 y, .int .u8 v] W fun e w' => e = .returned (.bool true) ∧ Below W.heap.size W w' := by
  have HX := Lib.hid hx
  have HZ := Lib.hid hz
  clear hx hz
  have i1 : (0 : Int) ≤ (i : Int) := by omega
  have i2 : (i : Int) < 12 := by omega
  have i3 : (i : Int) + 1 < 12 := by omega
  have S0 := Lib.hid (PSt.start ht)
  clear ht
  go_enter Tryd.func7, Tryd.ntmps7
  go_wp2_with fail
  refine (c9awake_any _ S0.out.t).mono ?_
  rintro e w1 ⟨rfl, hb1⟩
  have S1 := Lib.hid (S0.out.on hb1)
  clear hb1
  go_wp2_with fail
  refine (HA _).mono ?_
  rintro e wq ⟨rfl, rfl⟩
  go_wp2_with fail
  refine (HT _ S1.out.t).mono ?_
  rintro e w2 ⟨g, cap, rfl, _, hD, hb2⟩
  have S2 := Lib.hid (S1.out.on hb2)
  have D2 := Lib.hid hD
  clear hb2 hD
  have hcap := D2.out.le
  have c0 : w2.cell? ⟨g, i * 3, none⟩ = some (.int .i64 y) := D2.out.one i _ HX.out
  have c1 : w2.cell? ⟨g, i * 3 + 1, none⟩ = some (.int .i64 a) := D2.out.two i _ HX.out
  have c2 : w2.cell? ⟨g, i * 3 + 2, none⟩ = some (.int .i64 b) := D2.out.thr i _ HX.out
  have c3 : w2.cell? ⟨g, (i + 1) * 3, none⟩ = some (.int .i64 y) := D2.out.one (i + 1) _ HZ.out
  have c4 : w2.cell? ⟨g, (i + 1) * 3 + 1, none⟩ = some (.int .i64 p) := D2.out.two (i + 1) _ HZ.out
  have c5 : w2.cell? ⟨g, (i + 1) * 3 + 2, none⟩ = some (.int .i64 q) := D2.out.thr (i + 1) _ HZ.out
  go_wp2_with fail
  refine (H1 _ S2.out.t).mono ?_
  rintro e w3 ⟨rfl, hb3⟩
  have S3 := Lib.hid (S2.out.on hb3)
  have D3 := Lib.hid (D2.out.on hb3)
  clear hb3
  clear c0 c1 c2 c3 c4 c5
  have c0 : w3.cell? ⟨g, i * 3, none⟩ = some (.int .i64 y) := D3.out.one i _ HX.out
  have c1 : w3.cell? ⟨g, i * 3 + 1, none⟩ = some (.int .i64 a) := D3.out.two i _ HX.out
  have c2 : w3.cell? ⟨g, i * 3 + 2, none⟩ = some (.int .i64 b) := D3.out.thr i _ HX.out
  have c3 : w3.cell? ⟨g, (i + 1) * 3, none⟩ = some (.int .i64 y) := D3.out.one (i + 1) _ HZ.out
  have c4 : w3.cell? ⟨g, (i + 1) * 3 + 1, none⟩ = some (.int .i64 p) := D3.out.two (i + 1) _ HZ.out
  have c5 : w3.cell? ⟨g, (i + 1) * 3 + 2, none⟩ = some (.int .i64 q) := D3.out.thr (i + 1) _ HZ.out
  go_wp2_with fail
  refine (H2 _ S3.out.t).mono ?_
  rintro e w4 ⟨rfl, hb4⟩
  have S4 := Lib.hid (S3.out.on hb4)
  have D4 := Lib.hid (D3.out.on hb4)
  clear hb4
  clear c0 c1 c2 c3 c4 c5
  have c0 : w4.cell? ⟨g, i * 3, none⟩ = some (.int .i64 y) := D4.out.one i _ HX.out
  have c1 : w4.cell? ⟨g, i * 3 + 1, none⟩ = some (.int .i64 a) := D4.out.two i _ HX.out
  have c2 : w4.cell? ⟨g, i * 3 + 2, none⟩ = some (.int .i64 b) := D4.out.thr i _ HX.out
  have c3 : w4.cell? ⟨g, (i + 1) * 3, none⟩ = some (.int .i64 y) := D4.out.one (i + 1) _ HZ.out
  have c4 : w4.cell? ⟨g, (i + 1) * 3 + 1, none⟩ = some (.int .i64 p) := D4.out.two (i + 1) _ HZ.out
  have c5 : w4.cell? ⟨g, (i + 1) * 3 + 2, none⟩ = some (.int .i64 q) := D4.out.thr (i + 1) _ HZ.out
  go_wp2_with fail
  refine (HL _).mono ?_
  rintro e wq ⟨rfl, rfl⟩
  have e1 : decide (29 ≤ z - s - 1) = true := decide_eq_true (by omega)
  have e2 : decide (z - s - 1 ≤ 30) = true := decide_eq_true (by omega)
  go_wp2_with fail
  go_ret
  exact ⟨rfl, S4.out.b⟩
set_option maxRecDepth 100000 in
set_option maxHeartbeats 1000000 in
theorem walk_lh12 (u y v a b p q s z : Int) (i : Nat) (ds : List (Int × Int × Int)) (hu : 0 ≤ u) (hu2 : u ≤ 255) (hv : 0 ≤ v) (hv2 : v ≤ 255) (hi : v % 11 = i) (hi2 : i < 11) (hx : ds[i]? = some (y, a, b)) (hz : ds[i + 1]? = some (y, p, q)) (s1 : -1 ≤ s) (s2 : s ≤ 365249999998) (z1 : -1 ≤ z) (z2 : z ≤ 365249999998)
    (d1 : 29 ≤ z - s) (d2 : z - s ≤ 30) (ea : decide (a ≤ 2) = false)
    (HA : ∀ w, Calls Tryd.prog 10 #[.int .i64 (1 + u % 2), .int .i64 y] w fun e w' => e = .returned (.int .i64 0) ∧ w = w')
    (HT : ∀ w, PT w → Calls Tryd.prog 19 #[.int .i64 (1 + u % 2), .int .i64 y] w (RetTOpen 12 ds w))
    (H1 : ∀ w, PT w → Calls Tryd.prog 15 #[.int .i64 (1 + u % 2), dtv y a b] w fun e w' => e = .returned (numv s 0) ∧ Below w.heap.size w w')
    (H2 : ∀ w, PT w → Calls Tryd.prog 15 #[.int .i64 (1 + u % 2), dtv y p q] w fun e w' => e = .returned (numv z 0) ∧ Below w.heap.size w w')
    (HL : ∀ w, Calls Tryd.prog 22 #[.int .i64 (1 + u % 2), .int .i64 y] w fun e w' => e = .returned (.bool true) ∧ w = w')
    (W : World) (ht : PT W) :
    Calls Tryd.prog 7 #[.int .u8 u, .int .i64 y, .int .u8 v] W fun e w' => e = .returned (.bool true) ∧ Below W.heap.size W w' := by
  have HX := Lib.hid hx
  have HZ := Lib.hid hz
  clear hx hz
  have i1 : (0 : Int) ≤ (i : Int) := by omega
  have i2 : (i : Int) < 12 := by omega
  have i3 : (i : Int) + 1 < 12 := by omega
  have S0 := Lib.hid (PSt.start ht)
  clear ht
  go_enter Tryd.func7, Tryd.ntmps7
  go_wp2_with fail
  refine (c9awake_any _ S0.out.t).mono ?_
  rintro e w1 ⟨rfl, hb1⟩
  have S1 := Lib.hid (S0.out.on hb1)
  clear hb1
  go_wp2_with fail
  refine (HA _).mono ?_
  rintro e wq ⟨rfl, rfl⟩
  go_wp2_with fail
  refine (HT _ S1.out.t).mono ?_
  rintro e w2 ⟨g, cap, rfl, _, hD, hb2⟩
  have S2 := Lib.hid (S1.out.on hb2)
  have D2 := Lib.hid hD
  clear hb2 hD
  have hcap := D2.out.le
  have c0 : w2.cell? ⟨g, i * 3, none⟩ = some (.int .i64 y) := D2.out.one i _ HX.out
  have c1 : w2.cell? ⟨g, i * 3 + 1, none⟩ = some (.int .i64 a) := D2.out.two i _ HX.out
  have c2 : w2.cell? ⟨g, i * 3 + 2, none⟩ = some (.int .i64 b) := D2.out.thr i _ HX.out
  have c3 : w2.cell? ⟨g, (i + 1) * 3, none⟩ = some (.int .i64 y) := D2.out.one (i + 1) _ HZ.out
  have c4 : w2.cell? ⟨g, (i + 1) * 3 + 1, none⟩ = some (.int .i64 p) := D2.out.two (i + 1) _ HZ.out
  have c5 : w2.cell? ⟨g, (i + 1) * 3 + 2, none⟩ = some (.int .i64 q) := D2.out.thr (i + 1) _ HZ.out
  go_wp2_with fail
  refine (H1 _ S2.out.t).mono ?_
  rintro e w3 ⟨rfl, hb3⟩
  have S3 := Lib.hid (S2.out.on hb3)
  have D3 := Lib.hid (D2.out.on hb3)
  clear hb3
  clear c0 c1 c2 c3 c4 c5
  have c0 : w3.cell? ⟨g, i * 3, none⟩ = some (.int .i64 y) := D3.out.one i _ HX.out
  have c1 : w3.cell? ⟨g, i * 3 + 1, none⟩ = some (.int .i64 a) := D3.out.two i _ HX.out
  have c2 : w3.cell? ⟨g, i * 3 + 2, none⟩ = some (.int .i64 b) := D3.out.thr i _ HX.out
  have c3 : w3.cell? ⟨g, (i + 1) * 3, none⟩ = some (.int .i64 y) := D3.out.one (i + 1) _ HZ.out
  have c4 : w3.cell? ⟨g, (i + 1) * 3 + 1, none⟩ = some (.int .i64 p) := D3.out.two (i + 1) _ HZ.out
  have c5 : w3.cell? ⟨g, (i + 1) * 3 + 2, none⟩ = some (.int .i64 q) := D3.out.thr (i + 1) _ HZ.out
  go_wp2_with fail
  refine (H2 _ S3.out.t).mono ?_
  rintro e w4 ⟨rfl, hb4⟩
  have S4 := Lib.hid (S3.out.on hb4)
  have D4 := Lib.hid (D3.out.on hb4)
  clear hb4
  clear c0 c1 c2 c3 c4 c5
  have c0 : w4.cell? ⟨g, i * 3, none⟩ = some (.int .i64 y) := D4.out.one i _ HX.out
  have c1 : w4.cell? ⟨g, i * 3 + 1, none⟩ = some (.int .i64 a) := D4.out.two i _ HX.out
  have c2 : w4.cell? ⟨g, i * 3 + 2, none⟩ = some (.int .i64 b) := D4.out.thr i _ HX.out
  have c3 : w4.cell? ⟨g, (i + 1) * 3, none⟩ = some (.int .i64 y) := D4.out.one (i + 1) _ HZ.out
  have c4 : w4.cell? ⟨g, (i + 1) * 3 + 1, none⟩ = some (.int .i64 p) := D4.out.two (i + 1) _ HZ.out
  have c5 : w4.cell? ⟨g, (i + 1) * 3 + 2, none⟩ = some (.int .i64 q) := D4.out.thr (i + 1) _ HZ.out
  go_wp2_with fail
  refine (HL _).mono ?_
  rintro e wq ⟨rfl, rfl⟩
  have e1 : decide (29 ≤ z - s) = true := decide_eq_true (by omega)
  have e2 : decide (z - s ≤ 30) = true := decide_eq_true (by omega)
  go_wp2_with fail
  go_ret
  exact ⟨rfl, S4.out.b⟩
set_option maxRecDepth 100000 in
set_option maxHeartbeats 1000000 in
theorem walk_n13 (u y v a b p q s z : Int) (i : Nat) (ds : List (Int × Int × Int)) (hu : 0 ≤ u) (hu2 : u ≤ 255) (hv : 0 ≤ v) (hv2 : v ≤ 255) (hi : v % 12 = i) (hi2 : i < 12) (hx : ds[i]? = some (y, a, b)) (hz : ds[i + 1]? = some (y, p, q)) (s1 : -1 ≤ s) (s2 : s ≤ 365249999998) (z1 : -1 ≤ z) (z2 : z ≤ 365249999998)
    (d1 : 29 ≤ z - s) (d2 : z - s ≤ 30)
    (HA : ∀ w, Calls Tryd.prog 10 #[.int .i64 (1 + u % 2), .int .i64 y] w fun e w' => e = .returned (.int .i64 0) ∧ w = w')
    (HT : ∀ w, PT w → Calls Tryd.prog 19 #[.int .i64 (1 + u % 2), .int .i64 y] w (RetTOpen 13 ds w))
    (H1 : ∀ w, PT w → Calls Tryd.prog 15 #[.int .i64 (1 + u % 2), dtv y a b] w fun e w' => e = .returned (numv s 0) ∧ Below w.heap.size w w')
    (H2 : ∀ w, PT w → Calls Tryd.prog 15 #[.int .i64 (1 + u % 2), dtv y p q] w fun e w' => e = .returned (numv z 0) ∧ Below w.heap.size w w')
    (HL : ∀ w, Calls Tryd.prog 22 #[.int .i64 (1 + u % 2), .int .i64 y] w fun e w' => e = .returned (.bool false) ∧ w = w')
    (W : World) (ht : PT W) :
    Calls Tryd.prog 7 #[.int .u8 u, .int .i64 y, .int .u8 v] W fun e w' => e = .returned (.bool true) ∧ Below W.heap.size W w' := by
  have HX := Lib.hid hx
  have HZ := Lib.hid hz
  clear hx hz
  have i1 : (0 : Int) ≤ (i : Int) := by omega
  have i2 : (i : Int) < 13 := by omega
  have i3 : (i : Int) + 1 < 13 := by omega
  have S0 := Lib.hid (PSt.start ht)
  clear ht
  go_enter Tryd.func7, Tryd.ntmps7
  go_wp2_with fail
  refine (c9awake_any _ S0.out.t).mono ?_
  rintro e w1 ⟨rfl, hb1⟩
  have S1 := Lib.hid (S0.out.on hb1)
  clear hb1
  go_wp2_with fail
  refine (HA _).mono ?_
  rintro e wq ⟨rfl, rfl⟩
  go_wp2_with fail
  refine (HT _ S1.out.t).mono ?_
  rintro e w2 ⟨g, cap, rfl, _, hD, hb2⟩
  have S2 := Lib.hid (S1.out.on hb2)
  have D2 := Lib.hid hD
  clear hb2 hD
  have hcap := D2.out.le
  have c0 : w2.cell? ⟨g, i * 3, none⟩ = some (.int .i64 y) := D2.out.one i _ HX.out
  have c1 : w2.cell? ⟨g, i * 3 + 1, none⟩ = some (.int .i64 a) := D2.out.two i _ HX.out
  have c2 : w2.cell? ⟨g, i * 3 + 2, none⟩ = some (.int .i64 b) := D2.out.thr i _ HX.out
  have c3 : w2.cell? ⟨g, (i + 1) * 3, none⟩ = some (.int .i64 y) := D2.out.one (i + 1) _ HZ.out
  have c4 : w2.cell? ⟨g, (i + 1) * 3 + 1, none⟩ = some (.int .i64 p) := D2.out.two (i + 1) _ HZ.out
  have c5 : w2.cell? ⟨g, (i + 1) * 3 + 2, none⟩ = some (.int .i64 q) := D2.out.thr (i + 1) _ HZ.out
  go_wp2_with fail
  refine (H1 _ S2.out.t).mono ?_
  rintro e w3 ⟨rfl, hb3⟩
  have S3 := Lib.hid (S2.out.on hb3)
  have D3 := Lib.hid (D2.out.on hb3)
  clear hb3
  clear c0 c1 c2 c3 c4 c5
  have c0 : w3.cell? ⟨g, i * 3, none⟩ = some (.int .i64 y) := D3.out.one i _ HX.out
  have c1 : w3.cell? ⟨g, i * 3 + 1, none⟩ = some (.int .i64 a) := D3.out.two i _ HX.out
  have c2 : w3.cell? ⟨g, i * 3 + 2, none⟩ = some (.int .i64 b) := D3.out.thr i _ HX.out
  have c3 : w3.cell? ⟨g, (i + 1) * 3, none⟩ = some (.int .i64 y) := D3.out.one (i + 1) _ HZ.out
  have c4 : w3.cell? ⟨g, (i + 1) * 3 + 1, none⟩ = some (.int .i64 p) := D3.out.two (i + 1) _ HZ.out
  have c5 : w3.cell? ⟨g, (i + 1) * 3 + 2, none⟩ = some (.int .i64 q) := D3.out.thr (i + 1) _ HZ.out
  go_wp2_with fail
  refine (H2 _ S3.out.t).mono ?_
  rintro e w4 ⟨rfl, hb4⟩
  have S4 := Lib.hid (S3.out.on hb4)
  have D4 := Lib.hid (D3.out.on hb4)
  clear hb4
  clear c0 c1 c2 c3 c4 c5
  have c0 : w4.cell? ⟨g, i * 3, none⟩ = some (.int .i64 y) := D4.out.one i _ HX.out
  have c1 : w4.cell? ⟨g, i * 3 + 1, none⟩ = some (.int .i64 a) := D4.out.two i _ HX.out
  have c2 : w4.cell? ⟨g, i * 3 + 2, none⟩ = some (.int .i64 b) := D4.out.thr i _ HX.out
  have c3 : w4.cell? ⟨g, (i + 1) * 3, none⟩ = some (.int .i64 y) := D4.out.one (i + 1) _ HZ.out
  have c4 : w4.cell? ⟨g, (i + 1) * 3 + 1, none⟩ = some (.int .i64 p) := D4.out.two (i + 1) _ HZ.out
  have c5 : w4.cell? ⟨g, (i + 1) * 3 + 2, none⟩ = some (.int .i64 q) := D4.out.thr (i + 1) _ HZ.out
  go_wp2_with fail
  refine (HL _).mono ?_
  rintro e wq ⟨rfl, rfl⟩
  have e1 : decide (29 ≤ z - s) = true := decide_eq_true (by omega)
  have e2 : decide (z - s ≤ 30) = true := decide_eq_true (by omega)
  go_wp2_with fail
  go_ret
  exact ⟨rfl, S4.out.b⟩
set_option maxRecDepth 100000 in
set_option maxHeartbeats 1000000 in
theorem walk_ll13 (u y v a b p q s z : Int) (i : Nat) (ds : List (Int × Int × Int)) (hu : 0 ≤ u) (hu2 : u ≤ 255) (hv : 0 ≤ v) (hv2 : v ≤ 255) (hi : v % 12 = i) (hi2 : i < 12) (hx : ds[i]? = some (y, a, b)) (hz : ds[i + 1]? = some (y, p, q)) (s1 : -1 ≤ s) (s2 : s ≤ 365249999998) (z1 : -1 ≤ z) (z2 : z ≤ 365249999998)
    (d1 : 29 ≤ z - s) (d2 : z - s ≤ 30) (ea : decide (a ≤ 2) = true) (ep : decide (2 < p) = false)
    (HA : ∀ w, Calls Tryd.prog 10 #[.int .i64 (1 + u % 2), .int .i64 y] w fun e w' => e = .returned (.int .i64 0) ∧ w = w')
    (HT : ∀ w, PT w → Calls Tryd.prog 19 #[.int .i64 (1 + u % 2), .int .i64 y] w (RetTOpen 13 ds w))
    (H1 : ∀ w, PT w → Calls Tryd.prog 15 #[.int .i64 (1 + u % 2), dtv y a b] w fun e w' => e = .returned (numv s 0) ∧ Below w.heap.size w w')
    (H2 : ∀ w, PT w → Calls Tryd.prog 15 #[.int .i64 (1 + u % 2), dtv y p q] w fun e w' => e = .returned (numv z 0) ∧ Below w.heap.size w w')
    (HL : ∀ w, Calls Tryd.prog 22 #[.int .i64 (1 + u % 2), .int .i64 y] w fun e w' => e = .returned (.bool true) ∧ w = w')
    (W : World) (ht : PT W) :
    Calls Tryd.prog 7 #[.int .u8 u, .int .i64 y, .int .u8 v] W fun e w' => e = .returned (.bool true) ∧ Below W.heap.size W w' := by
  have HX := Lib.hid hx
  have HZ := Lib.hid hz
  clear hx hz
  have i1 : (0 : Int) ≤ (i : Int) := by omega
  have i2 : (i : Int) < 13 := by omega
  have i3 : (i : Int) + 1 < 13 := by omega
  have S0 := Lib.hid (PSt.start ht)
  clear ht
  go_enter Tryd.func7, Tryd.ntmps7
  go_wp2_with fail
  refine (c9awake_any _ S0.out.t).mono ?_
  rintro e w1 ⟨rfl, hb1⟩
  have S1 := Lib.hid (S0.out.on hb1)
  clear hb1
  go_wp2_with fail
  refine (HA _).mono ?_
  rintro e wq ⟨rfl, rfl⟩
  go_wp2_with fail
  refine (HT _ S1.out.t).mono ?_
  rintro e w2 ⟨g, cap, rfl, _, hD, hb2⟩
  have S2 := Lib.hid (S1.out.on hb2)
  have D2 := Lib.hid hD
  clear hb2 hD
  have hcap := D2.out.le
  have c0 : w2.cell? ⟨g, i * 3, none⟩ = some (.int .i64 y) := D2.out.one i _ HX.out
  have c1 : w2.cell? ⟨g, i * 3 + 1, none⟩ = some (.int .i64 a) := D2.out.two i _ HX.out
  have c2 : w2.cell? ⟨g, i * 3 + 2, none⟩ = some (.int .i64 b) := D2.out.thr i _ HX.out
  have c3 : w2.cell? ⟨g, (i + 1) * 3, none⟩ = some (.int .i64 y) := D2.out.one (i + 1) _ HZ.out
  have c4 : w2.cell? ⟨g, (i + 1) * 3 + 1, none⟩ = some (.int .i64 p) := D2.out.two (i + 1) _ HZ.out
  have c5 : w2.cell? ⟨g, (i + 1) * 3 + 2, none⟩ = some (.int .i64 q) := D2.out.thr (i + 1) _ HZ.out
  go_wp2_with fail
  refine (H1 _ S2.out.t).mono ?_
  rintro e w3 ⟨rfl, hb3⟩
  have S3 := Lib.hid (S2.out.on hb3)
  have D3 := Lib.hid (D2.out.on hb3)
  clear hb3
  clear c0 c1 c2 c3 c4 c5
  have c0 : w3.cell? ⟨g, i * 3, none⟩ = some (.int .i64 y) := D3.out.one i _ HX.out
  have c1 : w3.cell? ⟨g, i * 3 + 1, none⟩ = some (.int .i64 a) := D3.out.two i _ HX.out
  have c2 : w3.cell? ⟨g, i * 3 + 2, none⟩ = some (.int .i64 b) := D3.out.thr i _ HX.out
  have c3 : w3.cell? ⟨g, (i + 1) * 3, none⟩ = some (.int .i64 y) := D3.out.one (i + 1) _ HZ.out
  have c4 : w3.cell? ⟨g, (i + 1) * 3 + 1, none⟩ = some (.int .i64 p) := D3.out.two (i + 1) _ HZ.out
  have c5 : w3.cell? ⟨g, (i + 1) * 3 + 2, none⟩ = some (.int .i64 q) := D3.out.thr (i + 1) _ HZ.out
  go_wp2_with fail
  refine (H2 _ S3.out.t).mono ?_
  rintro e w4 ⟨rfl, hb4⟩
  have S4 := Lib.hid (S3.out.on hb4)
  have D4 := Lib.hid (D3.out.on hb4)
  clear hb4
  clear c0 c1 c2 c3 c4 c5
  have c0 : w4.cell? ⟨g, i * 3, none⟩ = some (.int .i64 y) := D4.out.one i _ HX.out
  have c1 : w4.cell? ⟨g, i * 3 + 1, none⟩ = some (.int .i64 a) := D4.out.two i _ HX.out
  have c2 : w4.cell? ⟨g, i * 3 + 2, none⟩ = some (.int .i64 b) := D4.out.thr i _ HX.out
  have c3 : w4.cell? ⟨g, (i + 1) * 3, none⟩ = some (.int .i64 y) := D4.out.one (i + 1) _ HZ.out
  have c4 : w4.cell? ⟨g, (i + 1) * 3 + 1, none⟩ = some (.int .i64 p) := D4.out.two (i + 1) _ HZ.out
  have c5 : w4.cell? ⟨g, (i + 1) * 3 + 2, none⟩ = some (.int .i64 q) := D4.out.thr (i + 1) _ HZ.out
  go_wp2_with fail
  refine (HL _).mono ?_
  rintro e wq ⟨rfl, rfl⟩
  have e1 : decide (29 ≤ z - s) = true := decide_eq_true (by omega)
  have e2 : decide (z - s ≤ 30) = true := decide_eq_true (by omega)
  go_wp2_with fail
  go_ret
  exact ⟨rfl, S4.out.b⟩
set_option maxRecDepth 100000 in
set_option maxHeartbeats 1000000 in
theorem walk_lg13 (u y v a b p q s z : Int) (i : Nat) (ds : List (Int × Int × Int)) (hu : 0 ≤ u) (hu2 : u ≤ 255) (hv : 0 ≤ v) (hv2 : v ≤ 255) (hi : v % 12 = i) (hi2 : i < 12) (hx : ds[i]? = some (y, a, b)) (hz : ds[i + 1]? = some (y, p, q)) (s1 : -1 ≤ s) (s2 : s ≤ 365249999998) (z1 : -1 ≤ z) (z2 : z ≤ 365249999998)
    (d1 : 29 ≤ z - s - 1) (d2 : z - s - 1 ≤ 30) (ea : decide (a ≤ 2) = true) (ep : decide (2 < p) = true)
    (HA : ∀ w, Calls Tryd.prog 10 #[.int .i64 (1 + u % 2), .int .i64 y] w fun e w' => e = .returned (.int .i64 0) ∧ w = w')
    (HT : ∀ w, PT w → Calls Tryd.prog 19 #[.int .i64 (1 + u % 2), .int .i64 y] w (RetTOpen 13 ds w))
    (H1 : ∀ w, PT w → Calls Tryd.prog 15 #[.int .i64 (1 + u % 2), dtv y a b] w fun e w' => e = .returned (numv s 0) ∧ Below w.heap.size w w')
    (H2 : ∀ w, PT w → Calls Tryd.prog 15 #[.int .i64 (1 + u % 2), dtv y p q] w fun e w' => e = .returned (numv z 0) ∧ Below w.heap.size w w')
    (HL : ∀ w, Calls Tryd.prog 22 #[.int .i64 (1 + u % 2), .int .i64 y] w fun e w' => e = .returned (.bool true) ∧ w = w')
    (W : World) (ht : PT W) :
    Calls Tryd.prog 7 #[.int .u8 u, .int .i64 y, .int .u8 v] W fun e w' => e = .returned (.bool true) ∧ Below W.heap.size W w' := by
  have HX := Lib.hid hx
  have HZ := Lib.hid hz
  clear hx hz
  have i1 : (0 : Int) ≤ (i : Int) := by omega
  have i2 : (i : Int) < 13 := by omega
  have i3 : (i : Int) + 1 < 13 := by omega
  have S0 := Lib.hid (PSt.start ht)
  clear ht
  go_enter Tryd.func7, Tryd.ntmps7
  go_wp2_with fail
  refine (c9awake_any _ S0.out.t).mono ?_
  rintro e w1 ⟨rfl, hb1⟩
  have S1 := Lib.hid (S0.out.on hb1)
  clear hb1
  go_wp2_with fail
  refine (HA _).mono ?_
  rintro e wq ⟨rfl, rfl⟩
  go_wp2_with fail
  refine (HT _ S1.out.t).mono ?_
  rintro e w2 ⟨g, cap, rfl, _, hD, hb2⟩
  have S2 := Lib.hid (S1.out.on hb2)
  have D2 := Lib.hid hD
  clear hb2 hD
  have hcap := D2.out.le
  have c0 : w2.cell? ⟨g, i * 3, none⟩ = some (.int .i64 y) := D2.out.one i _ HX.out
  have c1 : w2.cell? ⟨g, i * 3 + 1, none⟩ = some (.int .i64 a) := D2.out.two i _ HX.out
  have c2 : w2.cell? ⟨g, i * 3 + 2, none⟩ = some (.int .i64 b) := D2.out.thr i _ HX.out
  have c3 : w2.cell? ⟨g, (i + 1) * 3, none⟩ = some (.int .i64 y) := D2.out.one (i + 1) _ HZ.out
  have c4 : w2.cell? ⟨g, (i + 1) * 3 + 1, none⟩ = some (.int .i64 p) := D2.out.two (i + 1) _ HZ.out
  have c5 : w2.cell? ⟨g, (i + 1) * 3 + 2, none⟩ = some (.int .i64 q) := D2.out.thr (i + 1) _ HZ.out
  go_wp2_with fail
  refine (H1 _ S2.out.t).mono ?_
  rintro e w3 ⟨rfl, hb3⟩
  have S3 := Lib.hid (S2.out.on hb3)
  have D3 := Lib.hid (D2.out.on hb3)
  clear hb3
  clear c0 c1 c2 c3 c4 c5
  have c0 : w3.cell? ⟨g, i * 3, none⟩ = some (.int .i64 y) := D3.out.one i _ HX.out
  have c1 : w3.cell? ⟨g, i * 3 + 1, none⟩ = some (.int .i64 a) := D3.out.two i _ HX.out
  have c2 : w3.cell? ⟨g, i * 3 + 2, none⟩ = some (.int .i64 b) := D3.out.thr i _ HX.out
  have c3 : w3.cell? ⟨g, (i + 1) * 3, none⟩ = some (.int .i64 y) := D3.out.one (i + 1) _ HZ.out
  have c4 : w3.cell? ⟨g, (i + 1) * 3 + 1, none⟩ = some (.int .i64 p) := D3.out.two (i + 1) _ HZ.out
  have c5 : w3.cell? ⟨g, (i + 1) * 3 + 2, none⟩ = some (.int .i64 q) := D3.out.thr (i + 1) _ HZ.out
  go_wp2_with fail
  refine (H2 _ S3.out.t).mono ?_
  rintro e w4 ⟨rfl, hb4⟩
  have S4 := Lib.hid (S3.out.on hb4)
  have D4 := Lib.hid (D3.out.on hb4)
  clear hb4
  clear c0 c1 c2 c3 c4 c5
  have c0 : w4.cell? ⟨g, i * 3, none⟩ = some (.int .i64 y) := D4.out.one i _ HX.out
  have c1 : w4.cell? ⟨g, i * 3 + 1, none⟩ = some (.int .i64 a) := D4.out.two i _ HX.out
  have c2 : w4.cell? ⟨g, i * 3 + 2, none⟩ = some (.int .i64 b) := D4.out.thr i _ HX.out
  have c3 : w4.cell? ⟨g, (i + 1) * 3, none⟩ = some (.int .i64 y) := D4.out.one (i + 1) _ HZ.out
  have c4 : w4.cell? ⟨g, (i + 1) * 3 + 1, none⟩ = some (.int .i64 p) := D4.out.two (i + 1) _ HZ.out
  have c5 : w4.cell? ⟨g, (i + 1) * 3 + 2, none⟩ = some (.int .i64 q) := D4.out.thr (i + 1) _ HZ.out
  go_wp2_with fail
  refine (HL _).mono ?_
  rintro e wq ⟨rfl, rfl⟩
  have e1 : decide (29 ≤ z - s - 1) = true := decide_eq_true (by omega)
  have e2 : decide (z - s - 1 ≤ 30) = true := decide_eq_true (by omega)
  go_wp2_with fail
  go_ret
  exact ⟨rfl, S4.out.b⟩
set_option maxRecDepth 100000 in
set_option maxHeartbeats 1000000 in
theorem walk_lh13 (u y v a b p q s z : Int) (i : Nat) (ds : List (Int × Int × Int)) (hu : 0 ≤ u) (hu2 : u ≤ 255) (hv : 0 ≤ v) (hv2 : v ≤ 255) (hi : v % 12 = i) (hi2 : i < 12) (hx : ds[i]? = some (y, a, b)) (hz : ds[i + 1]? = some (y, p, q)) (s1 : -1 ≤ s) (s2 : s ≤ 365249999998) (z1 : -1 ≤ z) (z2 : z ≤ 365249999998)
    (d1 : 29 ≤ z - s) (d2 : z - s ≤ 30) (ea : decide (a ≤ 2) = false)
    (HA : ∀ w, Calls Tryd.prog 10 #[.int .i64 (1 + u % 2), .int .i64 y] w fun e w' => e = .returned (.int .i64 0) ∧ w = w')
    (HT : ∀ w, PT w → Calls Tryd.prog 19 #[.int .i64 (1 + u % 2), .int .i64 y] w (RetTOpen 13 ds w))
    (H1 : ∀ w, PT w → Calls Tryd.prog 15 #[.int .i64 (1 + u % 2), dtv y a b] w fun e w' => e = .returned (numv s 0) ∧ Below w.heap.size w w')
    (H2 : ∀ w, PT w → Calls Tryd.prog 15 #[.int .i64 (1 + u % 2), dtv y p q] w fun e w' => e = .returned (numv z 0) ∧ Below w.heap.size w w')
    (HL : ∀ w, Calls Tryd.prog 22 #[.int .i64 (1 + u % 2), .int .i64 y] w fun e w' => e = .returned (.bool true) ∧ w = w')
    (W : World) (ht : PT W) :
    Calls Tryd.prog 7 #[.int .u8 u, .int .i64 y, .int .u8 v] W fun e w' => e = .returned (.bool true) ∧ Below W.heap.size W w' := by
  have HX := Lib.hid hx
  have HZ := Lib.hid hz
  clear hx hz
  have i1 : (0 : Int) ≤ (i : Int) := by omega
  have i2 : (i : Int) < 13 := by omega
  have i3 : (i : Int) + 1 < 13 := by omega
  have S0 := Lib.hid (PSt.start ht)
  clear ht
  go_enter Tryd.func7, Tryd.ntmps7
  go_wp2_with fail
  refine (c9awake_any _ S0.out.t).mono ?_
  rintro e w1 ⟨rfl, hb1⟩
  have S1 := Lib.hid (S0.out.on hb1)
  clear hb1
  go_wp2_with fail
  refine (HA _).mono ?_
  rintro e wq ⟨rfl, rfl⟩
  go_wp2_with fail
  refine (HT _ S1.out.t).mono ?_
  rintro e w2 ⟨g, cap, rfl, _, hD, hb2⟩
  have S2 := Lib.hid (S1.out.on hb2)
  have D2 := Lib.hid hD
  clear hb2 hD
  have hcap := D2.out.le
  have c0 : w2.cell? ⟨g, i * 3, none⟩ = some (.int .i64 y) := D2.out.one i _ HX.out
  have c1 : w2.cell? ⟨g, i * 3 + 1, none⟩ = some (.int .i64 a) := D2.out.two i _ HX.out
  have c2 : w2.cell? ⟨g, i * 3 + 2, none⟩ = some (.int .i64 b) := D2.out.thr i _ HX.out
  have c3 : w2.cell? ⟨g, (i + 1) * 3, none⟩ = some (.int .i64 y) := D2.out.one (i + 1) _ HZ.out
  have c4 : w2.cell? ⟨g, (i + 1) * 3 + 1, none⟩ = some (.int .i64 p) := D2.out.two (i + 1) _ HZ.out
  have c5 : w2.cell? ⟨g, (i + 1) * 3 + 2, none⟩ = some (.int .i64 q) := D2.out.thr (i + 1) _ HZ.out
  go_wp2_with fail
  refine (H1 _ S2.out.t).mono ?_
  rintro e w3 ⟨rfl, hb3⟩
  have S3 := Lib.hid (S2.out.on hb3)
  have D3 := Lib.hid (D2.out.on hb3)
  clear hb3
  clear c0 c1 c2 c3 c4 c5
  have c0 : w3.cell? ⟨g, i * 3, none⟩ = some (.int .i64 y) := D3.out.one i _ HX.out
  have c1 : w3.cell? ⟨g, i * 3 + 1, none⟩ = some (.int .i64 a) := D3.out.two i _ HX.out
  have c2 : w3.cell? ⟨g, i * 3 + 2, none⟩ = some (.int .i64 b) := D3.out.thr i _ HX.out
  have c3 : w3.cell? ⟨g, (i + 1) * 3, none⟩ = some (.int .i64 y) := D3.out.one (i + 1) _ HZ.out
  have c4 : w3.cell? ⟨g, (i + 1) * 3 + 1, none⟩ = some (.int .i64 p) := D3.out.two (i + 1) _ HZ.out
  have c5 : w3.cell? ⟨g, (i + 1) * 3 + 2, none⟩ = some (.int .i64 q) := D3.out.thr (i + 1) _ HZ.out
  go_wp2_with fail
  refine (H2 _ S3.out.t).mono ?_
  rintro e w4 ⟨rfl, hb4⟩
  have S4 := Lib.hid (S3.out.on hb4)
  have D4 := Lib.hid (D3.out.on hb4)
  clear hb4
  clear c0 c1 c2 c3 c4 c5
  have c0 : w4.cell? ⟨g, i * 3, none⟩ = some (.int .i64 y) := D4.out.one i _ HX.out
  have c1 : w4.cell? ⟨g, i * 3 + 1, none⟩ = some (.int .i64 a) := D4.out.two i _ HX.out
  have c2 : w4.cell? ⟨g, i * 3 + 2, none⟩ = some (.int .i64 b) := D4.out.thr i _ HX.out
  have c3 : w4.cell? ⟨g, (i + 1) * 3, none⟩ = some (.int .i64 y) := D4.out.one (i + 1) _ HZ.out
  have c4 : w4.cell? ⟨g, (i + 1) * 3 + 1, none⟩ = some (.int .i64 p) := D4.out.two (i + 1) _ HZ.out
  have c5 : w4.cell? ⟨g, (i + 1) * 3 + 2, none⟩ = some (.int .i64 q) := D4.out.thr (i + 1) _ HZ.out
  go_wp2_with fail
  refine (HL _).mono ?_
  rintro e wq ⟨rfl, rfl⟩
  have e1 : decide (29 ≤ z - s) = true := decide_eq_true (by omega)
  have e2 : decide (z - s ≤ 30) = true := decide_eq_true (by omega)
  go_wp2_with fail
  go_ret
  exact ⟨rfl, S4.out.b⟩
theorem walk (u y v : Int) (w0 : (Lit.int .u8 u).wf = true) (w1 : (Lit.int .i64 y).wf = true) (w2 : (Lit.int .u8 v).wf = true) (W : World) (ht0 : CTab W ∧ LTab W) :
    Calls Tryd.prog 7 #[.int .u8 u, .int .i64 y, .int .u8 v] W fun e w' => e = .returned (.bool true) ∧ Below W.heap.size W w' := by
  have ht : PT W := ⟨ht0.1, ht0.2⟩
  obtain ⟨hu, hu2⟩ := bounds_u8 w0
  obtain ⟨hv, hv2⟩ := bounds_u8 w2
  obtain ⟨hw, hc⟩ := wfU u
  have HA := fun w => rfail_any (1 + u % 2) y w
  by_cases h : epE (1 + u % 2) y = 0
  · rw [h] at HA
    obtain ⟨y1, y2⟩ := epE_inY h
    obtain ⟨l1, l2⟩ := lab_bd (1 + u % 2) y
    rcases days_lens l1 l2 with hn | hn
    · skip
      obtain ⟨i, hi, hi2⟩ : ∃ i : Nat, v % 11 = i ∧ i < 11 := ⟨(v % 11).toNat, by omega, by omega⟩
      obtain ⟨a, b, hx⟩ := day_at (l := lab (1 + u % 2) y) (i := i) (by omega)
      obtain ⟨p, q, hz⟩ := day_at (l := lab (1 + u % 2) y) (i := i + 1) (by omega)
      obtain ⟨ol, oa, op, g1, g2⟩ := fol_at l1 l2 hx hz y
      obtain ⟨t1, n1⟩ := tE_at hc (okD_vld (C := calOf (1 + u % 2)) y1 y2 oa)
      obtain ⟨t2, n2⟩ := tE_at hc (okD_vld (C := calOf (1 + u % 2)) y1 y2 op)
      have b1 := tN_bd (1 + u % 2) y a b
      have b2 := tN_bd (1 + u % 2) y p q
      have H1 := fun w (ht : PT w) => r5day_any y a b w (1 + u % 2) ht.c
      have H2 := fun w (ht : PT w) => r5day_any y p q w (1 + u % 2) ht.c
      rw [t1] at H1
      rw [t2] at H2
      have HT := fun w (ht : PT w) => ptab_open (1 + u % 2) y 12 w hw h hn (by omega) ht
      have HL := fun w => r5lp_any (1 + u % 2) y w hc (inR_iff.2 (by omega))
      unfold Cal.num at n1 n2
      rw [cum_lp] at n1 n2
      unfold doy at g1 g2
      unfold Cal.less at ol
      rw [decide_eq_true_iff] at ol
      cases hL : (calOf (1 + u % 2)).lp y
      · rw [hL] at HL n1 n2
        have z0 : l01 false = 0 := rfl
        rw [z0] at n1 n2
        rw [ite_self] at n1 n2
        exact walk_n12 u y v a b p q _ _ i _ hu hu2 hv hv2 hi hi2 (dates_at hx) (dates_at hz) b1.1 b1.2 b2.1 b2.2 (by omega) (by omega) HA HT H1 H2 HL W ht
      · rw [hL] at HL n1 n2
        have z1 : l01 true = 1 := rfl
        rw [z1] at n1 n2
        by_cases ea : a ≤ 2
        · rw [if_pos ea] at n1
          by_cases ep : 2 < p
          · rw [if_neg (by omega)] at n2
            exact walk_lg12 u y v a b p q _ _ i _ hu hu2 hv hv2 hi hi2 (dates_at hx) (dates_at hz) b1.1 b1.2 b2.1 b2.2 (by omega) (by omega) (decide_eq_true ea) (decide_eq_true ep) HA HT H1 H2 HL W ht
          · rw [if_pos (by omega)] at n2
            exact walk_ll12 u y v a b p q _ _ i _ hu hu2 hv hv2 hi hi2 (dates_at hx) (dates_at hz) b1.1 b1.2 b2.1 b2.2 (by omega) (by omega) (decide_eq_true ea) (decide_eq_false ep) HA HT H1 H2 HL W ht
        · rw [if_neg ea] at n1
          rw [if_neg (by omega)] at n2
          exact walk_lh12 u y v a b p q _ _ i _ hu hu2 hv hv2 hi hi2 (dates_at hx) (dates_at hz) b1.1 b1.2 b2.1 b2.2 (by omega) (by omega) (decide_eq_false ea) HA HT H1 H2 HL W ht
    · skip
      obtain ⟨i, hi, hi2⟩ : ∃ i : Nat, v % 12 = i ∧ i < 12 := ⟨(v % 12).toNat, by omega, by omega⟩
      obtain ⟨a, b, hx⟩ := day_at (l := lab (1 + u % 2) y) (i := i) (by omega)
      obtain ⟨p, q, hz⟩ := day_at (l := lab (1 + u % 2) y) (i := i + 1) (by omega)
      obtain ⟨ol, oa, op, g1, g2⟩ := fol_at l1 l2 hx hz y
      obtain ⟨t1, n1⟩ := tE_at hc (okD_vld (C := calOf (1 + u % 2)) y1 y2 oa)
      obtain ⟨t2, n2⟩ := tE_at hc (okD_vld (C := calOf (1 + u % 2)) y1 y2 op)
      have b1 := tN_bd (1 + u % 2) y a b
      have b2 := tN_bd (1 + u % 2) y p q
      have H1 := fun w (ht : PT w) => r5day_any y a b w (1 + u % 2) ht.c
      have H2 := fun w (ht : PT w) => r5day_any y p q w (1 + u % 2) ht.c
      rw [t1] at H1
      rw [t2] at H2
      have HT := fun w (ht : PT w) => ptab_open (1 + u % 2) y 13 w hw h hn (by omega) ht
      have HL := fun w => r5lp_any (1 + u % 2) y w hc (inR_iff.2 (by omega))
      unfold Cal.num at n1 n2
      rw [cum_lp] at n1 n2
      unfold doy at g1 g2
      unfold Cal.less at ol
      rw [decide_eq_true_iff] at ol
      cases hL : (calOf (1 + u % 2)).lp y
      · rw [hL] at HL n1 n2
        have z0 : l01 false = 0 := rfl
        rw [z0] at n1 n2
        rw [ite_self] at n1 n2
        exact walk_n13 u y v a b p q _ _ i _ hu hu2 hv hv2 hi hi2 (dates_at hx) (dates_at hz) b1.1 b1.2 b2.1 b2.2 (by omega) (by omega) HA HT H1 H2 HL W ht
      · rw [hL] at HL n1 n2
        have z1 : l01 true = 1 := rfl
        rw [z1] at n1 n2
        by_cases ea : a ≤ 2
        · rw [if_pos ea] at n1
          by_cases ep : 2 < p
          · rw [if_neg (by omega)] at n2
            exact walk_lg13 u y v a b p q _ _ i _ hu hu2 hv hv2 hi hi2 (dates_at hx) (dates_at hz) b1.1 b1.2 b2.1 b2.2 (by omega) (by omega) (decide_eq_true ea) (decide_eq_true ep) HA HT H1 H2 HL W ht
          · rw [if_pos (by omega)] at n2
            exact walk_ll13 u y v a b p q _ _ i _ hu hu2 hv hv2 hi hi2 (dates_at hx) (dates_at hz) b1.1 b1.2 b2.1 b2.2 (by omega) (by omega) (decide_eq_true ea) (decide_eq_false ep) HA HT H1 H2 HL W ht
        · rw [if_neg ea] at n1
          rw [if_neg (by omega)] at n2
          exact walk_lh13 u y v a b p q _ _ i _ hu hu2 hv hv2 hi hi2 (dates_at hx) (dates_at hz) b1.1 b1.2 b2.1 b2.2 (by omega) (by omega) (decide_eq_false ea) HA HT H1 H2 HL W ht
  · exact walk_a u y v _ hu hu2 HA (tE_ne h) W ht

/-! ### the row's step -/
set_option maxRecDepth 100000 in
theorem lifted (os : Os) (started : os.Started) (H : Type) (enc : TypeId × Value → H) :
    ReturnsInHanded {} Tryd.checked os 7 .any (fun w args => (Rows.paschalMonthsSpec.pre enc Tryd.prog Tryd.f7 [] false w args ∧ laidMetH Tryd.prog laidL w) ∧ sizedMet enc Tryd.prog Tryd.f7 (OpenSpec.ofChange Rows.paschalMonthsSpec) false w args)
      (Rows.paschalMonthsSpec.post enc Tryd.prog Tryd.f7 false true false false) := by
  refine returnsInHanded_of_change_and (C := Tryd.checked) (X := fun w _ => laidMetH Tryd.prog laidL w) (fun _ _ _ hh h => h.of_heap hh) own started (by kernel_rfl) Tryd.func7
    (ChangeSpec.witness_shaped (enc := enc) (C := Tryd.checked) (os := os) (X := fun w _ => laidMetH Tryd.prog laidL w) false (World.doorLaid Tryd.prog 400 os) #[.int .u8 0, .int .i64 0, .int .u8 0] 8 rfl (World.shaped_of_RefB (by kernel_rfl) (by kernel_rfl)) (by kernel_rfl) (by kernel_rfl) (by kernel_rfl) (door_met os _)) ?_
  intro W base args ds gs before hval0 hW _ _ hL _
  have hval : ∀ (j : Nat) t v, Tryd.f7.params[j]? = some t → args[j]? = some v → Value.okWide Tryd.prog W .any base t v := hval0
  have hW' := hW
  obtain ⟨p, q, hA0, hV, rfl, hfz, hnd⟩ := hW
  have hA : DataW.TrodAll enc Tryd.prog W 0 (fun _ => true) true Tryd.f7.params.toList args.toList ds p := hA0
  rw [Tryd.params7] at hA hval
  obtain ⟨v0, vs0, d0, ds0, p0, q0, hargs, rfl, rfl, h0, r0⟩ := trodAll_cons hA
  obtain ⟨v1, vs1, d1, ds1, p1, q1, rfl, rfl, rfl, h1, r1⟩ := trodAll_cons r0
  obtain ⟨v2, vs2, d2, ds2, p2, q2, rfl, rfl, rfl, h2, r2⟩ := trodAll_cons r1
  obtain ⟨rfl, rfl, rfl⟩ := trodAll_nil r2
  obtain rfl : args = #[v0, v1, v2] := by cases args; simp_all
  obtain ⟨rfl, rfl⟩ := trodVars_none hV
  obtain ⟨a0, rfl, rfl, rfl, w0⟩ := open_int Tryd.underlying5 (hval 0 5 v0 rfl rfl) h0
  obtain ⟨a1, rfl, rfl, rfl, w1⟩ := open_int Tryd.underlying3 (hval 1 3 v1 rfl rfl) h1
  obtain ⟨a2, rfl, rfl, rfl, w2⟩ := open_int Tryd.underlying5 (hval 2 5 v2 rfl rfl) h2
  clear hA0 hval0
  simp only [List.append_nil] at hW'
  refine (walk a0 a1 a2 w0 w1 w2 W (laid_facts hL)).mono fun e W' ⟨he, bel⟩ => ?_
  subst he
  exact ⟨_, rfl, _, _, _, [], _, [], hW', trodAll_mk1 (shut_bool Tryd.underlying4 _), (trodAll_cons_mk (shut_int Tryd.underlying5 w0) (trodAll_cons_mk (shut_int Tryd.underlying3 w1) (trodAll_cons_mk (shut_int Tryd.underlying5 w2) trodAll_mk0))), rfl, bel.frame _, fun h => by cases h⟩

theorem over : Rows.paschalMonthsRow.holds Tryd.pinned (OpenSpec.ofChange Rows.paschalMonthsSpec) :=
  OpenClaim.holds_of_wide 7 Tryd.f7 rfl rfl rfl rfl rfl rfl rfl ⟨rfl, rfl, rfl, rfl, rfl⟩ rfl rfl rfl rfl rfl (by kernel_rfl) Tryd.func7 (by kernel_rfl)
    (of_decide_eq_true (by kernel_rfl)) (by unfold Func.isWrapper; first | (rw [if_pos (by decide +kernel)]; kernel_rfl) | (rw [if_neg (by decide +kernel)]; exact ⟨rfl, rfl⟩))
    (fun os started H enc _ => lifted os started H enc)

/-- The statement: the tied card. -/
theorem proved : Rows.PaschalMonthsCardSaid :=
  Claim7.holds_tied_plain_at .later [] [.data, .data, .data, .data, .data] true (true, "1237d3f1e50856818fa86864392605a27e6a3b74ca523ef2395e1d47a8fcbeee") false
    over (fun _ h => by cases h) (by kernel_rfl) (fun _ h => by cases h) paschalMonths_row_tie rfl ⟨rfl, rfl⟩ (by kernel_rfl) rfl
    (fun f fn hf hfn => by
      obtain rfl : f = 7 := Option.some.inj ((show Tryd.prog.funcNamed "computus/computuslaw09.PaschalMonths" = some 7 by kernel_rfl).symm.trans hf) |>.symm
      obtain rfl : fn = Tryd.f7 := (Option.some.inj (Tryd.func7.symm.trans hfn)).symm
      exact ⟨by kernel_rfl, fun j t ht => by
        rw [Tryd.params7] at ht
        have hm : t ∈ [5, 3, 5] := by simpa using Array.mem_of_getElem? ht
        have hall : ([5, 3, 5].all fun u => !Tryd.prog.wantsStandIn u) = true := by kernel_rfl
        exact (show Tryd.prog.wantsStandIn t = false by simpa using List.all_eq_true.1 hall t hm)⟩)
    (by kernel_rfl)
#print axioms proved
end Go.Proofs.YtodmpmcnlbkhhaaDoor.paschalMonths
