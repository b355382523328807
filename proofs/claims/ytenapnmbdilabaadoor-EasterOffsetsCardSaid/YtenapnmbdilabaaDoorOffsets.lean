/- Proved: for every byte calendar and every date of three 64-bit integers, the law EasterOffsets of package computuslaw10 (the offset of Easter is 0, that of the next day is one more, and a date is a Sunday exactly if its offset is a multiple of 7) returns true, and what was in memory is as it was. Condition: the tables of packages julian, gregorian and label (the lengths of the months, the groups of years, the beginnings of the lunations) read as the program's text lays them (the card ties them). -/
import Derived.Test.YtenapnmbdilabaaDoorKs
import Derived.Test.YtenapnmbdilabaaDoorVy
import Derived.WalkKit
import Derived.ProofKit
import Derived.OpenShut
import Derived.ShutString
import Derived.Lib.SmallJoins
import Derived.Deep.RegionHeld3
import Derived.LaidMore
import Derived.Stop.Joined
import Derived.SevenTiedAt
import Derived.Test.YtenapnmbdilabaaDoorCards
import Derived.Test.YtenapnmbdilabaaDoorTie
namespace Go.Proofs.YtenapnmbdilabaaDoor.easterOffsets
open Go.ChangeShapes Go.WideShapes Go.ChangeAt Go.RowKit Go.Joins
open Go.ChangeMaps (open_string shut_string)
set_option linter.unusedVariables false      -- a walk need not use every fact

theorem walk_a (u y m d k : Int)
    (hu : 0 ≤ u) (hu2 : u ≤ 255)
    (HA : ∀ w, PT w → Calls Tryd.prog 6 #[.int .i64 (1 + u % 2), dtv y m d] w fun e w' => e = .returned (.int .i64 k) ∧ Below w.heap.size w w')
    (hk : (k != 0) = true)
    (W : World) (ht : PT W) :
    Calls Tryd.prog 3 #[.int .u8 u, dtv y m d] W fun e w' => e = .returned (.bool true) ∧ Below W.heap.size W w' := by
  have S0 := Lib.hid (PSt.start ht)
  clear ht
  go_enter Tryd.func3, Tryd.ntmps3
  go_wp2_with fail
  refine (c10awake_any _ (S0.out.al _).t).mono ?_
  rintro e w1 ⟨rfl, hb1⟩
  have S1 := Lib.hid ((S0.out.al _).on hb1)
  have RD1 := Lib.hid (row_on (heap_alloc_new _ _) hb1)
  obtain ⟨cD0, cD1, cD2, gD0, gD1, gD2, zD⟩ := row3 RD1.out
  clear hb1
  go_wp2_with fail
  refine (HA _ S1.out.t).mono ?_
  rintro e w2 ⟨rfl, hb2⟩
  have S2 := Lib.hid (S1.out.on hb2)
  have RD2 := Lib.hid (row_on RD1.out hb2)
  clear RD1
  clear cD0 cD1 cD2 gD0 gD1 gD2 zD
  obtain ⟨cD0, cD1, cD2, gD0, gD1, gD2, zD⟩ := row3 RD2.out
  clear hb2
  go_wp2_with fail
  refine (c10awake_any _ S2.out.t).mono ?_
  rintro e w3 ⟨rfl, hb3⟩
  have S3 := Lib.hid (S2.out.on hb3)
  have RD3 := Lib.hid (row_on RD2.out hb3)
  clear RD2
  clear cD0 cD1 cD2 gD0 gD1 gD2 zD
  obtain ⟨cD0, cD1, cD2, gD0, gD1, gD2, zD⟩ := row3 RD3.out
  clear hb3
  go_wp2_with fail
  go_ret
  exact ⟨rfl, S3.out.b⟩
set_option maxRecDepth 100000 in
set_option maxHeartbeats 1000000 in
theorem walk_e (u y m d n a b q a2 b2 r y2 k : Int) (z : Bool)
    (hu : 0 ≤ u) (hu2 : u ≤ 255)
    (HA : ∀ w, PT w → Calls Tryd.prog 6 #[.int .i64 (1 + u % 2), dtv y m d] w fun e w' => e = .returned (.int .i64 0) ∧ Below w.heap.size w w')
    (H1 : ∀ w, PT w → Calls Tryd.prog 7 #[.int .i64 (1 + u % 2), dtv y m d] w fun e w' => e = .returned (numv n 0) ∧ Below w.heap.size w w')
    (H2 : ∀ w, PT w → Calls Tryd.prog 8 #[.int .i64 (1 + u % 2), .int .i64 y] w fun e w' => e = .returned (datv y a b 0) ∧ Below w.heap.size w w')
    (H3 : ∀ w, PT w → Calls Tryd.prog 7 #[.int .i64 (1 + u % 2), dtv y a b] w fun e w' => e = .returned (numv 0 0) ∧ Below w.heap.size w w')
    (H4 : ∀ w, PT w → Calls Tryd.prog 9 #[.int .i64 (1 + u % 2), dtv y m d] w fun e w' => e = .returned (numv q 0) ∧ Below w.heap.size w w')
    (H5 : ∀ w, PT w → Calls Tryd.prog 10 #[.int .i64 (1 + u % 2), .int .i64 (q + 1)] w fun e w' => e = .returned (datv y2 a2 b2 k) ∧ Below w.heap.size w w')
    (HO : ∀ w, Calls Tryd.prog 11 #[.int .i64 q] w fun e w' => e = .returned (.int .i64 r) ∧ w = w')
    (n1 : -400000000000 ≤ n) (n2 : n ≤ 400000000000) (q1 : -1 ≤ q) (q2 : q ≤ 365250000100) (e1 : (n.tmod 7 == 0) = z) (e2 : (r == 0) = z)
    (hk : (k != 0) = true)
    (W : World) (ht : PT W) :
    Calls Tryd.prog 3 #[.int .u8 u, dtv y m d] W fun e w' => e = .returned (.bool true) ∧ Below W.heap.size W w' := by
  have S0 := Lib.hid (PSt.start ht)
  clear ht
  go_enter Tryd.func3, Tryd.ntmps3
  go_wp2_with fail
  refine (c10awake_any _ (S0.out.al _).t).mono ?_
  rintro e w1 ⟨rfl, hb1⟩
  have S1 := Lib.hid ((S0.out.al _).on hb1)
  have RD1 := Lib.hid (row_on (heap_alloc_new _ _) hb1)
  obtain ⟨cD0, cD1, cD2, gD0, gD1, gD2, zD⟩ := row3 RD1.out
  clear hb1
  go_wp2_with fail
  refine (HA _ S1.out.t).mono ?_
  rintro e w2 ⟨rfl, hb2⟩
  have S2 := Lib.hid (S1.out.on hb2)
  have RD2 := Lib.hid (row_on RD1.out hb2)
  clear RD1
  clear cD0 cD1 cD2 gD0 gD1 gD2 zD
  obtain ⟨cD0, cD1, cD2, gD0, gD1, gD2, zD⟩ := row3 RD2.out
  clear hb2
  go_wp2_with fail
  refine (H1 _ S2.out.t).mono ?_
  rintro e w3 ⟨rfl, hb3⟩
  have S3 := Lib.hid (S2.out.on hb3)
  have RD3 := Lib.hid (row_on RD2.out hb3)
  clear RD2
  clear cD0 cD1 cD2 gD0 gD1 gD2 zD
  obtain ⟨cD0, cD1, cD2, gD0, gD1, gD2, zD⟩ := row3 RD3.out
  clear hb3
  go_wp2_with fail
  refine (H2 _ S3.out.t).mono ?_
  rintro e w4 ⟨rfl, hb4⟩
  have S4 := Lib.hid (S3.out.on hb4)
  have RD4 := Lib.hid (row_on RD3.out hb4)
  clear RD3
  clear cD0 cD1 cD2 gD0 gD1 gD2 zD
  obtain ⟨cD0, cD1, cD2, gD0, gD1, gD2, zD⟩ := row3 RD4.out
  clear hb4
  have nDX := Nat.ne_of_lt zD
  have nXD := (Nat.ne_of_lt zD).symm
  go_wp2_with fail
  refine (H3 _ (S4.out.al _).t).mono ?_
  rintro e w5 ⟨rfl, hb5⟩
  have S5 := Lib.hid ((S4.out.al _).on hb5)
  have RD5 := Lib.hid (row_on (row_al RD4.out _) hb5)
  have RX5 := Lib.hid (row_on (heap_alloc_new _ _) hb5)
  clear RD4
  clear cD0 cD1 cD2 gD0 gD1 gD2 zD
  obtain ⟨cD0, cD1, cD2, gD0, gD1, gD2, zD⟩ := row3 RD5.out
  obtain ⟨cX0, cX1, cX2, gX0, gX1, gX2, zX⟩ := row3 RX5.out
  clear hb5
  go_wp2_with fail
  refine (H4 _ S5.out.t).mono ?_
  rintro e w6 ⟨rfl, hb6⟩
  have S6 := Lib.hid (S5.out.on hb6)
  have RD6 := Lib.hid (row_on RD5.out hb6)
  have RX6 := Lib.hid (row_on RX5.out hb6)
  clear RD5 RX5
  clear cD0 cD1 cD2 gD0 gD1 gD2 zD
  obtain ⟨cD0, cD1, cD2, gD0, gD1, gD2, zD⟩ := row3 RD6.out
  clear cX0 cX1 cX2 gX0 gX1 gX2 zX
  obtain ⟨cX0, cX1, cX2, gX0, gX1, gX2, zX⟩ := row3 RX6.out
  clear hb6
  go_wp2_with fail
  refine (H5 _ S6.out.t).mono ?_
  rintro e w7 ⟨rfl, hb7⟩
  have S7 := Lib.hid (S6.out.on hb7)
  have RD7 := Lib.hid (row_on RD6.out hb7)
  have RX7 := Lib.hid (row_on RX6.out hb7)
  clear RD6 RX6
  clear cD0 cD1 cD2 gD0 gD1 gD2 zD
  obtain ⟨cD0, cD1, cD2, gD0, gD1, gD2, zD⟩ := row3 RD7.out
  clear cX0 cX1 cX2 gX0 gX1 gX2 zX
  obtain ⟨cX0, cX1, cX2, gX0, gX1, gX2, zX⟩ := row3 RX7.out
  clear hb7
  have nDY := Nat.ne_of_lt zD
  have nYD := (Nat.ne_of_lt zD).symm
  have nXY := Nat.ne_of_lt zX
  have nYX := (Nat.ne_of_lt zX).symm
  go_wp2_with fail
  refine (HO _).mono ?_
  rintro e wq ⟨rfl, rfl⟩
  go_wp2_with fail
  go_ret
  exact ⟨rfl, (S7.out.al _).b⟩
set_option maxRecDepth 100000 in
set_option maxHeartbeats 1000000 in
theorem walk_o (u y m d n a b q a2 b2 r y2 : Int) (z : Bool)
    (hu : 0 ≤ u) (hu2 : u ≤ 255)
    (HA : ∀ w, PT w → Calls Tryd.prog 6 #[.int .i64 (1 + u % 2), dtv y m d] w fun e w' => e = .returned (.int .i64 0) ∧ Below w.heap.size w w')
    (H1 : ∀ w, PT w → Calls Tryd.prog 7 #[.int .i64 (1 + u % 2), dtv y m d] w fun e w' => e = .returned (numv n 0) ∧ Below w.heap.size w w')
    (H2 : ∀ w, PT w → Calls Tryd.prog 8 #[.int .i64 (1 + u % 2), .int .i64 y] w fun e w' => e = .returned (datv y a b 0) ∧ Below w.heap.size w w')
    (H3 : ∀ w, PT w → Calls Tryd.prog 7 #[.int .i64 (1 + u % 2), dtv y a b] w fun e w' => e = .returned (numv 0 0) ∧ Below w.heap.size w w')
    (H4 : ∀ w, PT w → Calls Tryd.prog 9 #[.int .i64 (1 + u % 2), dtv y m d] w fun e w' => e = .returned (numv q 0) ∧ Below w.heap.size w w')
    (H5 : ∀ w, PT w → Calls Tryd.prog 10 #[.int .i64 (1 + u % 2), .int .i64 (q + 1)] w fun e w' => e = .returned (datv y2 a2 b2 0) ∧ Below w.heap.size w w')
    (HO : ∀ w, Calls Tryd.prog 11 #[.int .i64 q] w fun e w' => e = .returned (.int .i64 r) ∧ w = w')
    (n1 : -400000000000 ≤ n) (n2 : n ≤ 400000000000) (q1 : -1 ≤ q) (q2 : q ≤ 365250000100) (e1 : (n.tmod 7 == 0) = z) (e2 : (r == 0) = z)
    (hk : (y2 != y) = true)
    (W : World) (ht : PT W) :
    Calls Tryd.prog 3 #[.int .u8 u, dtv y m d] W fun e w' => e = .returned (.bool true) ∧ Below W.heap.size W w' := by
  have S0 := Lib.hid (PSt.start ht)
  clear ht
  go_enter Tryd.func3, Tryd.ntmps3
  go_wp2_with fail
  refine (c10awake_any _ (S0.out.al _).t).mono ?_
  rintro e w1 ⟨rfl, hb1⟩
  have S1 := Lib.hid ((S0.out.al _).on hb1)
  have RD1 := Lib.hid (row_on (heap_alloc_new _ _) hb1)
  obtain ⟨cD0, cD1, cD2, gD0, gD1, gD2, zD⟩ := row3 RD1.out
  clear hb1
  go_wp2_with fail
  refine (HA _ S1.out.t).mono ?_
  rintro e w2 ⟨rfl, hb2⟩
  have S2 := Lib.hid (S1.out.on hb2)
  have RD2 := Lib.hid (row_on RD1.out hb2)
  clear RD1
  clear cD0 cD1 cD2 gD0 gD1 gD2 zD
  obtain ⟨cD0, cD1, cD2, gD0, gD1, gD2, zD⟩ := row3 RD2.out
  clear hb2
  go_wp2_with fail
  refine (H1 _ S2.out.t).mono ?_
  rintro e w3 ⟨rfl, hb3⟩
  have S3 := Lib.hid (S2.out.on hb3)
  have RD3 := Lib.hid (row_on RD2.out hb3)
  clear RD2
  clear cD0 cD1 cD2 gD0 gD1 gD2 zD
  obtain ⟨cD0, cD1, cD2, gD0, gD1, gD2, zD⟩ := row3 RD3.out
  clear hb3
  go_wp2_with fail
  refine (H2 _ S3.out.t).mono ?_
  rintro e w4 ⟨rfl, hb4⟩
  have S4 := Lib.hid (S3.out.on hb4)
  have RD4 := Lib.hid (row_on RD3.out hb4)
  clear RD3
  clear cD0 cD1 cD2 gD0 gD1 gD2 zD
  obtain ⟨cD0, cD1, cD2, gD0, gD1, gD2, zD⟩ := row3 RD4.out
  clear hb4
  have nDX := Nat.ne_of_lt zD
  have nXD := (Nat.ne_of_lt zD).symm
  go_wp2_with fail
  refine (H3 _ (S4.out.al _).t).mono ?_
  rintro e w5 ⟨rfl, hb5⟩
  have S5 := Lib.hid ((S4.out.al _).on hb5)
  have RD5 := Lib.hid (row_on (row_al RD4.out _) hb5)
  have RX5 := Lib.hid (row_on (heap_alloc_new _ _) hb5)
  clear RD4
  clear cD0 cD1 cD2 gD0 gD1 gD2 zD
  obtain ⟨cD0, cD1, cD2, gD0, gD1, gD2, zD⟩ := row3 RD5.out
  obtain ⟨cX0, cX1, cX2, gX0, gX1, gX2, zX⟩ := row3 RX5.out
  clear hb5
  go_wp2_with fail
  refine (H4 _ S5.out.t).mono ?_
  rintro e w6 ⟨rfl, hb6⟩
  have S6 := Lib.hid (S5.out.on hb6)
  have RD6 := Lib.hid (row_on RD5.out hb6)
  have RX6 := Lib.hid (row_on RX5.out hb6)
  clear RD5 RX5
  clear cD0 cD1 cD2 gD0 gD1 gD2 zD
  obtain ⟨cD0, cD1, cD2, gD0, gD1, gD2, zD⟩ := row3 RD6.out
  clear cX0 cX1 cX2 gX0 gX1 gX2 zX
  obtain ⟨cX0, cX1, cX2, gX0, gX1, gX2, zX⟩ := row3 RX6.out
  clear hb6
  go_wp2_with fail
  refine (H5 _ S6.out.t).mono ?_
  rintro e w7 ⟨rfl, hb7⟩
  have S7 := Lib.hid (S6.out.on hb7)
  have RD7 := Lib.hid (row_on RD6.out hb7)
  have RX7 := Lib.hid (row_on RX6.out hb7)
  clear RD6 RX6
  clear cD0 cD1 cD2 gD0 gD1 gD2 zD
  obtain ⟨cD0, cD1, cD2, gD0, gD1, gD2, zD⟩ := row3 RD7.out
  clear cX0 cX1 cX2 gX0 gX1 gX2 zX
  obtain ⟨cX0, cX1, cX2, gX0, gX1, gX2, zX⟩ := row3 RX7.out
  clear hb7
  have nDY := Nat.ne_of_lt zD
  have nYD := (Nat.ne_of_lt zD).symm
  have nXY := Nat.ne_of_lt zX
  have nYX := (Nat.ne_of_lt zX).symm
  go_wp2_with fail
  refine (HO _).mono ?_
  rintro e wq ⟨rfl, rfl⟩
  go_wp2_with fail
  go_ret
  exact ⟨rfl, (S7.out.al _).b⟩
set_option maxRecDepth 100000 in
set_option maxHeartbeats 1000000 in
theorem walk_s (u y m d n a b q a2 b2 r : Int) (z : Bool)
    (hu : 0 ≤ u) (hu2 : u ≤ 255)
    (HA : ∀ w, PT w → Calls Tryd.prog 6 #[.int .i64 (1 + u % 2), dtv y m d] w fun e w' => e = .returned (.int .i64 0) ∧ Below w.heap.size w w')
    (H1 : ∀ w, PT w → Calls Tryd.prog 7 #[.int .i64 (1 + u % 2), dtv y m d] w fun e w' => e = .returned (numv n 0) ∧ Below w.heap.size w w')
    (H2 : ∀ w, PT w → Calls Tryd.prog 8 #[.int .i64 (1 + u % 2), .int .i64 y] w fun e w' => e = .returned (datv y a b 0) ∧ Below w.heap.size w w')
    (H3 : ∀ w, PT w → Calls Tryd.prog 7 #[.int .i64 (1 + u % 2), dtv y a b] w fun e w' => e = .returned (numv 0 0) ∧ Below w.heap.size w w')
    (H4 : ∀ w, PT w → Calls Tryd.prog 9 #[.int .i64 (1 + u % 2), dtv y m d] w fun e w' => e = .returned (numv q 0) ∧ Below w.heap.size w w')
    (H5 : ∀ w, PT w → Calls Tryd.prog 10 #[.int .i64 (1 + u % 2), .int .i64 (q + 1)] w fun e w' => e = .returned (datv y a2 b2 0) ∧ Below w.heap.size w w')
    (HO : ∀ w, Calls Tryd.prog 11 #[.int .i64 q] w fun e w' => e = .returned (.int .i64 r) ∧ w = w')
    (n1 : -400000000000 ≤ n) (n2 : n ≤ 400000000000) (q1 : -1 ≤ q) (q2 : q ≤ 365250000100) (e1 : (n.tmod 7 == 0) = z) (e2 : (r == 0) = z)
    (H6 : ∀ w, PT w → Calls Tryd.prog 7 #[.int .i64 (1 + u % 2), dtv y a2 b2] w fun e w' => e = .returned (numv (n + 1) 0) ∧ Below w.heap.size w w')
    (W : World) (ht : PT W) :
    Calls Tryd.prog 3 #[.int .u8 u, dtv y m d] W fun e w' => e = .returned (.bool true) ∧ Below W.heap.size W w' := by
  have S0 := Lib.hid (PSt.start ht)
  clear ht
  go_enter Tryd.func3, Tryd.ntmps3
  go_wp2_with fail
  refine (c10awake_any _ (S0.out.al _).t).mono ?_
  rintro e w1 ⟨rfl, hb1⟩
  have S1 := Lib.hid ((S0.out.al _).on hb1)
  have RD1 := Lib.hid (row_on (heap_alloc_new _ _) hb1)
  obtain ⟨cD0, cD1, cD2, gD0, gD1, gD2, zD⟩ := row3 RD1.out
  clear hb1
  go_wp2_with fail
  refine (HA _ S1.out.t).mono ?_
  rintro e w2 ⟨rfl, hb2⟩
  have S2 := Lib.hid (S1.out.on hb2)
  have RD2 := Lib.hid (row_on RD1.out hb2)
  clear RD1
  clear cD0 cD1 cD2 gD0 gD1 gD2 zD
  obtain ⟨cD0, cD1, cD2, gD0, gD1, gD2, zD⟩ := row3 RD2.out
  clear hb2
  go_wp2_with fail
  refine (H1 _ S2.out.t).mono ?_
  rintro e w3 ⟨rfl, hb3⟩
  have S3 := Lib.hid (S2.out.on hb3)
  have RD3 := Lib.hid (row_on RD2.out hb3)
  clear RD2
  clear cD0 cD1 cD2 gD0 gD1 gD2 zD
  obtain ⟨cD0, cD1, cD2, gD0, gD1, gD2, zD⟩ := row3 RD3.out
  clear hb3
  go_wp2_with fail
  refine (H2 _ S3.out.t).mono ?_
  rintro e w4 ⟨rfl, hb4⟩
  have S4 := Lib.hid (S3.out.on hb4)
  have RD4 := Lib.hid (row_on RD3.out hb4)
  clear RD3
  clear cD0 cD1 cD2 gD0 gD1 gD2 zD
  obtain ⟨cD0, cD1, cD2, gD0, gD1, gD2, zD⟩ := row3 RD4.out
  clear hb4
  have nDX := Nat.ne_of_lt zD
  have nXD := (Nat.ne_of_lt zD).symm
  go_wp2_with fail
  refine (H3 _ (S4.out.al _).t).mono ?_
  rintro e w5 ⟨rfl, hb5⟩
  have S5 := Lib.hid ((S4.out.al _).on hb5)
  have RD5 := Lib.hid (row_on (row_al RD4.out _) hb5)
  have RX5 := Lib.hid (row_on (heap_alloc_new _ _) hb5)
  clear RD4
  clear cD0 cD1 cD2 gD0 gD1 gD2 zD
  obtain ⟨cD0, cD1, cD2, gD0, gD1, gD2, zD⟩ := row3 RD5.out
  obtain ⟨cX0, cX1, cX2, gX0, gX1, gX2, zX⟩ := row3 RX5.out
  clear hb5
  go_wp2_with fail
  refine (H4 _ S5.out.t).mono ?_
  rintro e w6 ⟨rfl, hb6⟩
  have S6 := Lib.hid (S5.out.on hb6)
  have RD6 := Lib.hid (row_on RD5.out hb6)
  have RX6 := Lib.hid (row_on RX5.out hb6)
  clear RD5 RX5
  clear cD0 cD1 cD2 gD0 gD1 gD2 zD
  obtain ⟨cD0, cD1, cD2, gD0, gD1, gD2, zD⟩ := row3 RD6.out
  clear cX0 cX1 cX2 gX0 gX1 gX2 zX
  obtain ⟨cX0, cX1, cX2, gX0, gX1, gX2, zX⟩ := row3 RX6.out
  clear hb6
  go_wp2_with fail
  refine (H5 _ S6.out.t).mono ?_
  rintro e w7 ⟨rfl, hb7⟩
  have S7 := Lib.hid (S6.out.on hb7)
  have RD7 := Lib.hid (row_on RD6.out hb7)
  have RX7 := Lib.hid (row_on RX6.out hb7)
  clear RD6 RX6
  clear cD0 cD1 cD2 gD0 gD1 gD2 zD
  obtain ⟨cD0, cD1, cD2, gD0, gD1, gD2, zD⟩ := row3 RD7.out
  clear cX0 cX1 cX2 gX0 gX1 gX2 zX
  obtain ⟨cX0, cX1, cX2, gX0, gX1, gX2, zX⟩ := row3 RX7.out
  clear hb7
  have nDY := Nat.ne_of_lt zD
  have nYD := (Nat.ne_of_lt zD).symm
  have nXY := Nat.ne_of_lt zX
  have nYX := (Nat.ne_of_lt zX).symm
  go_wp2_with fail
  refine (HO _).mono ?_
  rintro e wq ⟨rfl, rfl⟩
  go_wp2_with fail
  refine (H6 _ (S7.out.al _).t).mono ?_
  rintro e w8 ⟨rfl, hb8⟩
  have S8 := Lib.hid ((S7.out.al _).on hb8)
  have RD8 := Lib.hid (row_on (row_al RD7.out _) hb8)
  have RX8 := Lib.hid (row_on (row_al RX7.out _) hb8)
  have RY8 := Lib.hid (row_on (heap_alloc_new _ _) hb8)
  clear RD7 RX7
  clear cD0 cD1 cD2 gD0 gD1 gD2 zD
  obtain ⟨cD0, cD1, cD2, gD0, gD1, gD2, zD⟩ := row3 RD8.out
  clear cX0 cX1 cX2 gX0 gX1 gX2 zX
  obtain ⟨cX0, cX1, cX2, gX0, gX1, gX2, zX⟩ := row3 RX8.out
  obtain ⟨cY0, cY1, cY2, gY0, gY1, gY2, zY⟩ := row3 RY8.out
  clear hb8
  go_wp2_with fail
  go_ret
  exact ⟨rfl, S8.out.b⟩
theorem walk (u y m d : Int) (w0 : (Lit.int .u8 u).wf = true) (w1 : (Lit.int .i64 y).wf = true) (w2 : (Lit.int .i64 m).wf = true) (w3 : (Lit.int .i64 d).wf = true) (W : World) (ht0 : CTab W ∧ LTab W) :
    Calls Tryd.prog 3 #[.int .u8 u, dtv y m d] W fun e w' => e = .returned (.bool true) ∧ Below W.heap.size W w' := by
  have ht : PT W := ⟨ht0.1, ht0.2⟩
  obtain ⟨hu, hu2⟩ := bounds_u8 w0
  obtain ⟨hw, hc⟩ := wfU u
  have HA := fun w ht => r9f_any (1 + u % 2) y m d w ht
  by_cases h : nmE (1 + u % 2) y m d = 0
  · rw [h] at HA
    obtain ⟨h1, h2⟩ := nmE_zero h
    have H1 := fun w ht => poff_any (1 + u % 2) y m d w hw ht
    rw [(eo_ok h1 h2).2, h] at H1
    have H2 := fun w ht => pdate_any (1 + u % 2) y w hw ht
    rw [(ed_ok h1).2.1, (ed_ok h1).2.2.1, (ed_ok h1).2.2.2, h1] at H2
    have H3 := fun w ht => poff_any (1 + u % 2) y (marM (eaO (1 + u % 2) y)) (marD (eaO (1 + u % 2) y)) w hw ht
    rw [(eo_ok h1 (ea_to h1).1).1, (eo_ok h1 (ea_to h1).1).2, (ea_to h1).2, Int.sub_self] at H3
    have H4 := fun w (ht : PT w) => r5day_any y m d w (1 + u % 2) ht.c
    rw [h2] at H4
    have q0 := tN_bd (1 + u % 2) y m d
    have a0 := eaN_bd h1
    have a7 := eaN_mod (1 + u % 2) y
    have HO := fun w => rof_any (tN (1 + u % 2) y m d) w (inR_iff.2 (by omega))
    have H5 := fun w (ht : PT w) => r5from_any (tN (1 + u % 2) y m d + 1) w (1 + u % 2) ht.c
    have e1 : ((tN (1 + u % 2) y m d - eaN (1 + u % 2) y).tmod 7 == 0) = (tN (1 + u % 2) y m d % 7 == 0) := rem_week a7
    by_cases h3 : fE (1 + u % 2) (tN (1 + u % 2) y m d + 1) = 0
    · rw [h3] at H5
      by_cases h4 : fY (1 + u % 2) (tN (1 + u % 2) y m d + 1) = y
      · obtain ⟨v, nv⟩ := fE_in h3
        obtain ⟨t1, t2⟩ := tE_at hc v
        rw [h4] at H5 t1 t2 nv
        rw [nv] at t2
        have H6 := fun w ht => poff_any (1 + u % 2) y (fM (1 + u % 2) (tN (1 + u % 2) y m d + 1)) (fD (1 + u % 2) (tN (1 + u % 2) y m d + 1)) w hw ht
        rw [(eo_ok h1 t1).1, (eo_ok h1 t1).2, t2, show tN (1 + u % 2) y m d + 1 - eaN (1 + u % 2) y = tN (1 + u % 2) y m d - eaN (1 + u % 2) y + 1 by omega] at H6
        exact walk_s u y m d _ _ _ _ _ _ _ _ hu hu2 HA H1 H2 H3 H4 H5 HO (by omega) (by omega) (by omega) (by omega) e1 rfl H6 W ht
      · exact walk_o u y m d _ _ _ _ _ _ _ _ _ hu hu2 HA H1 H2 H3 H4 H5 HO (by omega) (by omega) (by omega) (by omega) e1 rfl (bne_iff_ne.2 h4) W ht
    · exact walk_e u y m d _ _ _ _ _ _ _ _ _ _ hu hu2 HA H1 H2 H3 H4 H5 HO (by omega) (by omega) (by omega) (by omega) e1 rfl (tE_ne h3) W ht
  · exact walk_a u y m d _ hu hu2 HA (tE_ne h) W ht

/-! ### the row's step -/
set_option maxRecDepth 100000 in
theorem lifted (os : Os) (started : os.Started) (H : Type) (enc : TypeId × Value → H) :
    ReturnsInHanded {} Tryd.checked os 3 .any (fun w args => (Rows.easterOffsetsSpec.pre enc Tryd.prog Tryd.f3 [] false w args ∧ laidMetH Tryd.prog laidL w) ∧ sizedMet enc Tryd.prog Tryd.f3 (OpenSpec.ofChange Rows.easterOffsetsSpec) false w args)
      (Rows.easterOffsetsSpec.post enc Tryd.prog Tryd.f3 false true false false) := by
  refine returnsInHanded_of_change_and (C := Tryd.checked) (X := fun w _ => laidMetH Tryd.prog laidL w) (fun _ _ _ hh h => h.of_heap hh) own started (by kernel_rfl) Tryd.func3
    (ChangeSpec.witness_shaped (enc := enc) (C := Tryd.checked) (os := os) (X := fun w _ => laidMetH Tryd.prog laidL w) false (World.doorLaid Tryd.prog 400 os) #[.int .u8 0, .agg #[.int .i64 0, .int .i64 0, .int .i64 0]] 8 rfl (World.shaped_of_RefB (by kernel_rfl) (by kernel_rfl)) (by kernel_rfl) (by kernel_rfl) (by kernel_rfl) (door_met os _)) ?_
  intro W base args ds gs before hval0 hW _ _ hL _
  have hval : ∀ (j : Nat) t v, Tryd.f3.params[j]? = some t → args[j]? = some v → Value.okWide Tryd.prog W .any base t v := hval0
  have hW' := hW
  obtain ⟨p, q, hA0, hV, rfl, hfz, hnd⟩ := hW
  have hA : DataW.TrodAll enc Tryd.prog W 0 (fun _ => true) true Tryd.f3.params.toList args.toList ds p := hA0
  rw [Tryd.params3] at hA hval
  obtain ⟨v0, vs0, d0, ds0, p0, q0, hargs, rfl, rfl, h0, r0⟩ := trodAll_cons hA
  obtain ⟨v1, vs1, d1, ds1, p1, q1, rfl, rfl, rfl, h1, r1⟩ := trodAll_cons r0
  obtain ⟨rfl, rfl, rfl⟩ := trodAll_nil r1
  obtain rfl : args = #[v0, v1] := by cases args; simp_all
  obtain ⟨rfl, rfl⟩ := trodVars_none hV
  obtain ⟨a0, rfl, rfl, rfl, w0⟩ := open_int Tryd.underlying5 (hval 0 5 v0 rfl rfl) h0
  obtain ⟨c1_0, c1_1, c1_2, y1_0, y1_1, y1_2, m1, rfl, rfl, rfl, hy1_0, hy1_1, hy1_2⟩ := open_agg3 Tryd.underlying23 (by kernel_rfl) (show Tryd.prog.cellsOf 23 = 3 by kernel_rfl) (hval 1 23 v1 rfl rfl) h1
  obtain ⟨f1_0, e1_0, rfl, w1_0⟩ := DataW.trod_int Tryd.underlying3 hy1_0
  simp at e1_0; subst e1_0
  obtain ⟨f1_1, e1_1, rfl, w1_1⟩ := DataW.trod_int Tryd.underlying3 hy1_1
  simp at e1_1; subst e1_1
  obtain ⟨f1_2, e1_2, rfl, w1_2⟩ := DataW.trod_int Tryd.underlying3 hy1_2
  simp at e1_2; subst e1_2
  clear hA0 hval0
  simp only [List.append_nil] at hW'
  have sr1 : ∀ (W' : World) (sp : Nat → Bool), DataW.Trod enc Tryd.prog W' 0 sp true 23 (.agg #[.int .i64 f1_0, .int .i64 f1_1, .int .i64 f1_2]) (.agg [.lit (.int .i64 f1_0), .lit (.int .i64 f1_1), .lit (.int .i64 f1_2)]) [] := fun W' sp =>
    shut_agg3 (y0 := (.lit (.int .i64 f1_0), [])) (y1 := (.lit (.int .i64 f1_1), [])) (y2 := (.lit (.int .i64 f1_2), [])) Tryd.underlying23 (by kernel_rfl) (show Tryd.prog.cellsOf 23 = 3 by kernel_rfl) ⟨1, by simp [DataW.trod, Tryd.underlying3, w1_0]⟩ ⟨1, by simp [DataW.trod, Tryd.underlying3, w1_1]⟩ ⟨1, by simp [DataW.trod, Tryd.underlying3, w1_2]⟩
  refine (walk a0 f1_0 f1_1 f1_2 w0 w1_0 w1_1 w1_2 W (laid_facts hL)).mono fun e W' ⟨he, bel⟩ => ?_
  subst he
  exact ⟨_, rfl, _, _, _, [], _, [], hW', trodAll_mk1 (shut_bool Tryd.underlying4 _), (trodAll_cons_mk (shut_int Tryd.underlying5 w0) (trodAll_cons_mk (sr1 _ _) trodAll_mk0)), rfl, bel.frame _, fun h => by cases h⟩

theorem over : Rows.easterOffsetsRow.holds Tryd.pinned (OpenSpec.ofChange Rows.easterOffsetsSpec) :=
  OpenClaim.holds_of_wide 3 Tryd.f3 rfl rfl rfl rfl rfl rfl rfl ⟨rfl, rfl, rfl, rfl, rfl⟩ rfl rfl rfl rfl rfl (by kernel_rfl) Tryd.func3 (by kernel_rfl)
    (of_decide_eq_true (by kernel_rfl)) (by unfold Func.isWrapper; first | (rw [if_pos (by decide +kernel)]; kernel_rfl) | (rw [if_neg (by decide +kernel)]; exact ⟨rfl, rfl⟩))
    (fun os started H enc _ => lifted os started H enc)

/-- The statement: the tied card. -/
theorem proved : Rows.EasterOffsetsCardSaid :=
  Claim7.holds_tied_plain_at .later [] [.data, .data, .data, .data, .data] true (true, "5ef15971b06ce40a0cbf4f558dac72d4dc40682534382c74a9d8c706549c0f7e") false
    over (fun _ h => by cases h) (by kernel_rfl) (fun _ h => by cases h) easterOffsets_row_tie rfl ⟨rfl, rfl⟩ (by kernel_rfl) rfl
    (fun f fn hf hfn => by
      obtain rfl : f = 3 := Option.some.inj ((show Tryd.prog.funcNamed "computus/computuslaw10.EasterOffsets" = some 3 by kernel_rfl).symm.trans hf) |>.symm
      obtain rfl : fn = Tryd.f3 := (Option.some.inj (Tryd.func3.symm.trans hfn)).symm
      exact ⟨by kernel_rfl, fun j t ht => by
        rw [Tryd.params3] at ht
        have hm : t ∈ [5, 23] := by simpa using Array.mem_of_getElem? ht
        have hall : ([5, 23].all fun u => !Tryd.prog.wantsStandIn u) = true := by kernel_rfl
        exact (show Tryd.prog.wantsStandIn t = false by simpa using List.all_eq_true.1 hall t hm)⟩)
    (by kernel_rfl)
#print axioms proved
end Go.Proofs.YtenapnmbdilabaaDoor.easterOffsets
