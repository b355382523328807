/- Proved: for all 64-bit integers c, to, n, year, day and every date d of three 64-bit integers, the law CivilMatchesReference of package computuslaw05 (each function of package civil answers as its reference does) returns true, and what was in memory is as it was. Condition: the tables of months and groups read as the program's text lays them (the card ties them). -/
import Derived.Test.YtdnglkccdmlplaaDoorCq
import Derived.Test.YtdnglkccdmlplaaDoorVy
import Derived.WalkKit
import Derived.ProofKit
import Derived.OpenShut
import Derived.ShutString
import Derived.Lib.SmallJoins
import Derived.LaidMore
import Derived.Stop.Joined
import Derived.SevenTiedAt
import Derived.Test.YtdnglkccdmlplaaDoorCards
import Derived.Test.YtdnglkccdmlplaaDoorTie
namespace Go.Proofs.YtdnglkccdmlplaaDoor.civilMatchesReference
open Go.ChangeShapes Go.WideShapes Go.ChangeAt Go.RowKit Go.Joins
open Go.ChangeMaps (open_string shut_string)
set_option linter.unusedVariables false      -- a walk need not use every fact

set_option maxHeartbeats 2000000 in
set_option maxRecDepth 10000 in
theorem walk_err (c to y m d n year day a f0 f1 f2 f3 v0 v1 v2 v3 o x0 x1 x2 x3 l le s0 s1 s2 s3 k : Int) 
    (P1 : ∀ w, CTab w → Calls Tryd.prog 9 #[.int .i64 c, dtv y m d] w fun e w' => e = .returned (numv a k) ∧ Below w.heap.size w w')
    (R1 : ∀ w, CTab w → Calls Tryd.prog 10 #[.int .i64 c, dtv y m d] w fun e w' => e = .returned (numv a k) ∧ Below w.heap.size w w')
    (P2 : ∀ w, CTab w → Calls Tryd.prog 11 #[.int .i64 c, .int .i64 n] w fun e w' => e = .returned (datv f0 f1 f2 f3) ∧ Below w.heap.size w w')
    (R2 : ∀ w, CTab w → Calls Tryd.prog 12 #[.int .i64 c, .int .i64 n] w fun e w' => e = .returned (datv f0 f1 f2 f3) ∧ Below w.heap.size w w')
    (P3 : ∀ w, CTab w → Calls Tryd.prog 13 #[dtv y m d, .int .i64 c, .int .i64 to] w fun e w' => e = .returned (datv v0 v1 v2 v3) ∧ Below w.heap.size w w')
    (R3 : ∀ w, CTab w → Calls Tryd.prog 14 #[dtv y m d, .int .i64 c, .int .i64 to] w fun e w' => e = .returned (datv v0 v1 v2 v3) ∧ Below w.heap.size w w')
    (P4 : ∀ w, CTab w → Calls Tryd.prog 15 #[.int .i64 c, dtv y m d] w fun e w' => e = .returned (numv o k) ∧ Below w.heap.size w w')
    (R4 : ∀ w, CTab w → Calls Tryd.prog 16 #[.int .i64 c, dtv y m d] w fun e w' => e = .returned (numv o k) ∧ Below w.heap.size w w')
    (P5 : ∀ w, CTab w → Calls Tryd.prog 17 #[.int .i64 c, .int .i64 year, .int .i64 day] w fun e w' => e = .returned (datv x0 x1 x2 x3) ∧ Below w.heap.size w w')
    (R5 : ∀ w, CTab w → Calls Tryd.prog 18 #[.int .i64 c, .int .i64 year, .int .i64 day] w fun e w' => e = .returned (datv x0 x1 x2 x3) ∧ Below w.heap.size w w')
    (P6 : ∀ w, CTab w → Calls Tryd.prog 19 #[.int .i64 c, .int .i64 year] w fun e w' => e = .returned (numv l le) ∧ Below w.heap.size w w')
    (R6 : ∀ w, CTab w → Calls Tryd.prog 20 #[.int .i64 c, .int .i64 year] w fun e w' => e = .returned (numv l le) ∧ Below w.heap.size w w')
    (P7 : ∀ w, CTab w → Calls Tryd.prog 21 #[.int .i64 c, dtv y m d, .int .i64 day] w fun e w' => e = .returned (datv s0 s1 s2 s3) ∧ Below w.heap.size w w')
    (R7 : ∀ w, CTab w → Calls Tryd.prog 22 #[.int .i64 c, dtv y m d, .int .i64 day] w fun e w' => e = .returned (datv s0 s1 s2 s3) ∧ Below w.heap.size w w')
    (P8 : ∀ w, CTab w → Calls Tryd.prog 23 #[.int .i64 c, dtv y m d] w fun e w' => e = .returned (numv 0 k) ∧ Below w.heap.size w w')
    (hk : (k != 0) = true)
    (W : World) (ht : CTab W) :
    Calls Tryd.prog 3 #[.int .i64 c, .int .i64 to, dtv y m d, .int .i64 n, .int .i64 year, .int .i64 day] W fun e w' => e = .returned (.bool true) ∧ Below W.heap.size W w' := by
  have S0 := Lib.hid (St.start ht)
  clear ht
  go_enter Tryd.func3, Tryd.ntmps3
  go_wp2_with fail
  refine (c5awake_any _ (S0.out.al _).t).mono ?_
  rintro e w1 ⟨rfl, hb1⟩
  have S1 := Lib.hid ((S0.out.al _).on hb1)
  have RD1 := Lib.hid (row_on (heap_alloc_new _ _) hb1)
  obtain ⟨cD0, cD1, cD2, gD0, gD1, gD2, zD⟩ := row3 RD1.out
  clear hb1
  go_wp2_with fail
  refine (P1 _ S1.out.t).mono ?_
  rintro e w2 ⟨rfl, hb2⟩
  have S2 := Lib.hid (S1.out.on hb2)
  have RD2 := Lib.hid (row_on RD1.out hb2)
  clear RD1
  clear cD0 cD1 cD2 gD0 gD1 gD2 zD
  obtain ⟨cD0, cD1, cD2, gD0, gD1, gD2, zD⟩ := row3 RD2.out
  clear hb2
  go_wp2_with fail
  refine (R1 _ S2.out.t).mono ?_
  rintro e w3 ⟨rfl, hb3⟩
  have S3 := Lib.hid (S2.out.on hb3)
  have RD3 := Lib.hid (row_on RD2.out hb3)
  clear RD2
  clear cD0 cD1 cD2 gD0 gD1 gD2 zD
  obtain ⟨cD0, cD1, cD2, gD0, gD1, gD2, zD⟩ := row3 RD3.out
  clear hb3
  go_wp2_with fail
  refine (P2 _ S3.out.t).mono ?_
  rintro e w4 ⟨rfl, hb4⟩
  have S4 := Lib.hid (S3.out.on hb4)
  have RD4 := Lib.hid (row_on RD3.out hb4)
  clear RD3
  clear cD0 cD1 cD2 gD0 gD1 gD2 zD
  obtain ⟨cD0, cD1, cD2, gD0, gD1, gD2, zD⟩ := row3 RD4.out
  clear hb4
  have nDX := Nat.ne_of_lt zD
  have nXD := (Nat.ne_of_lt zD).symm
  go_wp2_with fail
  refine (R2 _ (S4.out.al _).t).mono ?_
  rintro e w5 ⟨rfl, hb5⟩
  have S5 := Lib.hid ((S4.out.al _).on hb5)
  have RD5 := Lib.hid (row_on (row_al RD4.out _) hb5)
  have RX5 := Lib.hid (row_on (heap_alloc_new _ _) hb5)
  clear RD4
  clear cD0 cD1 cD2 gD0 gD1 gD2 zD
  obtain ⟨cD0, cD1, cD2, gD0, gD1, gD2, zD⟩ := row3 RD5.out
  obtain ⟨cX0, cX1, cX2, gX0, gX1, gX2, zX⟩ := row3 RX5.out
  clear hb5
  have nDY := Nat.ne_of_lt zD
  have nYD := (Nat.ne_of_lt zD).symm
  have nXY := Nat.ne_of_lt zX
  have nYX := (Nat.ne_of_lt zX).symm
  go_wp2_with fail
  refine (P3 _ (S5.out.al _).t).mono ?_
  rintro e w6 ⟨rfl, hb6⟩
  have S6 := Lib.hid ((S5.out.al _).on hb6)
  have RD6 := Lib.hid (row_on (row_al RD5.out _) hb6)
  have RX6 := Lib.hid (row_on (row_al RX5.out _) hb6)
  have RY6 := Lib.hid (row_on (heap_alloc_new _ _) hb6)
  clear RD5 RX5
  clear cD0 cD1 cD2 gD0 gD1 gD2 zD
  obtain ⟨cD0, cD1, cD2, gD0, gD1, gD2, zD⟩ := row3 RD6.out
  clear cX0 cX1 cX2 gX0 gX1 gX2 zX
  obtain ⟨cX0, cX1, cX2, gX0, gX1, gX2, zX⟩ := row3 RX6.out
  obtain ⟨cY0, cY1, cY2, gY0, gY1, gY2, zY⟩ := row3 RY6.out
  clear hb6
  go_wp2_with fail
  refine (R3 _ (S6.out.set S0.out.t S4.out.b.size _ _ _).t).mono ?_
  rintro e w7 ⟨rfl, hb7⟩
  have S7 := Lib.hid ((S6.out.set S0.out.t S4.out.b.size _ _ _).on hb7)
  have RD7 := Lib.hid (row_on (row_oth RD6.out nDX _ _ _) hb7)
  have RX7 := Lib.hid (row_on (row_set RX6.out _ _ _) hb7)
  have RY7 := Lib.hid (row_on (row_oth RY6.out nYX _ _ _) hb7)
  clear RD6 RX6 RY6
  clear cD0 cD1 cD2 gD0 gD1 gD2 zD
  obtain ⟨cD0, cD1, cD2, gD0, gD1, gD2, zD⟩ := row3 RD7.out
  clear cX0 cX1 cX2 gX0 gX1 gX2 zX
  obtain ⟨cX0, cX1, cX2, gX0, gX1, gX2, zX⟩ := row3 RX7.out
  clear cY0 cY1 cY2 gY0 gY1 gY2 zY
  obtain ⟨cY0, cY1, cY2, gY0, gY1, gY2, zY⟩ := row3 RY7.out
  clear hb7
  go_wp2_with fail
  refine (P4 _ (S7.out.set S0.out.t S5.out.b.size _ _ _).t).mono ?_
  rintro e w8 ⟨rfl, hb8⟩
  have S8 := Lib.hid ((S7.out.set S0.out.t S5.out.b.size _ _ _).on hb8)
  have RD8 := Lib.hid (row_on (row_oth RD7.out nDY _ _ _) hb8)
  have RX8 := Lib.hid (row_on (row_oth RX7.out nXY _ _ _) hb8)
  have RY8 := Lib.hid (row_on (row_set RY7.out _ _ _) hb8)
  clear RD7 RX7 RY7
  clear cD0 cD1 cD2 gD0 gD1 gD2 zD
  obtain ⟨cD0, cD1, cD2, gD0, gD1, gD2, zD⟩ := row3 RD8.out
  clear cX0 cX1 cX2 gX0 gX1 gX2 zX
  obtain ⟨cX0, cX1, cX2, gX0, gX1, gX2, zX⟩ := row3 RX8.out
  clear cY0 cY1 cY2 gY0 gY1 gY2 zY
  obtain ⟨cY0, cY1, cY2, gY0, gY1, gY2, zY⟩ := row3 RY8.out
  clear hb8
  go_wp2_with fail
  refine (R4 _ S8.out.t).mono ?_
  rintro e w9 ⟨rfl, hb9⟩
  have S9 := Lib.hid (S8.out.on hb9)
  have RD9 := Lib.hid (row_on RD8.out hb9)
  have RX9 := Lib.hid (row_on RX8.out hb9)
  have RY9 := Lib.hid (row_on RY8.out hb9)
  clear RD8 RX8 RY8
  clear cD0 cD1 cD2 gD0 gD1 gD2 zD
  obtain ⟨cD0, cD1, cD2, gD0, gD1, gD2, zD⟩ := row3 RD9.out
  clear cX0 cX1 cX2 gX0 gX1 gX2 zX
  obtain ⟨cX0, cX1, cX2, gX0, gX1, gX2, zX⟩ := row3 RX9.out
  clear cY0 cY1 cY2 gY0 gY1 gY2 zY
  obtain ⟨cY0, cY1, cY2, gY0, gY1, gY2, zY⟩ := row3 RY9.out
  clear hb9
  go_wp2_with fail
  refine (P5 _ S9.out.t).mono ?_
  rintro e w10 ⟨rfl, hb10⟩
  have S10 := Lib.hid (S9.out.on hb10)
  have RD10 := Lib.hid (row_on RD9.out hb10)
  have RX10 := Lib.hid (row_on RX9.out hb10)
  have RY10 := Lib.hid (row_on RY9.out hb10)
  clear RD9 RX9 RY9
  clear cD0 cD1 cD2 gD0 gD1 gD2 zD
  obtain ⟨cD0, cD1, cD2, gD0, gD1, gD2, zD⟩ := row3 RD10.out
  clear cX0 cX1 cX2 gX0 gX1 gX2 zX
  obtain ⟨cX0, cX1, cX2, gX0, gX1, gX2, zX⟩ := row3 RX10.out
  clear cY0 cY1 cY2 gY0 gY1 gY2 zY
  obtain ⟨cY0, cY1, cY2, gY0, gY1, gY2, zY⟩ := row3 RY10.out
  clear hb10
  go_wp2_with fail
  refine (R5 _ (S10.out.set S0.out.t S4.out.b.size _ _ _).t).mono ?_
  rintro e w11 ⟨rfl, hb11⟩
  have S11 := Lib.hid ((S10.out.set S0.out.t S4.out.b.size _ _ _).on hb11)
  have RD11 := Lib.hid (row_on (row_oth RD10.out nDX _ _ _) hb11)
  have RX11 := Lib.hid (row_on (row_set RX10.out _ _ _) hb11)
  have RY11 := Lib.hid (row_on (row_oth RY10.out nYX _ _ _) hb11)
  clear RD10 RX10 RY10
  clear cD0 cD1 cD2 gD0 gD1 gD2 zD
  obtain ⟨cD0, cD1, cD2, gD0, gD1, gD2, zD⟩ := row3 RD11.out
  clear cX0 cX1 cX2 gX0 gX1 gX2 zX
  obtain ⟨cX0, cX1, cX2, gX0, gX1, gX2, zX⟩ := row3 RX11.out
  clear cY0 cY1 cY2 gY0 gY1 gY2 zY
  obtain ⟨cY0, cY1, cY2, gY0, gY1, gY2, zY⟩ := row3 RY11.out
  clear hb11
  go_wp2_with fail
  refine (P6 _ (S11.out.set S0.out.t S5.out.b.size _ _ _).t).mono ?_
  rintro e w12 ⟨rfl, hb12⟩
  have S12 := Lib.hid ((S11.out.set S0.out.t S5.out.b.size _ _ _).on hb12)
  have RD12 := Lib.hid (row_on (row_oth RD11.out nDY _ _ _) hb12)
  have RX12 := Lib.hid (row_on (row_oth RX11.out nXY _ _ _) hb12)
  have RY12 := Lib.hid (row_on (row_set RY11.out _ _ _) hb12)
  clear RD11 RX11 RY11
  clear cD0 cD1 cD2 gD0 gD1 gD2 zD
  obtain ⟨cD0, cD1, cD2, gD0, gD1, gD2, zD⟩ := row3 RD12.out
  clear cX0 cX1 cX2 gX0 gX1 gX2 zX
  obtain ⟨cX0, cX1, cX2, gX0, gX1, gX2, zX⟩ := row3 RX12.out
  clear cY0 cY1 cY2 gY0 gY1 gY2 zY
  obtain ⟨cY0, cY1, cY2, gY0, gY1, gY2, zY⟩ := row3 RY12.out
  clear hb12
  go_wp2_with fail
  refine (R6 _ S12.out.t).mono ?_
  rintro e w13 ⟨rfl, hb13⟩
  have S13 := Lib.hid (S12.out.on hb13)
  have RD13 := Lib.hid (row_on RD12.out hb13)
  have RX13 := Lib.hid (row_on RX12.out hb13)
  have RY13 := Lib.hid (row_on RY12.out hb13)
  clear RD12 RX12 RY12
  clear cD0 cD1 cD2 gD0 gD1 gD2 zD
  obtain ⟨cD0, cD1, cD2, gD0, gD1, gD2, zD⟩ := row3 RD13.out
  clear cX0 cX1 cX2 gX0 gX1 gX2 zX
  obtain ⟨cX0, cX1, cX2, gX0, gX1, gX2, zX⟩ := row3 RX13.out
  clear cY0 cY1 cY2 gY0 gY1 gY2 zY
  obtain ⟨cY0, cY1, cY2, gY0, gY1, gY2, zY⟩ := row3 RY13.out
  clear hb13
  go_wp2_with fail
  refine (P7 _ S13.out.t).mono ?_
  rintro e w14 ⟨rfl, hb14⟩
  have S14 := Lib.hid (S13.out.on hb14)
  have RD14 := Lib.hid (row_on RD13.out hb14)
  have RX14 := Lib.hid (row_on RX13.out hb14)
  have RY14 := Lib.hid (row_on RY13.out hb14)
  clear RD13 RX13 RY13
  clear cD0 cD1 cD2 gD0 gD1 gD2 zD
  obtain ⟨cD0, cD1, cD2, gD0, gD1, gD2, zD⟩ := row3 RD14.out
  clear cX0 cX1 cX2 gX0 gX1 gX2 zX
  obtain ⟨cX0, cX1, cX2, gX0, gX1, gX2, zX⟩ := row3 RX14.out
  clear cY0 cY1 cY2 gY0 gY1 gY2 zY
  obtain ⟨cY0, cY1, cY2, gY0, gY1, gY2, zY⟩ := row3 RY14.out
  clear hb14
  go_wp2_with fail
  refine (R7 _ (S14.out.set S0.out.t S4.out.b.size _ _ _).t).mono ?_
  rintro e w15 ⟨rfl, hb15⟩
  have S15 := Lib.hid ((S14.out.set S0.out.t S4.out.b.size _ _ _).on hb15)
  have RD15 := Lib.hid (row_on (row_oth RD14.out nDX _ _ _) hb15)
  have RX15 := Lib.hid (row_on (row_set RX14.out _ _ _) hb15)
  have RY15 := Lib.hid (row_on (row_oth RY14.out nYX _ _ _) hb15)
  clear RD14 RX14 RY14
  clear cD0 cD1 cD2 gD0 gD1 gD2 zD
  obtain ⟨cD0, cD1, cD2, gD0, gD1, gD2, zD⟩ := row3 RD15.out
  clear cX0 cX1 cX2 gX0 gX1 gX2 zX
  obtain ⟨cX0, cX1, cX2, gX0, gX1, gX2, zX⟩ := row3 RX15.out
  clear cY0 cY1 cY2 gY0 gY1 gY2 zY
  obtain ⟨cY0, cY1, cY2, gY0, gY1, gY2, zY⟩ := row3 RY15.out
  clear hb15
  go_wp2_with fail
  refine (P8 _ (S15.out.set S0.out.t S5.out.b.size _ _ _).t).mono ?_
  rintro e w16 ⟨rfl, hb16⟩
  have S16 := Lib.hid ((S15.out.set S0.out.t S5.out.b.size _ _ _).on hb16)
  have RD16 := Lib.hid (row_on (row_oth RD15.out nDY _ _ _) hb16)
  have RX16 := Lib.hid (row_on (row_oth RX15.out nXY _ _ _) hb16)
  have RY16 := Lib.hid (row_on (row_set RY15.out _ _ _) hb16)
  clear RD15 RX15 RY15
  clear cD0 cD1 cD2 gD0 gD1 gD2 zD
  obtain ⟨cD0, cD1, cD2, gD0, gD1, gD2, zD⟩ := row3 RD16.out
  clear cX0 cX1 cX2 gX0 gX1 gX2 zX
  obtain ⟨cX0, cX1, cX2, gX0, gX1, gX2, zX⟩ := row3 RX16.out
  clear cY0 cY1 cY2 gY0 gY1 gY2 zY
  obtain ⟨cY0, cY1, cY2, gY0, gY1, gY2, zY⟩ := row3 RY16.out
  clear hb16
  go_wp2_with fail
  refine (R1 _ S16.out.t).mono ?_
  rintro e w17 ⟨rfl, hb17⟩
  have S17 := Lib.hid (S16.out.on hb17)
  have RD17 := Lib.hid (row_on RD16.out hb17)
  have RX17 := Lib.hid (row_on RX16.out hb17)
  have RY17 := Lib.hid (row_on RY16.out hb17)
  clear RD16 RX16 RY16
  clear cD0 cD1 cD2 gD0 gD1 gD2 zD
  obtain ⟨cD0, cD1, cD2, gD0, gD1, gD2, zD⟩ := row3 RD17.out
  clear cX0 cX1 cX2 gX0 gX1 gX2 zX
  obtain ⟨cX0, cX1, cX2, gX0, gX1, gX2, zX⟩ := row3 RX17.out
  clear cY0 cY1 cY2 gY0 gY1 gY2 zY
  obtain ⟨cY0, cY1, cY2, gY0, gY1, gY2, zY⟩ := row3 RY17.out
  clear hb17
  go_wp2_with fail
  go_ret
  exact ⟨rfl, S17.out.b⟩
set_option maxHeartbeats 2000000 in
set_option maxRecDepth 10000 in
theorem walk_ok (c to y m d n year day a f0 f1 f2 f3 v0 v1 v2 v3 o x0 x1 x2 x3 l le s0 s1 s2 s3 r : Int) 
    (P1 : ∀ w, CTab w → Calls Tryd.prog 9 #[.int .i64 c, dtv y m d] w fun e w' => e = .returned (numv a 0) ∧ Below w.heap.size w w')
    (R1 : ∀ w, CTab w → Calls Tryd.prog 10 #[.int .i64 c, dtv y m d] w fun e w' => e = .returned (numv a 0) ∧ Below w.heap.size w w')
    (P2 : ∀ w, CTab w → Calls Tryd.prog 11 #[.int .i64 c, .int .i64 n] w fun e w' => e = .returned (datv f0 f1 f2 f3) ∧ Below w.heap.size w w')
    (R2 : ∀ w, CTab w → Calls Tryd.prog 12 #[.int .i64 c, .int .i64 n] w fun e w' => e = .returned (datv f0 f1 f2 f3) ∧ Below w.heap.size w w')
    (P3 : ∀ w, CTab w → Calls Tryd.prog 13 #[dtv y m d, .int .i64 c, .int .i64 to] w fun e w' => e = .returned (datv v0 v1 v2 v3) ∧ Below w.heap.size w w')
    (R3 : ∀ w, CTab w → Calls Tryd.prog 14 #[dtv y m d, .int .i64 c, .int .i64 to] w fun e w' => e = .returned (datv v0 v1 v2 v3) ∧ Below w.heap.size w w')
    (P4 : ∀ w, CTab w → Calls Tryd.prog 15 #[.int .i64 c, dtv y m d] w fun e w' => e = .returned (numv o 0) ∧ Below w.heap.size w w')
    (R4 : ∀ w, CTab w → Calls Tryd.prog 16 #[.int .i64 c, dtv y m d] w fun e w' => e = .returned (numv o 0) ∧ Below w.heap.size w w')
    (P5 : ∀ w, CTab w → Calls Tryd.prog 17 #[.int .i64 c, .int .i64 year, .int .i64 day] w fun e w' => e = .returned (datv x0 x1 x2 x3) ∧ Below w.heap.size w w')
    (R5 : ∀ w, CTab w → Calls Tryd.prog 18 #[.int .i64 c, .int .i64 year, .int .i64 day] w fun e w' => e = .returned (datv x0 x1 x2 x3) ∧ Below w.heap.size w w')
    (P6 : ∀ w, CTab w → Calls Tryd.prog 19 #[.int .i64 c, .int .i64 year] w fun e w' => e = .returned (numv l le) ∧ Below w.heap.size w w')
    (R6 : ∀ w, CTab w → Calls Tryd.prog 20 #[.int .i64 c, .int .i64 year] w fun e w' => e = .returned (numv l le) ∧ Below w.heap.size w w')
    (P7 : ∀ w, CTab w → Calls Tryd.prog 21 #[.int .i64 c, dtv y m d, .int .i64 day] w fun e w' => e = .returned (datv s0 s1 s2 s3) ∧ Below w.heap.size w w')
    (R7 : ∀ w, CTab w → Calls Tryd.prog 22 #[.int .i64 c, dtv y m d, .int .i64 day] w fun e w' => e = .returned (datv s0 s1 s2 s3) ∧ Below w.heap.size w w')
    (P8 : ∀ w, CTab w → Calls Tryd.prog 23 #[.int .i64 c, dtv y m d] w fun e w' => e = .returned (numv r 0) ∧ Below w.heap.size w w')
    (Ho : ∀ w, Calls Tryd.prog 24 #[.int .i64 a] w fun e w' => e = .returned (.int .i64 r) ∧ w = w')
    (W : World) (ht : CTab W) :
    Calls Tryd.prog 3 #[.int .i64 c, .int .i64 to, dtv y m d, .int .i64 n, .int .i64 year, .int .i64 day] W fun e w' => e = .returned (.bool true) ∧ Below W.heap.size W w' := by
  have S0 := Lib.hid (St.start ht)
  clear ht
  go_enter Tryd.func3, Tryd.ntmps3
  go_wp2_with fail
  refine (c5awake_any _ (S0.out.al _).t).mono ?_
  rintro e w1 ⟨rfl, hb1⟩
  have S1 := Lib.hid ((S0.out.al _).on hb1)
  have RD1 := Lib.hid (row_on (heap_alloc_new _ _) hb1)
  obtain ⟨cD0, cD1, cD2, gD0, gD1, gD2, zD⟩ := row3 RD1.out
  clear hb1
  go_wp2_with fail
  refine (P1 _ S1.out.t).mono ?_
  rintro e w2 ⟨rfl, hb2⟩
  have S2 := Lib.hid (S1.out.on hb2)
  have RD2 := Lib.hid (row_on RD1.out hb2)
  clear RD1
  clear cD0 cD1 cD2 gD0 gD1 gD2 zD
  obtain ⟨cD0, cD1, cD2, gD0, gD1, gD2, zD⟩ := row3 RD2.out
  clear hb2
  go_wp2_with fail
  refine (R1 _ S2.out.t).mono ?_
  rintro e w3 ⟨rfl, hb3⟩
  have S3 := Lib.hid (S2.out.on hb3)
  have RD3 := Lib.hid (row_on RD2.out hb3)
  clear RD2
  clear cD0 cD1 cD2 gD0 gD1 gD2 zD
  obtain ⟨cD0, cD1, cD2, gD0, gD1, gD2, zD⟩ := row3 RD3.out
  clear hb3
  go_wp2_with fail
  refine (P2 _ S3.out.t).mono ?_
  rintro e w4 ⟨rfl, hb4⟩
  have S4 := Lib.hid (S3.out.on hb4)
  have RD4 := Lib.hid (row_on RD3.out hb4)
  clear RD3
  clear cD0 cD1 cD2 gD0 gD1 gD2 zD
  obtain ⟨cD0, cD1, cD2, gD0, gD1, gD2, zD⟩ := row3 RD4.out
  clear hb4
  have nDX := Nat.ne_of_lt zD
  have nXD := (Nat.ne_of_lt zD).symm
  go_wp2_with fail
  refine (R2 _ (S4.out.al _).t).mono ?_
  rintro e w5 ⟨rfl, hb5⟩
  have S5 := Lib.hid ((S4.out.al _).on hb5)
  have RD5 := Lib.hid (row_on (row_al RD4.out _) hb5)
  have RX5 := Lib.hid (row_on (heap_alloc_new _ _) hb5)
  clear RD4
  clear cD0 cD1 cD2 gD0 gD1 gD2 zD
  obtain ⟨cD0, cD1, cD2, gD0, gD1, gD2, zD⟩ := row3 RD5.out
  obtain ⟨cX0, cX1, cX2, gX0, gX1, gX2, zX⟩ := row3 RX5.out
  clear hb5
  have nDY := Nat.ne_of_lt zD
  have nYD := (Nat.ne_of_lt zD).symm
  have nXY := Nat.ne_of_lt zX
  have nYX := (Nat.ne_of_lt zX).symm
  go_wp2_with fail
  refine (P3 _ (S5.out.al _).t).mono ?_
  rintro e w6 ⟨rfl, hb6⟩
  have S6 := Lib.hid ((S5.out.al _).on hb6)
  have RD6 := Lib.hid (row_on (row_al RD5.out _) hb6)
  have RX6 := Lib.hid (row_on (row_al RX5.out _) hb6)
  have RY6 := Lib.hid (row_on (heap_alloc_new _ _) hb6)
  clear RD5 RX5
  clear cD0 cD1 cD2 gD0 gD1 gD2 zD
  obtain ⟨cD0, cD1, cD2, gD0, gD1, gD2, zD⟩ := row3 RD6.out
  clear cX0 cX1 cX2 gX0 gX1 gX2 zX
  obtain ⟨cX0, cX1, cX2, gX0, gX1, gX2, zX⟩ := row3 RX6.out
  obtain ⟨cY0, cY1, cY2, gY0, gY1, gY2, zY⟩ := row3 RY6.out
  clear hb6
  go_wp2_with fail
  refine (R3 _ (S6.out.set S0.out.t S4.out.b.size _ _ _).t).mono ?_
  rintro e w7 ⟨rfl, hb7⟩
  have S7 := Lib.hid ((S6.out.set S0.out.t S4.out.b.size _ _ _).on hb7)
  have RD7 := Lib.hid (row_on (row_oth RD6.out nDX _ _ _) hb7)
  have RX7 := Lib.hid (row_on (row_set RX6.out _ _ _) hb7)
  have RY7 := Lib.hid (row_on (row_oth RY6.out nYX _ _ _) hb7)
  clear RD6 RX6 RY6
  clear cD0 cD1 cD2 gD0 gD1 gD2 zD
  obtain ⟨cD0, cD1, cD2, gD0, gD1, gD2, zD⟩ := row3 RD7.out
  clear cX0 cX1 cX2 gX0 gX1 gX2 zX
  obtain ⟨cX0, cX1, cX2, gX0, gX1, gX2, zX⟩ := row3 RX7.out
  clear cY0 cY1 cY2 gY0 gY1 gY2 zY
  obtain ⟨cY0, cY1, cY2, gY0, gY1, gY2, zY⟩ := row3 RY7.out
  clear hb7
  go_wp2_with fail
  refine (P4 _ (S7.out.set S0.out.t S5.out.b.size _ _ _).t).mono ?_
  rintro e w8 ⟨rfl, hb8⟩
  have S8 := Lib.hid ((S7.out.set S0.out.t S5.out.b.size _ _ _).on hb8)
  have RD8 := Lib.hid (row_on (row_oth RD7.out nDY _ _ _) hb8)
  have RX8 := Lib.hid (row_on (row_oth RX7.out nXY _ _ _) hb8)
  have RY8 := Lib.hid (row_on (row_set RY7.out _ _ _) hb8)
  clear RD7 RX7 RY7
  clear cD0 cD1 cD2 gD0 gD1 gD2 zD
  obtain ⟨cD0, cD1, cD2, gD0, gD1, gD2, zD⟩ := row3 RD8.out
  clear cX0 cX1 cX2 gX0 gX1 gX2 zX
  obtain ⟨cX0, cX1, cX2, gX0, gX1, gX2, zX⟩ := row3 RX8.out
  clear cY0 cY1 cY2 gY0 gY1 gY2 zY
  obtain ⟨cY0, cY1, cY2, gY0, gY1, gY2, zY⟩ := row3 RY8.out
  clear hb8
  go_wp2_with fail
  refine (R4 _ S8.out.t).mono ?_
  rintro e w9 ⟨rfl, hb9⟩
  have S9 := Lib.hid (S8.out.on hb9)
  have RD9 := Lib.hid (row_on RD8.out hb9)
  have RX9 := Lib.hid (row_on RX8.out hb9)
  have RY9 := Lib.hid (row_on RY8.out hb9)
  clear RD8 RX8 RY8
  clear cD0 cD1 cD2 gD0 gD1 gD2 zD
  obtain ⟨cD0, cD1, cD2, gD0, gD1, gD2, zD⟩ := row3 RD9.out
  clear cX0 cX1 cX2 gX0 gX1 gX2 zX
  obtain ⟨cX0, cX1, cX2, gX0, gX1, gX2, zX⟩ := row3 RX9.out
  clear cY0 cY1 cY2 gY0 gY1 gY2 zY
  obtain ⟨cY0, cY1, cY2, gY0, gY1, gY2, zY⟩ := row3 RY9.out
  clear hb9
  go_wp2_with fail
  refine (P5 _ S9.out.t).mono ?_
  rintro e w10 ⟨rfl, hb10⟩
  have S10 := Lib.hid (S9.out.on hb10)
  have RD10 := Lib.hid (row_on RD9.out hb10)
  have RX10 := Lib.hid (row_on RX9.out hb10)
  have RY10 := Lib.hid (row_on RY9.out hb10)
  clear RD9 RX9 RY9
  clear cD0 cD1 cD2 gD0 gD1 gD2 zD
  obtain ⟨cD0, cD1, cD2, gD0, gD1, gD2, zD⟩ := row3 RD10.out
  clear cX0 cX1 cX2 gX0 gX1 gX2 zX
  obtain ⟨cX0, cX1, cX2, gX0, gX1, gX2, zX⟩ := row3 RX10.out
  clear cY0 cY1 cY2 gY0 gY1 gY2 zY
  obtain ⟨cY0, cY1, cY2, gY0, gY1, gY2, zY⟩ := row3 RY10.out
  clear hb10
  go_wp2_with fail
  refine (R5 _ (S10.out.set S0.out.t S4.out.b.size _ _ _).t).mono ?_
  rintro e w11 ⟨rfl, hb11⟩
  have S11 := Lib.hid ((S10.out.set S0.out.t S4.out.b.size _ _ _).on hb11)
  have RD11 := Lib.hid (row_on (row_oth RD10.out nDX _ _ _) hb11)
  have RX11 := Lib.hid (row_on (row_set RX10.out _ _ _) hb11)
  have RY11 := Lib.hid (row_on (row_oth RY10.out nYX _ _ _) hb11)
  clear RD10 RX10 RY10
  clear cD0 cD1 cD2 gD0 gD1 gD2 zD
  obtain ⟨cD0, cD1, cD2, gD0, gD1, gD2, zD⟩ := row3 RD11.out
  clear cX0 cX1 cX2 gX0 gX1 gX2 zX
  obtain ⟨cX0, cX1, cX2, gX0, gX1, gX2, zX⟩ := row3 RX11.out
  clear cY0 cY1 cY2 gY0 gY1 gY2 zY
  obtain ⟨cY0, cY1, cY2, gY0, gY1, gY2, zY⟩ := row3 RY11.out
  clear hb11
  go_wp2_with fail
  refine (P6 _ (S11.out.set S0.out.t S5.out.b.size _ _ _).t).mono ?_
  rintro e w12 ⟨rfl, hb12⟩
  have S12 := Lib.hid ((S11.out.set S0.out.t S5.out.b.size _ _ _).on hb12)
  have RD12 := Lib.hid (row_on (row_oth RD11.out nDY _ _ _) hb12)
  have RX12 := Lib.hid (row_on (row_oth RX11.out nXY _ _ _) hb12)
  have RY12 := Lib.hid (row_on (row_set RY11.out _ _ _) hb12)
  clear RD11 RX11 RY11
  clear cD0 cD1 cD2 gD0 gD1 gD2 zD
  obtain ⟨cD0, cD1, cD2, gD0, gD1, gD2, zD⟩ := row3 RD12.out
  clear cX0 cX1 cX2 gX0 gX1 gX2 zX
  obtain ⟨cX0, cX1, cX2, gX0, gX1, gX2, zX⟩ := row3 RX12.out
  clear cY0 cY1 cY2 gY0 gY1 gY2 zY
  obtain ⟨cY0, cY1, cY2, gY0, gY1, gY2, zY⟩ := row3 RY12.out
  clear hb12
  go_wp2_with fail
  refine (R6 _ S12.out.t).mono ?_
  rintro e w13 ⟨rfl, hb13⟩
  have S13 := Lib.hid (S12.out.on hb13)
  have RD13 := Lib.hid (row_on RD12.out hb13)
  have RX13 := Lib.hid (row_on RX12.out hb13)
  have RY13 := Lib.hid (row_on RY12.out hb13)
  clear RD12 RX12 RY12
  clear cD0 cD1 cD2 gD0 gD1 gD2 zD
  obtain ⟨cD0, cD1, cD2, gD0, gD1, gD2, zD⟩ := row3 RD13.out
  clear cX0 cX1 cX2 gX0 gX1 gX2 zX
  obtain ⟨cX0, cX1, cX2, gX0, gX1, gX2, zX⟩ := row3 RX13.out
  clear cY0 cY1 cY2 gY0 gY1 gY2 zY
  obtain ⟨cY0, cY1, cY2, gY0, gY1, gY2, zY⟩ := row3 RY13.out
  clear hb13
  go_wp2_with fail
  refine (P7 _ S13.out.t).mono ?_
  rintro e w14 ⟨rfl, hb14⟩
  have S14 := Lib.hid (S13.out.on hb14)
  have RD14 := Lib.hid (row_on RD13.out hb14)
  have RX14 := Lib.hid (row_on RX13.out hb14)
  have RY14 := Lib.hid (row_on RY13.out hb14)
  clear RD13 RX13 RY13
  clear cD0 cD1 cD2 gD0 gD1 gD2 zD
  obtain ⟨cD0, cD1, cD2, gD0, gD1, gD2, zD⟩ := row3 RD14.out
  clear cX0 cX1 cX2 gX0 gX1 gX2 zX
  obtain ⟨cX0, cX1, cX2, gX0, gX1, gX2, zX⟩ := row3 RX14.out
  clear cY0 cY1 cY2 gY0 gY1 gY2 zY
  obtain ⟨cY0, cY1, cY2, gY0, gY1, gY2, zY⟩ := row3 RY14.out
  clear hb14
  go_wp2_with fail
  refine (R7 _ (S14.out.set S0.out.t S4.out.b.size _ _ _).t).mono ?_
  rintro e w15 ⟨rfl, hb15⟩
  have S15 := Lib.hid ((S14.out.set S0.out.t S4.out.b.size _ _ _).on hb15)
  have RD15 := Lib.hid (row_on (row_oth RD14.out nDX _ _ _) hb15)
  have RX15 := Lib.hid (row_on (row_set RX14.out _ _ _) hb15)
  have RY15 := Lib.hid (row_on (row_oth RY14.out nYX _ _ _) hb15)
  clear RD14 RX14 RY14
  clear cD0 cD1 cD2 gD0 gD1 gD2 zD
  obtain ⟨cD0, cD1, cD2, gD0, gD1, gD2, zD⟩ := row3 RD15.out
  clear cX0 cX1 cX2 gX0 gX1 gX2 zX
  obtain ⟨cX0, cX1, cX2, gX0, gX1, gX2, zX⟩ := row3 RX15.out
  clear cY0 cY1 cY2 gY0 gY1 gY2 zY
  obtain ⟨cY0, cY1, cY2, gY0, gY1, gY2, zY⟩ := row3 RY15.out
  clear hb15
  go_wp2_with fail
  refine (P8 _ (S15.out.set S0.out.t S5.out.b.size _ _ _).t).mono ?_
  rintro e w16 ⟨rfl, hb16⟩
  have S16 := Lib.hid ((S15.out.set S0.out.t S5.out.b.size _ _ _).on hb16)
  have RD16 := Lib.hid (row_on (row_oth RD15.out nDY _ _ _) hb16)
  have RX16 := Lib.hid (row_on (row_oth RX15.out nXY _ _ _) hb16)
  have RY16 := Lib.hid (row_on (row_set RY15.out _ _ _) hb16)
  clear RD15 RX15 RY15
  clear cD0 cD1 cD2 gD0 gD1 gD2 zD
  obtain ⟨cD0, cD1, cD2, gD0, gD1, gD2, zD⟩ := row3 RD16.out
  clear cX0 cX1 cX2 gX0 gX1 gX2 zX
  obtain ⟨cX0, cX1, cX2, gX0, gX1, gX2, zX⟩ := row3 RX16.out
  clear cY0 cY1 cY2 gY0 gY1 gY2 zY
  obtain ⟨cY0, cY1, cY2, gY0, gY1, gY2, zY⟩ := row3 RY16.out
  clear hb16
  go_wp2_with fail
  refine (R1 _ S16.out.t).mono ?_
  rintro e w17 ⟨rfl, hb17⟩
  have S17 := Lib.hid (S16.out.on hb17)
  have RD17 := Lib.hid (row_on RD16.out hb17)
  have RX17 := Lib.hid (row_on RX16.out hb17)
  have RY17 := Lib.hid (row_on RY16.out hb17)
  clear RD16 RX16 RY16
  clear cD0 cD1 cD2 gD0 gD1 gD2 zD
  obtain ⟨cD0, cD1, cD2, gD0, gD1, gD2, zD⟩ := row3 RD17.out
  clear cX0 cX1 cX2 gX0 gX1 gX2 zX
  obtain ⟨cX0, cX1, cX2, gX0, gX1, gX2, zX⟩ := row3 RX17.out
  clear cY0 cY1 cY2 gY0 gY1 gY2 zY
  obtain ⟨cY0, cY1, cY2, gY0, gY1, gY2, zY⟩ := row3 RY17.out
  clear hb17
  go_wp2_with fail
  refine (Ho _).mono ?_
  rintro e wq ⟨rfl, rfl⟩
  go_wp2_with fail
  go_ret
  exact ⟨rfl, S17.out.b⟩
theorem walk (c to y m d n year day : Int) (w0 : (Lit.int .i64 c).wf = true) (w1 : (Lit.int .i64 to).wf = true) (w2 : (Lit.int .i64 y).wf = true) (w3 : (Lit.int .i64 m).wf = true) (w4 : (Lit.int .i64 d).wf = true) (w5 : (Lit.int .i64 n).wf = true) (w6 : (Lit.int .i64 year).wf = true) (w7 : (Lit.int .i64 day).wf = true) (W : World) (ht : CTab W) :
    Calls Tryd.prog 3 #[.int .i64 c, .int .i64 to, dtv y m d, .int .i64 n, .int .i64 year, .int .i64 day] W fun e w' => e = .returned (.bool true) ∧ Below W.heap.size W w' := by
  have hs : inR day = true := inR_iff.2 (bounds_i64 w7)
  have P1 := fun w ht => ctoday_any y m d w c ht
  have R1 := fun w ht => r5day_any y m d w c ht
  have P4 := fun w ht => cofy_all c y m d w ht
  have R4 := fun w ht => r5oy_all c y m d w ht
  have P8 := fun w ht => cwd_all c y m d w ht
  by_cases h : tE c y m d = 0
  · have hb := tN_bd c y m d
    rw [h] at P1 R1 P4 R4 P8
    refine walk_ok c to y m d n year day _ _ _ _ _ _ _ _ _ _ _ _ _ _ _ _ _ _ _ _ _ P1 R1 (fun w ht => cfrom_any n w c ht) (fun w ht => r5from_any n w c ht) (fun w ht => ccv_all c y m d w ht to) (fun w ht => r5cv_all c y m d w ht to) P4 R4 (fun w ht => cfy_all c year w ht day) (fun w ht => r5fy_all c year w ht day) (fun w ht => cylen_all c year w ht) (fun w ht => r5yl_all c year w ht) (fun w ht => cshift_all c y m d w ht day hs) (fun w ht => r5sh_all c y m d w ht day) P8 (fun w => ?_) W ht
    rw [show wN c y m d = tN c y m d % 7 by unfold wN; rw [if_pos h]]
    exact rof_any _ w (inR_iff.2 (by omega))
  · rw [show wN c y m d = 0 by unfold wN; rw [if_neg h]] at P8
    exact walk_err c to y m d n year day _ _ _ _ _ _ _ _ _ _ _ _ _ _ _ _ _ _ _ _ _ P1 R1 (fun w ht => cfrom_any n w c ht) (fun w ht => r5from_any n w c ht) (fun w ht => ccv_all c y m d w ht to) (fun w ht => r5cv_all c y m d w ht to) P4 R4 (fun w ht => cfy_all c year w ht day) (fun w ht => r5fy_all c year w ht day) (fun w ht => cylen_all c year w ht) (fun w ht => r5yl_all c year w ht) (fun w ht => cshift_all c y m d w ht day hs) (fun w ht => r5sh_all c y m d w ht day) P8 (tE_ne h) W ht

/-! ### the row's step -/
set_option maxRecDepth 100000 in
theorem lifted (os : Os) (started : os.Started) (H : Type) (enc : TypeId × Value → H) :
    ReturnsInHanded {} Tryd.checked os 3 .any (fun w args => (Rows.civilMatchesReferenceSpec.pre enc Tryd.prog Tryd.f3 [] false w args ∧ laidMetH Tryd.prog laidL w) ∧ sizedMet enc Tryd.prog Tryd.f3 (OpenSpec.ofChange Rows.civilMatchesReferenceSpec) false w args)
      (Rows.civilMatchesReferenceSpec.post enc Tryd.prog Tryd.f3 false true false false) := by
  refine returnsInHanded_of_change_and (C := Tryd.checked) (X := fun w _ => laidMetH Tryd.prog laidL w) (fun _ _ _ hh h => h.of_heap hh) own started (by kernel_rfl) Tryd.func3
    (ChangeSpec.witness_shaped (enc := enc) (C := Tryd.checked) (os := os) (X := fun w _ => laidMetH Tryd.prog laidL w) false (World.doorLaid Tryd.prog 400 os) #[.int .i64 0, .int .i64 0, .agg #[.int .i64 0, .int .i64 0, .int .i64 0], .int .i64 0, .int .i64 0, .int .i64 0] 8 rfl (World.shaped_of_RefB (by kernel_rfl) (by kernel_rfl)) (by kernel_rfl) (by kernel_rfl) (by kernel_rfl) (door_met os _)) ?_
  intro W base args ds gs before hval0 hW _ _ hL _
  have hval : ∀ (j : Nat) t v, Tryd.f3.params[j]? = some t → args[j]? = some v → Value.okWide Tryd.prog W .any base t v := hval0
  have hW' := hW
  obtain ⟨p, q, hA0, hV, rfl, hfz, hnd⟩ := hW
  have hA : DataW.TrodAll enc Tryd.prog W 0 (fun _ => true) true Tryd.f3.params.toList args.toList ds p := hA0
  rw [Tryd.params3] at hA hval
  obtain ⟨v0, vs0, d0, ds0, p0, q0, hargs, rfl, rfl, h0, r0⟩ := trodAll_cons hA
  obtain ⟨v1, vs1, d1, ds1, p1, q1, rfl, rfl, rfl, h1, r1⟩ := trodAll_cons r0
  obtain ⟨v2, vs2, d2, ds2, p2, q2, rfl, rfl, rfl, h2, r2⟩ := trodAll_cons r1
  obtain ⟨v3, vs3, d3, ds3, p3, q3, rfl, rfl, rfl, h3, r3⟩ := trodAll_cons r2
  obtain ⟨v4, vs4, d4, ds4, p4, q4, rfl, rfl, rfl, h4, r4⟩ := trodAll_cons r3
  obtain ⟨v5, vs5, d5, ds5, p5, q5, rfl, rfl, rfl, h5, r5⟩ := trodAll_cons r4
  obtain ⟨rfl, rfl, rfl⟩ := trodAll_nil r5
  obtain rfl : args = #[v0, v1, v2, v3, v4, v5] := by cases args; simp_all
  obtain ⟨rfl, rfl⟩ := trodVars_none hV
  obtain ⟨a0, rfl, rfl, rfl, w0⟩ := open_int Tryd.underlying3 (hval 0 3 v0 rfl rfl) h0
  obtain ⟨a1, rfl, rfl, rfl, w1⟩ := open_int Tryd.underlying3 (hval 1 3 v1 rfl rfl) h1
  obtain ⟨c2_0, c2_1, c2_2, y2_0, y2_1, y2_2, m2, rfl, rfl, rfl, hy2_0, hy2_1, hy2_2⟩ := open_agg3 Tryd.underlying23 (by kernel_rfl) (show Tryd.prog.cellsOf 23 = 3 by kernel_rfl) (hval 2 23 v2 rfl rfl) h2
  obtain ⟨f2_0, e2_0, rfl, w2_0⟩ := DataW.trod_int Tryd.underlying3 hy2_0
  simp at e2_0; subst e2_0
  obtain ⟨f2_1, e2_1, rfl, w2_1⟩ := DataW.trod_int Tryd.underlying3 hy2_1
  simp at e2_1; subst e2_1
  obtain ⟨f2_2, e2_2, rfl, w2_2⟩ := DataW.trod_int Tryd.underlying3 hy2_2
  simp at e2_2; subst e2_2
  obtain ⟨a3, rfl, rfl, rfl, w3⟩ := open_int Tryd.underlying3 (hval 3 3 v3 rfl rfl) h3
  obtain ⟨a4, rfl, rfl, rfl, w4⟩ := open_int Tryd.underlying3 (hval 4 3 v4 rfl rfl) h4
  obtain ⟨a5, rfl, rfl, rfl, w5⟩ := open_int Tryd.underlying3 (hval 5 3 v5 rfl rfl) h5
  clear hA0 hval0
  simp only [List.append_nil] at hW'
  have sr2 : ∀ (W' : World) (sp : Nat → Bool), DataW.Trod enc Tryd.prog W' 0 sp true 23 (.agg #[.int .i64 f2_0, .int .i64 f2_1, .int .i64 f2_2]) (.agg [.lit (.int .i64 f2_0), .lit (.int .i64 f2_1), .lit (.int .i64 f2_2)]) [] := fun W' sp =>
    shut_agg3 (y0 := (.lit (.int .i64 f2_0), [])) (y1 := (.lit (.int .i64 f2_1), [])) (y2 := (.lit (.int .i64 f2_2), [])) Tryd.underlying23 (by kernel_rfl) (show Tryd.prog.cellsOf 23 = 3 by kernel_rfl) ⟨1, by simp [DataW.trod, Tryd.underlying3, w2_0]⟩ ⟨1, by simp [DataW.trod, Tryd.underlying3, w2_1]⟩ ⟨1, by simp [DataW.trod, Tryd.underlying3, w2_2]⟩
  refine (walk a0 a1 f2_0 f2_1 f2_2 a3 a4 a5 w0 w1 w2_0 w2_1 w2_2 w3 w4 w5 W (laid_facts hL)).mono fun e W' ⟨he, bel⟩ => ?_
  subst he
  exact ⟨_, rfl, _, _, _, [], _, [], hW', trodAll_mk1 (shut_bool Tryd.underlying4 _), (trodAll_cons_mk (shut_int Tryd.underlying3 w0) (trodAll_cons_mk (shut_int Tryd.underlying3 w1) (trodAll_cons_mk (sr2 _ _) (trodAll_cons_mk (shut_int Tryd.underlying3 w3) (trodAll_cons_mk (shut_int Tryd.underlying3 w4) (trodAll_cons_mk (shut_int Tryd.underlying3 w5) trodAll_mk0)))))), rfl, bel.frame _, fun h => by cases h⟩

theorem over : Rows.civilMatchesReferenceRow.holds Tryd.pinned (OpenSpec.ofChange Rows.civilMatchesReferenceSpec) :=
  OpenClaim.holds_of_wide 3 Tryd.f3 rfl rfl rfl rfl rfl rfl rfl ⟨rfl, rfl, rfl, rfl, rfl⟩ rfl rfl rfl rfl rfl (by kernel_rfl) Tryd.func3 (by kernel_rfl)
    (of_decide_eq_true (by kernel_rfl)) (by unfold Func.isWrapper; first | (rw [if_pos (by decide +kernel)]; kernel_rfl) | (rw [if_neg (by decide +kernel)]; exact ⟨rfl, rfl⟩))
    (fun os started H enc _ => lifted os started H enc)

/-- The statement: the tied card. -/
theorem proved : Rows.CivilMatchesReferenceCardSaid :=
  Claim7.holds_tied_plain_at .later [] [.data, .data, .data] true (true, "9484c15c1b8584f9bd4f7ea5aa595545c02681c034fbe158da6ebf60820e8177") false
    over (fun _ h => by cases h) (by kernel_rfl) (fun _ h => by cases h) civilMatchesReference_row_tie rfl ⟨rfl, rfl⟩ (by kernel_rfl) rfl
    (fun f fn hf hfn => by
      obtain rfl : f = 3 := Option.some.inj ((show Tryd.prog.funcNamed "computus/computuslaw05.CivilMatchesReference" = some 3 by kernel_rfl).symm.trans hf) |>.symm
      obtain rfl : fn = Tryd.f3 := (Option.some.inj (Tryd.func3.symm.trans hfn)).symm
      exact ⟨by kernel_rfl, fun j t ht => by
        rw [Tryd.params3] at ht
        have hm : t ∈ [3, 3, 23, 3, 3, 3] := by simpa using Array.mem_of_getElem? ht
        have hall : ([3, 3, 23, 3, 3, 3].all fun u => !Tryd.prog.wantsStandIn u) = true := by kernel_rfl
        exact (show Tryd.prog.wantsStandIn t = false by simpa using List.all_eq_true.1 hall t hm)⟩)
    (by kernel_rfl)
#print axioms proved
end Go.Proofs.YtdnglkccdmlplaaDoor.civilMatchesReference
