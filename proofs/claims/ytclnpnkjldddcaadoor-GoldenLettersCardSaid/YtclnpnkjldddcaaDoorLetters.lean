/- Proved: for every byte and every date of three 64-bit integers, the law GoldenLetters of package computuslaw06 (a day is a Sunday exactly if its day of the year and the letter leave the same remainder) returns true, and what was in memory is as it was. Condition: the tables of months and groups read as the program's text lays them (the card ties them). -/
import Derived.Test.YtclnpnkjldddcaaDoorDe
import Derived.Test.YtclnpnkjldddcaaDoorVy
import Derived.WalkKit
import Derived.ProofKit
import Derived.OpenShut
import Derived.ShutString
import Derived.Lib.SmallJoins
import Derived.LaidMore
import Derived.Stop.Joined
import Derived.SevenTiedAt
import Derived.Test.YtclnpnkjldddcaaDoorCards
import Derived.Test.YtclnpnkjldddcaaDoorTie
namespace Go.Proofs.YtclnpnkjldddcaaDoor.goldenLetters
open Go.ChangeShapes Go.WideShapes Go.ChangeAt Go.RowKit Go.Joins
open Go.ChangeMaps (open_string shut_string)
set_option linter.unusedVariables false      -- a walk need not use every fact

theorem walk_err (u y m d n k : Int) (hu : 0 ≤ u) (hu2 : u ≤ 255)
    (H1 : ∀ w, CTab w → Calls Tryd.prog 23 #[.int .i64 (1 + u % 2), dtv y m d] w fun e w' => e = .returned (numv n k) ∧ Below w.heap.size w w')
    (hk : (k != 0) = true)
    (W : World) (ht : CTab W) :
    Calls Tryd.prog 6 #[.int .u8 u, dtv y m d] W fun e w' => e = .returned (.bool true) ∧ Below W.heap.size W w' := by
  have S0 := Lib.hid (St.start ht)
  clear ht
  go_enter Tryd.func6, Tryd.ntmps6
  go_wp2_with fail
  refine (c6awake_any _ (S0.out.al _).t).mono ?_
  rintro e w1 ⟨rfl, hb1⟩
  have S1 := Lib.hid ((S0.out.al _).on hb1)
  have RD1 := Lib.hid (row_on (heap_alloc_new _ _) hb1)
  obtain ⟨cD0, cD1, cD2, gD0, gD1, gD2, zD⟩ := row3 RD1.out
  clear hb1
  go_wp2_with fail
  refine (H1 _ S1.out.t).mono ?_
  rintro e w2 ⟨rfl, hb2⟩
  have S2 := Lib.hid (S1.out.on hb2)
  have RD2 := Lib.hid (row_on RD1.out hb2)
  clear RD1
  clear cD0 cD1 cD2 gD0 gD1 gD2 zD
  obtain ⟨cD0, cD1, cD2, gD0, gD1, gD2, zD⟩ := row3 RD2.out
  clear hb2
  go_wp2_with fail
  go_ret
  exact ⟨rfl, S2.out.b⟩
theorem walk_jan_sun (u y m d n a b s : Int) (hu : 0 ≤ u) (hu2 : u ≤ 255)
    (H1 : ∀ w, CTab w → Calls Tryd.prog 23 #[.int .i64 (1 + u % 2), dtv y m d] w fun e w' => e = .returned (numv n 0) ∧ Below w.heap.size w w')
    (H2 : ∀ w, CTab w → Calls Tryd.prog 13 #[.int .i64 (1 + u % 2), .int .i64 y] w fun e w' => e = .returned (letv a b 0) ∧ Below w.heap.size w w')
    (H3 : ∀ w, CTab w → Calls Tryd.prog 24 #[.int .i64 (1 + u % 2), dtv y m d] w fun e w' => e = .returned (numv s 0) ∧ Below w.heap.size w w')
    (s1 : 1 ≤ s) (s2 : s ≤ 366) (a1 : 1 ≤ a) (a2 : a ≤ 7) (b1 : 1 ≤ b) (b2 : b ≤ 7)
    (hm : m ≤ 2)
    (HO : ∀ w, Calls Tryd.prog 25 #[.int .i64 n] w fun e w' => e = .returned (.int .i64 0) ∧ w = w')
    (hs : (s % 7 == a % 7) = true)
    (W : World) (ht : CTab W) :
    Calls Tryd.prog 6 #[.int .u8 u, dtv y m d] W fun e w' => e = .returned (.bool true) ∧ Below W.heap.size W w' := by
  have S0 := Lib.hid (St.start ht)
  clear ht
  go_enter Tryd.func6, Tryd.ntmps6
  go_wp2_with fail
  refine (c6awake_any _ (S0.out.al _).t).mono ?_
  rintro e w1 ⟨rfl, hb1⟩
  have S1 := Lib.hid ((S0.out.al _).on hb1)
  have RD1 := Lib.hid (row_on (heap_alloc_new _ _) hb1)
  obtain ⟨cD0, cD1, cD2, gD0, gD1, gD2, zD⟩ := row3 RD1.out
  clear hb1
  go_wp2_with fail
  refine (H1 _ S1.out.t).mono ?_
  rintro e w2 ⟨rfl, hb2⟩
  have S2 := Lib.hid (S1.out.on hb2)
  have RD2 := Lib.hid (row_on RD1.out hb2)
  clear RD1
  clear cD0 cD1 cD2 gD0 gD1 gD2 zD
  obtain ⟨cD0, cD1, cD2, gD0, gD1, gD2, zD⟩ := row3 RD2.out
  clear hb2
  go_wp2_with fail
  refine (H2 _ S2.out.t).mono ?_
  rintro e w3 ⟨rfl, hb3⟩
  have S3 := Lib.hid (S2.out.on hb3)
  have RD3 := Lib.hid (row_on RD2.out hb3)
  clear RD2
  clear cD0 cD1 cD2 gD0 gD1 gD2 zD
  obtain ⟨cD0, cD1, cD2, gD0, gD1, gD2, zD⟩ := row3 RD3.out
  clear hb3
  go_wp2_with fail
  refine (H3 _ S3.out.t).mono ?_
  rintro e w4 ⟨rfl, hb4⟩
  have S4 := Lib.hid (S3.out.on hb4)
  have RD4 := Lib.hid (row_on RD3.out hb4)
  clear RD3
  clear cD0 cD1 cD2 gD0 gD1 gD2 zD
  obtain ⟨cD0, cD1, cD2, gD0, gD1, gD2, zD⟩ := row3 RD4.out
  clear hb4
  go_wp2_with (go_at_call 25; refine (HO _).mono ?_; rintro e w' ⟨rfl, rfl⟩)
  go_ret
  exact ⟨rfl, S4.out.b⟩
theorem walk_jan_no (u y m d n a b s r : Int) (hu : 0 ≤ u) (hu2 : u ≤ 255)
    (H1 : ∀ w, CTab w → Calls Tryd.prog 23 #[.int .i64 (1 + u % 2), dtv y m d] w fun e w' => e = .returned (numv n 0) ∧ Below w.heap.size w w')
    (H2 : ∀ w, CTab w → Calls Tryd.prog 13 #[.int .i64 (1 + u % 2), .int .i64 y] w fun e w' => e = .returned (letv a b 0) ∧ Below w.heap.size w w')
    (H3 : ∀ w, CTab w → Calls Tryd.prog 24 #[.int .i64 (1 + u % 2), dtv y m d] w fun e w' => e = .returned (numv s 0) ∧ Below w.heap.size w w')
    (s1 : 1 ≤ s) (s2 : s ≤ 366) (a1 : 1 ≤ a) (a2 : a ≤ 7) (b1 : 1 ≤ b) (b2 : b ≤ 7)
    (hm : m ≤ 2)
    (HO : ∀ w, Calls Tryd.prog 25 #[.int .i64 n] w fun e w' => e = .returned (.int .i64 r) ∧ w = w')
    (hr : (r == 0) = false)
    (hs : (s % 7 == a % 7) = false)
    (W : World) (ht : CTab W) :
    Calls Tryd.prog 6 #[.int .u8 u, dtv y m d] W fun e w' => e = .returned (.bool true) ∧ Below W.heap.size W w' := by
  have S0 := Lib.hid (St.start ht)
  clear ht
  go_enter Tryd.func6, Tryd.ntmps6
  go_wp2_with fail
  refine (c6awake_any _ (S0.out.al _).t).mono ?_
  rintro e w1 ⟨rfl, hb1⟩
  have S1 := Lib.hid ((S0.out.al _).on hb1)
  have RD1 := Lib.hid (row_on (heap_alloc_new _ _) hb1)
  obtain ⟨cD0, cD1, cD2, gD0, gD1, gD2, zD⟩ := row3 RD1.out
  clear hb1
  go_wp2_with fail
  refine (H1 _ S1.out.t).mono ?_
  rintro e w2 ⟨rfl, hb2⟩
  have S2 := Lib.hid (S1.out.on hb2)
  have RD2 := Lib.hid (row_on RD1.out hb2)
  clear RD1
  clear cD0 cD1 cD2 gD0 gD1 gD2 zD
  obtain ⟨cD0, cD1, cD2, gD0, gD1, gD2, zD⟩ := row3 RD2.out
  clear hb2
  go_wp2_with fail
  refine (H2 _ S2.out.t).mono ?_
  rintro e w3 ⟨rfl, hb3⟩
  have S3 := Lib.hid (S2.out.on hb3)
  have RD3 := Lib.hid (row_on RD2.out hb3)
  clear RD2
  clear cD0 cD1 cD2 gD0 gD1 gD2 zD
  obtain ⟨cD0, cD1, cD2, gD0, gD1, gD2, zD⟩ := row3 RD3.out
  clear hb3
  go_wp2_with fail
  refine (H3 _ S3.out.t).mono ?_
  rintro e w4 ⟨rfl, hb4⟩
  have S4 := Lib.hid (S3.out.on hb4)
  have RD4 := Lib.hid (row_on RD3.out hb4)
  clear RD3
  clear cD0 cD1 cD2 gD0 gD1 gD2 zD
  obtain ⟨cD0, cD1, cD2, gD0, gD1, gD2, zD⟩ := row3 RD4.out
  clear hb4
  go_wp2_with (go_at_call 25; refine (HO _).mono ?_; rintro e w' ⟨rfl, rfl⟩)
  go_ret
  exact ⟨rfl, S4.out.b⟩
theorem walk_com_sun (u y m d n a b s : Int) (hu : 0 ≤ u) (hu2 : u ≤ 255)
    (H1 : ∀ w, CTab w → Calls Tryd.prog 23 #[.int .i64 (1 + u % 2), dtv y m d] w fun e w' => e = .returned (numv n 0) ∧ Below w.heap.size w w')
    (H2 : ∀ w, CTab w → Calls Tryd.prog 13 #[.int .i64 (1 + u % 2), .int .i64 y] w fun e w' => e = .returned (letv a b 0) ∧ Below w.heap.size w w')
    (H3 : ∀ w, CTab w → Calls Tryd.prog 24 #[.int .i64 (1 + u % 2), dtv y m d] w fun e w' => e = .returned (numv s 0) ∧ Below w.heap.size w w')
    (s1 : 1 ≤ s) (s2 : s ≤ 366) (a1 : 1 ≤ a) (a2 : a ≤ 7) (b1 : 1 ≤ b) (b2 : b ≤ 7)
    (hm : 2 < m)
    (HL : ∀ w, Calls Tryd.prog 22 #[.int .i64 (1 + u % 2), .int .i64 y] w fun e w' => e = .returned (.bool false) ∧ w = w')
    (HO : ∀ w, Calls Tryd.prog 25 #[.int .i64 n] w fun e w' => e = .returned (.int .i64 0) ∧ w = w')
    (hs : (s % 7 == b % 7) = true)
    (W : World) (ht : CTab W) :
    Calls Tryd.prog 6 #[.int .u8 u, dtv y m d] W fun e w' => e = .returned (.bool true) ∧ Below W.heap.size W w' := by
  have S0 := Lib.hid (St.start ht)
  clear ht
  go_enter Tryd.func6, Tryd.ntmps6
  go_wp2_with fail
  refine (c6awake_any _ (S0.out.al _).t).mono ?_
  rintro e w1 ⟨rfl, hb1⟩
  have S1 := Lib.hid ((S0.out.al _).on hb1)
  have RD1 := Lib.hid (row_on (heap_alloc_new _ _) hb1)
  obtain ⟨cD0, cD1, cD2, gD0, gD1, gD2, zD⟩ := row3 RD1.out
  clear hb1
  go_wp2_with fail
  refine (H1 _ S1.out.t).mono ?_
  rintro e w2 ⟨rfl, hb2⟩
  have S2 := Lib.hid (S1.out.on hb2)
  have RD2 := Lib.hid (row_on RD1.out hb2)
  clear RD1
  clear cD0 cD1 cD2 gD0 gD1 gD2 zD
  obtain ⟨cD0, cD1, cD2, gD0, gD1, gD2, zD⟩ := row3 RD2.out
  clear hb2
  go_wp2_with fail
  refine (H2 _ S2.out.t).mono ?_
  rintro e w3 ⟨rfl, hb3⟩
  have S3 := Lib.hid (S2.out.on hb3)
  have RD3 := Lib.hid (row_on RD2.out hb3)
  clear RD2
  clear cD0 cD1 cD2 gD0 gD1 gD2 zD
  obtain ⟨cD0, cD1, cD2, gD0, gD1, gD2, zD⟩ := row3 RD3.out
  clear hb3
  go_wp2_with fail
  refine (H3 _ S3.out.t).mono ?_
  rintro e w4 ⟨rfl, hb4⟩
  have S4 := Lib.hid (S3.out.on hb4)
  have RD4 := Lib.hid (row_on RD3.out hb4)
  clear RD3
  clear cD0 cD1 cD2 gD0 gD1 gD2 zD
  obtain ⟨cD0, cD1, cD2, gD0, gD1, gD2, zD⟩ := row3 RD4.out
  clear hb4
  go_wp2_with fail
  refine (HL _).mono ?_
  rintro e wq ⟨rfl, rfl⟩
  go_wp2_with (go_at_call 25; refine (HO _).mono ?_; rintro e w' ⟨rfl, rfl⟩)
  go_ret
  exact ⟨rfl, S4.out.b⟩
theorem walk_com_no (u y m d n a b s r : Int) (hu : 0 ≤ u) (hu2 : u ≤ 255)
    (H1 : ∀ w, CTab w → Calls Tryd.prog 23 #[.int .i64 (1 + u % 2), dtv y m d] w fun e w' => e = .returned (numv n 0) ∧ Below w.heap.size w w')
    (H2 : ∀ w, CTab w → Calls Tryd.prog 13 #[.int .i64 (1 + u % 2), .int .i64 y] w fun e w' => e = .returned (letv a b 0) ∧ Below w.heap.size w w')
    (H3 : ∀ w, CTab w → Calls Tryd.prog 24 #[.int .i64 (1 + u % 2), dtv y m d] w fun e w' => e = .returned (numv s 0) ∧ Below w.heap.size w w')
    (s1 : 1 ≤ s) (s2 : s ≤ 366) (a1 : 1 ≤ a) (a2 : a ≤ 7) (b1 : 1 ≤ b) (b2 : b ≤ 7)
    (hm : 2 < m)
    (HL : ∀ w, Calls Tryd.prog 22 #[.int .i64 (1 + u % 2), .int .i64 y] w fun e w' => e = .returned (.bool false) ∧ w = w')
    (HO : ∀ w, Calls Tryd.prog 25 #[.int .i64 n] w fun e w' => e = .returned (.int .i64 r) ∧ w = w')
    (hr : (r == 0) = false)
    (hs : (s % 7 == b % 7) = false)
    (W : World) (ht : CTab W) :
    Calls Tryd.prog 6 #[.int .u8 u, dtv y m d] W fun e w' => e = .returned (.bool true) ∧ Below W.heap.size W w' := by
  have S0 := Lib.hid (St.start ht)
  clear ht
  go_enter Tryd.func6, Tryd.ntmps6
  go_wp2_with fail
  refine (c6awake_any _ (S0.out.al _).t).mono ?_
  rintro e w1 ⟨rfl, hb1⟩
  have S1 := Lib.hid ((S0.out.al _).on hb1)
  have RD1 := Lib.hid (row_on (heap_alloc_new _ _) hb1)
  obtain ⟨cD0, cD1, cD2, gD0, gD1, gD2, zD⟩ := row3 RD1.out
  clear hb1
  go_wp2_with fail
  refine (H1 _ S1.out.t).mono ?_
  rintro e w2 ⟨rfl, hb2⟩
  have S2 := Lib.hid (S1.out.on hb2)
  have RD2 := Lib.hid (row_on RD1.out hb2)
  clear RD1
  clear cD0 cD1 cD2 gD0 gD1 gD2 zD
  obtain ⟨cD0, cD1, cD2, gD0, gD1, gD2, zD⟩ := row3 RD2.out
  clear hb2
  go_wp2_with fail
  refine (H2 _ S2.out.t).mono ?_
  rintro e w3 ⟨rfl, hb3⟩
  have S3 := Lib.hid (S2.out.on hb3)
  have RD3 := Lib.hid (row_on RD2.out hb3)
  clear RD2
  clear cD0 cD1 cD2 gD0 gD1 gD2 zD
  obtain ⟨cD0, cD1, cD2, gD0, gD1, gD2, zD⟩ := row3 RD3.out
  clear hb3
  go_wp2_with fail
  refine (H3 _ S3.out.t).mono ?_
  rintro e w4 ⟨rfl, hb4⟩
  have S4 := Lib.hid (S3.out.on hb4)
  have RD4 := Lib.hid (row_on RD3.out hb4)
  clear RD3
  clear cD0 cD1 cD2 gD0 gD1 gD2 zD
  obtain ⟨cD0, cD1, cD2, gD0, gD1, gD2, zD⟩ := row3 RD4.out
  clear hb4
  go_wp2_with fail
  refine (HL _).mono ?_
  rintro e wq ⟨rfl, rfl⟩
  go_wp2_with (go_at_call 25; refine (HO _).mono ?_; rintro e w' ⟨rfl, rfl⟩)
  go_ret
  exact ⟨rfl, S4.out.b⟩
theorem walk_lea_sun (u y m d n a b s : Int) (hu : 0 ≤ u) (hu2 : u ≤ 255)
    (H1 : ∀ w, CTab w → Calls Tryd.prog 23 #[.int .i64 (1 + u % 2), dtv y m d] w fun e w' => e = .returned (numv n 0) ∧ Below w.heap.size w w')
    (H2 : ∀ w, CTab w → Calls Tryd.prog 13 #[.int .i64 (1 + u % 2), .int .i64 y] w fun e w' => e = .returned (letv a b 0) ∧ Below w.heap.size w w')
    (H3 : ∀ w, CTab w → Calls Tryd.prog 24 #[.int .i64 (1 + u % 2), dtv y m d] w fun e w' => e = .returned (numv s 0) ∧ Below w.heap.size w w')
    (s1 : 1 ≤ s) (s2 : s ≤ 366) (a1 : 1 ≤ a) (a2 : a ≤ 7) (b1 : 1 ≤ b) (b2 : b ≤ 7)
    (hm : 2 < m)
    (HL : ∀ w, Calls Tryd.prog 22 #[.int .i64 (1 + u % 2), .int .i64 y] w fun e w' => e = .returned (.bool true) ∧ w = w')
    (HO : ∀ w, Calls Tryd.prog 25 #[.int .i64 n] w fun e w' => e = .returned (.int .i64 0) ∧ w = w')
    (hs : ((s - 1) % 7 == b % 7) = true)
    (s3 : 2 ≤ s)
    (W : World) (ht : CTab W) :
    Calls Tryd.prog 6 #[.int .u8 u, dtv y m d] W fun e w' => e = .returned (.bool true) ∧ Below W.heap.size W w' := by
  have S0 := Lib.hid (St.start ht)
  clear ht
  go_enter Tryd.func6, Tryd.ntmps6
  go_wp2_with fail
  refine (c6awake_any _ (S0.out.al _).t).mono ?_
  rintro e w1 ⟨rfl, hb1⟩
  have S1 := Lib.hid ((S0.out.al _).on hb1)
  have RD1 := Lib.hid (row_on (heap_alloc_new _ _) hb1)
  obtain ⟨cD0, cD1, cD2, gD0, gD1, gD2, zD⟩ := row3 RD1.out
  clear hb1
  go_wp2_with fail
  refine (H1 _ S1.out.t).mono ?_
  rintro e w2 ⟨rfl, hb2⟩
  have S2 := Lib.hid (S1.out.on hb2)
  have RD2 := Lib.hid (row_on RD1.out hb2)
  clear RD1
  clear cD0 cD1 cD2 gD0 gD1 gD2 zD
  obtain ⟨cD0, cD1, cD2, gD0, gD1, gD2, zD⟩ := row3 RD2.out
  clear hb2
  go_wp2_with fail
  refine (H2 _ S2.out.t).mono ?_
  rintro e w3 ⟨rfl, hb3⟩
  have S3 := Lib.hid (S2.out.on hb3)
  have RD3 := Lib.hid (row_on RD2.out hb3)
  clear RD2
  clear cD0 cD1 cD2 gD0 gD1 gD2 zD
  obtain ⟨cD0, cD1, cD2, gD0, gD1, gD2, zD⟩ := row3 RD3.out
  clear hb3
  go_wp2_with fail
  refine (H3 _ S3.out.t).mono ?_
  rintro e w4 ⟨rfl, hb4⟩
  have S4 := Lib.hid (S3.out.on hb4)
  have RD4 := Lib.hid (row_on RD3.out hb4)
  clear RD3
  clear cD0 cD1 cD2 gD0 gD1 gD2 zD
  obtain ⟨cD0, cD1, cD2, gD0, gD1, gD2, zD⟩ := row3 RD4.out
  clear hb4
  go_wp2_with fail
  refine (HL _).mono ?_
  rintro e wq ⟨rfl, rfl⟩
  go_wp2_with (go_at_call 25; refine (HO _).mono ?_; rintro e w' ⟨rfl, rfl⟩)
  go_ret
  exact ⟨rfl, S4.out.b⟩
theorem walk_lea_no (u y m d n a b s r : Int) (hu : 0 ≤ u) (hu2 : u ≤ 255)
    (H1 : ∀ w, CTab w → Calls Tryd.prog 23 #[.int .i64 (1 + u % 2), dtv y m d] w fun e w' => e = .returned (numv n 0) ∧ Below w.heap.size w w')
    (H2 : ∀ w, CTab w → Calls Tryd.prog 13 #[.int .i64 (1 + u % 2), .int .i64 y] w fun e w' => e = .returned (letv a b 0) ∧ Below w.heap.size w w')
    (H3 : ∀ w, CTab w → Calls Tryd.prog 24 #[.int .i64 (1 + u % 2), dtv y m d] w fun e w' => e = .returned (numv s 0) ∧ Below w.heap.size w w')
    (s1 : 1 ≤ s) (s2 : s ≤ 366) (a1 : 1 ≤ a) (a2 : a ≤ 7) (b1 : 1 ≤ b) (b2 : b ≤ 7)
    (hm : 2 < m)
    (HL : ∀ w, Calls Tryd.prog 22 #[.int .i64 (1 + u % 2), .int .i64 y] w fun e w' => e = .returned (.bool true) ∧ w = w')
    (HO : ∀ w, Calls Tryd.prog 25 #[.int .i64 n] w fun e w' => e = .returned (.int .i64 r) ∧ w = w')
    (hr : (r == 0) = false)
    (hs : ((s - 1) % 7 == b % 7) = false)
    (s3 : 2 ≤ s)
    (W : World) (ht : CTab W) :
    Calls Tryd.prog 6 #[.int .u8 u, dtv y m d] W fun e w' => e = .returned (.bool true) ∧ Below W.heap.size W w' := by
  have S0 := Lib.hid (St.start ht)
  clear ht
  go_enter Tryd.func6, Tryd.ntmps6
  go_wp2_with fail
  refine (c6awake_any _ (S0.out.al _).t).mono ?_
  rintro e w1 ⟨rfl, hb1⟩
  have S1 := Lib.hid ((S0.out.al _).on hb1)
  have RD1 := Lib.hid (row_on (heap_alloc_new _ _) hb1)
  obtain ⟨cD0, cD1, cD2, gD0, gD1, gD2, zD⟩ := row3 RD1.out
  clear hb1
  go_wp2_with fail
  refine (H1 _ S1.out.t).mono ?_
  rintro e w2 ⟨rfl, hb2⟩
  have S2 := Lib.hid (S1.out.on hb2)
  have RD2 := Lib.hid (row_on RD1.out hb2)
  clear RD1
  clear cD0 cD1 cD2 gD0 gD1 gD2 zD
  obtain ⟨cD0, cD1, cD2, gD0, gD1, gD2, zD⟩ := row3 RD2.out
  clear hb2
  go_wp2_with fail
  refine (H2 _ S2.out.t).mono ?_
  rintro e w3 ⟨rfl, hb3⟩
  have S3 := Lib.hid (S2.out.on hb3)
  have RD3 := Lib.hid (row_on RD2.out hb3)
  clear RD2
  clear cD0 cD1 cD2 gD0 gD1 gD2 zD
  obtain ⟨cD0, cD1, cD2, gD0, gD1, gD2, zD⟩ := row3 RD3.out
  clear hb3
  go_wp2_with fail
  refine (H3 _ S3.out.t).mono ?_
  rintro e w4 ⟨rfl, hb4⟩
  have S4 := Lib.hid (S3.out.on hb4)
  have RD4 := Lib.hid (row_on RD3.out hb4)
  clear RD3
  clear cD0 cD1 cD2 gD0 gD1 gD2 zD
  obtain ⟨cD0, cD1, cD2, gD0, gD1, gD2, zD⟩ := row3 RD4.out
  clear hb4
  go_wp2_with fail
  refine (HL _).mono ?_
  rintro e wq ⟨rfl, rfl⟩
  go_wp2_with (go_at_call 25; refine (HO _).mono ?_; rintro e w' ⟨rfl, rfl⟩)
  go_ret
  exact ⟨rfl, S4.out.b⟩
theorem lA_at {c y : Int} (h : yE c y = 0) : lA c y = letA ((calOf c).fst y) ∧ lB c y = letB ((calOf c).lp y) (letA ((calOf c).fst y)) := by
  unfold lA lB; rw [if_pos h, if_pos h]; exact ⟨rfl, rfl⟩
theorem cum_two {l : Bool} {m : Int} (h1 : 3 ≤ m) (h2 : m ≤ 12) : 59 + l01 l ≤ cum l m := by
  unfold cum; rw [if_neg (by omega)]; omega
theorem walk (u y m d : Int) (w0 : (Lit.int .u8 u).wf = true) (w1 : (Lit.int .i64 y).wf = true) (w2 : (Lit.int .i64 m).wf = true) (w3 : (Lit.int .i64 d).wf = true) (W : World) (ht : CTab W) :
    Calls Tryd.prog 6 #[.int .u8 u, dtv y m d] W fun e w' => e = .returned (.bool true) ∧ Below W.heap.size W w' := by
  have hb := bounds_u8 w0
  have hK : okC (1 + u % 2) = true := okC_iff.2 (by omega)
  have H1 := fun w ht => r5day_any y m d w (1 + u % 2) ht
  have H2 := fun w ht => glet_any (1 + u % 2) y w ht
  have H3 := fun w ht => r5oy_all (1 + u % 2) y m d w ht
  by_cases h : tE (1 + u % 2) y m d = 0
  · obtain ⟨_, hv, hn⟩ := tE_zero h
    have hi := (calOf (1 + u % 2)).vld_iff.1 hv
    obtain ⟨m1, m2⟩ := (calOf (1 + u % 2)).vld_month hv
    have hd := (calOf (1 + u % 2)).doy_bd hv
    have hl := l01_bd ((calOf (1 + u % 2)).lp y)
    have y0 : yE (1 + u % 2) y = 0 := by unfold yE; rw [if_pos hK, if_pos (inY_iff.2 ⟨hi.1, hi.2.1⟩)]
    obtain ⟨e1, e2⟩ := lA_at y0
    have e3 : oN (1 + u % 2) y m d = cum ((calOf (1 + u % 2)).lp y) m + d := by unfold oN; rw [if_pos h]
    have nb := tN_bd (1 + u % 2) y m d
    have HL := fun w => r5lp_any (1 + u % 2) y w hK (inR_iff.2 (by omega))
    have HO := fun w => rof_any (tN (1 + u % 2) y m d) w (inR_iff.2 (by omega))
    have en : tN (1 + u % 2) y m d = (calOf (1 + u % 2)).fst y + (cum ((calOf (1 + u % 2)).lp y) m + d) - 1 := by rw [hn]; unfold Cal.num; omega
    have ab := letA_bd ((calOf (1 + u % 2)).fst y)
    have bb := letB_bd (l := (calOf (1 + u % 2)).lp y) ab.1 ab.2
    have am := letA_mod ((calOf (1 + u % 2)).fst y)
    rw [h] at H1 H3
    rw [e1, e2, y0] at H2
    rw [e3] at H3
    generalize tN (1 + u % 2) y m d = n at *
    generalize (calOf (1 + u % 2)).fst y = f at *
    have hc := fun g => cum_two (l := (calOf (1 + u % 2)).lp y) (m := m) g m2
    generalize (calOf (1 + u % 2)).lp y = l at *
    generalize hs : cum l m + d = s at *
    clear hv hn
    generalize ha : letA f = a at *
    by_cases hm : m ≤ 2
    · by_cases g : n % 7 = 0
      · rw [g] at HO
        exact walk_jan_sun u y m d n a _ s hb.1 hb.2 H1 H2 H3 (by omega) (by omega) ab.1 ab.2 bb.1 bb.2 hm HO (by rw [beq_iff_eq]; omega) W ht
      · exact walk_jan_no u y m d n a _ s _ hb.1 hb.2 H1 H2 H3 (by omega) (by omega) ab.1 ab.2 bb.1 bb.2 hm HO (by rw [beq_eq_false_iff_ne]; exact g) (by rw [beq_eq_false_iff_ne]; omega) W ht
    · have hc := hc (by omega)
      cases l
      · have e : letB false a = a := rfl
        rw [e] at H2 bb
        by_cases g : n % 7 = 0
        · rw [g] at HO
          exact walk_com_sun u y m d n a a s hb.1 hb.2 H1 H2 H3 (by omega) (by omega) ab.1 ab.2 bb.1 bb.2 (by omega) HL HO (by rw [beq_iff_eq]; omega) W ht
        · exact walk_com_no u y m d n a a s _ hb.1 hb.2 H1 H2 H3 (by omega) (by omega) ab.1 ab.2 bb.1 bb.2 (by omega) HL HO (by rw [beq_eq_false_iff_ne]; exact g) (by rw [beq_eq_false_iff_ne]; omega) W ht
      · have e : letB true a = 1 + (a - 2) % 7 := rfl
        rw [e] at H2 bb
        by_cases g : n % 7 = 0
        · rw [g] at HO
          exact walk_lea_sun u y m d n a _ s hb.1 hb.2 H1 H2 H3 (by omega) (by omega) ab.1 ab.2 bb.1 bb.2 (by omega) HL HO (by rw [beq_iff_eq]; omega) (by omega) W ht
        · exact walk_lea_no u y m d n a _ s _ hb.1 hb.2 H1 H2 H3 (by omega) (by omega) ab.1 ab.2 bb.1 bb.2 (by omega) HL HO (by rw [beq_eq_false_iff_ne]; exact g) (by rw [beq_eq_false_iff_ne]; omega) (by omega) W ht
  · exact walk_err u y m d _ _ hb.1 hb.2 H1 (tE_ne h) W ht

/-! ### the row's step -/
set_option maxRecDepth 100000 in
theorem lifted (os : Os) (started : os.Started) (H : Type) (enc : TypeId × Value → H) :
    ReturnsInHanded {} Tryd.checked os 6 .any (fun w args => (Rows.goldenLettersSpec.pre enc Tryd.prog Tryd.f6 [] false w args ∧ laidMetH Tryd.prog laidL w) ∧ sizedMet enc Tryd.prog Tryd.f6 (OpenSpec.ofChange Rows.goldenLettersSpec) false w args)
      (Rows.goldenLettersSpec.post enc Tryd.prog Tryd.f6 false true false false) := by
  refine returnsInHanded_of_change_and (C := Tryd.checked) (X := fun w _ => laidMetH Tryd.prog laidL w) (fun _ _ _ hh h => h.of_heap hh) own started (by kernel_rfl) Tryd.func6
    (ChangeSpec.witness_shaped (enc := enc) (C := Tryd.checked) (os := os) (X := fun w _ => laidMetH Tryd.prog laidL w) false (World.doorLaid Tryd.prog 400 os) #[.int .u8 0, .agg #[.int .i64 0, .int .i64 0, .int .i64 0]] 8 rfl (World.shaped_of_RefB (by kernel_rfl) (by kernel_rfl)) (by kernel_rfl) (by kernel_rfl) (by kernel_rfl) (door_met os _)) ?_
  intro W base args ds gs before hval0 hW _ _ hL _
  have hval : ∀ (j : Nat) t v, Tryd.f6.params[j]? = some t → args[j]? = some v → Value.okWide Tryd.prog W .any base t v := hval0
  have hW' := hW
  obtain ⟨p, q, hA0, hV, rfl, hfz, hnd⟩ := hW
  have hA : DataW.TrodAll enc Tryd.prog W 0 (fun _ => true) true Tryd.f6.params.toList args.toList ds p := hA0
  rw [Tryd.params6] at hA hval
  obtain ⟨v0, vs0, d0, ds0, p0, q0, hargs, rfl, rfl, h0, r0⟩ := trodAll_cons hA
  obtain ⟨v1, vs1, d1, ds1, p1, q1, rfl, rfl, rfl, h1, r1⟩ := trodAll_cons r0
  obtain ⟨rfl, rfl, rfl⟩ := trodAll_nil r1
  obtain rfl : args = #[v0, v1] := by cases args; simp_all
  obtain ⟨rfl, rfl⟩ := trodVars_none hV
  obtain ⟨a0, rfl, rfl, rfl, w0⟩ := open_int Tryd.underlying5 (hval 0 5 v0 rfl rfl) h0
  obtain ⟨c1_0, c1_1, c1_2, y1_0, y1_1, y1_2, m1, rfl, rfl, rfl, hy1_0, hy1_1, hy1_2⟩ := open_agg3 Tryd.underlying35 (by kernel_rfl) (show Tryd.prog.cellsOf 35 = 3 by kernel_rfl) (hval 1 35 v1 rfl rfl) h1
  obtain ⟨f1_0, e1_0, rfl, w1_0⟩ := DataW.trod_int Tryd.underlying3 hy1_0
  simp at e1_0; subst e1_0
  obtain ⟨f1_1, e1_1, rfl, w1_1⟩ := DataW.trod_int Tryd.underlying3 hy1_1
  simp at e1_1; subst e1_1
  obtain ⟨f1_2, e1_2, rfl, w1_2⟩ := DataW.trod_int Tryd.underlying3 hy1_2
  simp at e1_2; subst e1_2
  clear hA0 hval0
  simp only [List.append_nil] at hW'
  have sr1 : ∀ (W' : World) (sp : Nat → Bool), DataW.Trod enc Tryd.prog W' 0 sp true 35 (.agg #[.int .i64 f1_0, .int .i64 f1_1, .int .i64 f1_2]) (.agg [.lit (.int .i64 f1_0), .lit (.int .i64 f1_1), .lit (.int .i64 f1_2)]) [] := fun W' sp =>
    shut_agg3 (y0 := (.lit (.int .i64 f1_0), [])) (y1 := (.lit (.int .i64 f1_1), [])) (y2 := (.lit (.int .i64 f1_2), [])) Tryd.underlying35 (by kernel_rfl) (show Tryd.prog.cellsOf 35 = 3 by kernel_rfl) ⟨1, by simp [DataW.trod, Tryd.underlying3, w1_0]⟩ ⟨1, by simp [DataW.trod, Tryd.underlying3, w1_1]⟩ ⟨1, by simp [DataW.trod, Tryd.underlying3, w1_2]⟩
  refine (walk a0 f1_0 f1_1 f1_2 w0 w1_0 w1_1 w1_2 W (laid_facts hL)).mono fun e W' ⟨he, bel⟩ => ?_
  subst he
  exact ⟨_, rfl, _, _, _, [], _, [], hW', trodAll_mk1 (shut_bool Tryd.underlying4 _), (trodAll_cons_mk (shut_int Tryd.underlying5 w0) (trodAll_cons_mk (sr1 _ _) trodAll_mk0)), rfl, bel.frame _, fun h => by cases h⟩

theorem over : Rows.goldenLettersRow.holds Tryd.pinned (OpenSpec.ofChange Rows.goldenLettersSpec) :=
  OpenClaim.holds_of_wide 6 Tryd.f6 rfl rfl rfl rfl rfl rfl rfl ⟨rfl, rfl, rfl, rfl, rfl⟩ rfl rfl rfl rfl rfl (by kernel_rfl) Tryd.func6 (by kernel_rfl)
    (of_decide_eq_true (by kernel_rfl)) (by unfold Func.isWrapper; first | (rw [if_pos (by decide +kernel)]; kernel_rfl) | (rw [if_neg (by decide +kernel)]; exact ⟨rfl, rfl⟩))
    (fun os started H enc _ => lifted os started H enc)

/-- The statement: the tied card. -/
theorem proved : Rows.GoldenLettersCardSaid :=
  Claim7.holds_tied_plain_at .later [] [.data, .data, .data] true (true, "bff6ddbdc39f65526b6d7b9580cc599cc37756fb6942dc449d115ae4e50ae4ed") false
    over (fun _ h => by cases h) (by kernel_rfl) (fun _ h => by cases h) goldenLetters_row_tie rfl ⟨rfl, rfl⟩ (by kernel_rfl) rfl
    (fun f fn hf hfn => by
      obtain rfl : f = 6 := Option.some.inj ((show Tryd.prog.funcNamed "computus/computuslaw06.GoldenLetters" = some 6 by kernel_rfl).symm.trans hf) |>.symm
      obtain rfl : fn = Tryd.f6 := (Option.some.inj (Tryd.func6.symm.trans hfn)).symm
      exact ⟨by kernel_rfl, fun j t ht => by
        rw [Tryd.params6] at ht
        have hm : t ∈ [5, 35] := by simpa using Array.mem_of_getElem? ht
        have hall : ([5, 35].all fun u => !Tryd.prog.wantsStandIn u) = true := by kernel_rfl
        exact (show Tryd.prog.wantsStandIn t = false by simpa using List.all_eq_true.1 hall t hm)⟩)
    (by kernel_rfl)
#print axioms proved
end Go.Proofs.YtclnpnkjldddcaaDoor.goldenLetters
