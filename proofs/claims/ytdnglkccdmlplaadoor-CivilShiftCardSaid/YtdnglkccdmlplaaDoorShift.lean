/- Proved: for every byte c, every date d of three 64-bit integers and all 32-bit integers a and b, the law CivilShift of package computuslaw05 (shifting by one day is the next day; shifting by a and then by b is shifting by their sum) returns true, and what was in memory is as it was. Condition: the tables of months and groups read as the program's text lays them (the card ties them). -/
import Derived.Test.YtdnglkccdmlplaaDoorCq
import Derived.Test.YtdnglkccdmlplaaDoorVy
import Derived.WalkKit
import Derived.ProofKit
import Derived.OpenShut
import Derived.ShutString
import Derived.Lib.SmallJoins
import Derived.Deep.RegionHeld3
import Derived.LaidMore
import Derived.Stop.Joined
import Derived.SevenTiedAt
import Derived.Test.YtdnglkccdmlplaaDoorCards
import Derived.Test.YtdnglkccdmlplaaDoorTie
namespace Go.Proofs.YtdnglkccdmlplaaDoor.civilShift
open Go.ChangeShapes Go.WideShapes Go.ChangeAt Go.RowKit Go.Joins
open Go.ChangeMaps (open_string shut_string)
set_option linter.unusedVariables false      -- a walk need not use every fact

theorem kfacts {u : Int} (hu : 0 ≤ u) (hu2 : u ≤ 255) : okC (1 + u % 2) = true ∧ okC (3 - (1 + u % 2)) = true := by
  exact ⟨okC_iff.2 (by omega), okC_iff.2 (by omega)⟩
/-- One shift after the other. -/
theorem sh_sum {c y m d a b : Int} (h : sE c y m d a = 0) :
    sE c (sY c y m d a) (sM c y m d a) (sD c y m d a) b = sE c y m d (a + b) ∧ sY c (sY c y m d a) (sM c y m d a) (sD c y m d a) b = sY c y m d (a + b) ∧ sM c (sY c y m d a) (sM c y m d a) (sD c y m d a) b = sM c y m d (a + b) ∧ sD c (sY c y m d a) (sM c y m d a) (sD c y m d a) b = sD c y m d (a + b) := by
  have h0 := h
  unfold sE at h
  split at h
  · rename_i t0
    obtain ⟨v1, v2⟩ := fE_in h
    have e1 : sY c y m d a = fY c (tN c y m d + a) := by unfold sY; rw [if_pos h0]
    have e2 : sM c y m d a = fM c (tN c y m d + a) := by unfold sM; rw [if_pos h0]
    have e3 : sD c y m d a = fD c (tN c y m d + a) := by unfold sD; rw [if_pos h0]
    obtain ⟨t1, t2⟩ := tE_at (fE_zero h).1 v1
    have t3 := t2.trans v2
    rw [e1, e2, e3]
    have hk : tN c y m d + a + b = tN c y m d + (a + b) := by omega
    have g : sE c (fY c (tN c y m d + a)) (fM c (tN c y m d + a)) (fD c (tN c y m d + a)) b = sE c y m d (a + b) := by unfold sE; rw [if_pos t1, if_pos t0, t3, hk]
    refine ⟨g, ?_, ?_, ?_⟩
    · unfold sY; rw [g, t3, hk]
    · unfold sM; rw [g, t3, hk]
    · unfold sD; rw [g, t3, hk]
  · rename_i t0; exact absurd h t0
/-- The next day. -/
theorem sh_one {c y m d : Int} (h : sE c y m d 1 = 0) : (1 ≤ y ∧ y ≤ 1000000000 ∧ 1 ≤ m ∧ m ≤ 12 ∧ 1 ≤ d ∧ d ≤ 31) ∧ okC c = true ∧
    Cal.nextY ((calOf c).lp y) y m d = sY c y m d 1 ∧ Cal.nextM ((calOf c).lp y) y m d = sM c y m d 1 ∧ Cal.nextD ((calOf c).lp y) y m d = sD c y m d 1 := by
  have h0 := h
  unfold sE at h
  split at h
  · rename_i t0
    obtain ⟨hc, hv, hn⟩ := tE_zero t0
    obtain ⟨_, hi⟩ := fE_zero h
    rw [hn] at hi
    obtain ⟨v1, v2⟩ := (calOf c).next_num hv hi.2
    obtain ⟨_, f1, f2, f3⟩ := fE_at hc v1 v2
    have hq := (calOf c).vld_iff.1 hv
    obtain ⟨m1, m2⟩ := (calOf c).vld_month hv
    have hd := dim_bd ((calOf c).lp y) m m1 m2
    refine ⟨⟨hq.1, hq.2.1, m1, m2, hq.2.2.1, by omega⟩, hc, ?_, ?_, ?_⟩
    · unfold sY; rw [if_pos h0, hn, f1]
    · unfold sM; rw [if_pos h0, hn, f2]
    · unfold sD; rw [if_pos h0, hn, f3]
  · rename_i t0; exact absurd h t0
theorem walk_err (u y m d a b p q r k : Int) (hu : 0 ≤ u) (hu2 : u ≤ 255) (a1 : -2147483648 ≤ a) (a2 : a ≤ 2147483647) (b1 : -2147483648 ≤ b) (b2 : b ≤ 2147483647)
    (H1 : ∀ w, CTab w → Calls Tryd.prog 21 #[.int .i64 (1 + u % 2), dtv y m d, .int .i64 a] w fun e w' => e = .returned (datv p q r k) ∧ Below w.heap.size w w')
    (hk : (k != 0) = true)
    (W : World) (ht : CTab W) :
    Calls Tryd.prog 6 #[.int .u8 u, dtv y m d, .int .i32 a, .int .i32 b] W fun e w' => e = .returned (.bool true) ∧ Below W.heap.size W w' := by
  have S0 := Lib.hid (St.start ht)
  clear ht
  go_enter Tryd.func6, Tryd.ntmps6
  go_wp2_with fail
  refine (c5awake_any _ (S0.out.al _).t).mono ?_
  rintro e w1 ⟨rfl, hb1⟩
  have S1 := Lib.hid ((S0.out.al _).on hb1)
  have RD1 := Lib.hid (row_on (heap_alloc_new _ _) hb1)
  obtain ⟨cD0, cD1, cD2, gD0, gD1, gD2, zD⟩ := row3 RD1.out
  clear hb1
  go_wp2_with fail
  refine (H1 _ S1.out.t).mono ?_
  rintro e w2 ⟨rfl, hb2⟩
  have S2 := Lib.hid (S1.out.on hb2)
  have RD2 := Lib.hid (row_on RD1.out hb2)
  clear RD1
  clear cD0 cD1 cD2 gD0 gD1 gD2 zD
  obtain ⟨cD0, cD1, cD2, gD0, gD1, gD2, zD⟩ := row3 RD2.out
  clear hb2
  have nDX := Nat.ne_of_lt zD
  have nXD := (Nat.ne_of_lt zD).symm
  go_wp2_with fail
  go_ret
  exact ⟨rfl, (S2.out.al _).b⟩
theorem walk_no (u y m d a b p q r z0 z1 z2 f i j v g : Int) (hu : 0 ≤ u) (hu2 : u ≤ 255) (a1 : -2147483648 ≤ a) (a2 : a ≤ 2147483647) (b1 : -2147483648 ≤ b) (b2 : b ≤ 2147483647)
    (H1 : ∀ w, CTab w → Calls Tryd.prog 21 #[.int .i64 (1 + u % 2), dtv y m d, .int .i64 a] w fun e w' => e = .returned (datv p q r 0) ∧ Below w.heap.size w w')
    (H2 : ∀ w, CTab w → Calls Tryd.prog 21 #[.int .i64 (1 + u % 2), dtv p q r, .int .i64 b] w fun e w' => e = .returned (datv z0 z1 z2 f) ∧ Below w.heap.size w w')
    (H3 : ∀ w, CTab w → Calls Tryd.prog 21 #[.int .i64 (1 + u % 2), dtv y m d, .int .i64 (a + b)] w fun e w' => e = .returned (datv z0 z1 z2 f) ∧ Below w.heap.size w w')
    (H4 : ∀ w, CTab w → Calls Tryd.prog 21 #[.int .i64 (1 + u % 2), dtv y m d, .int .i64 1] w fun e w' => e = .returned (datv i j v g) ∧ Below w.heap.size w w')
    (hg : (g != 0) = true)
    (W : World) (ht : CTab W) :
    Calls Tryd.prog 6 #[.int .u8 u, dtv y m d, .int .i32 a, .int .i32 b] W fun e w' => e = .returned (.bool true) ∧ Below W.heap.size W w' := by
  have S0 := Lib.hid (St.start ht)
  clear ht
  go_enter Tryd.func6, Tryd.ntmps6
  go_wp2_with fail
  refine (c5awake_any _ (S0.out.al _).t).mono ?_
  rintro e w1 ⟨rfl, hb1⟩
  have S1 := Lib.hid ((S0.out.al _).on hb1)
  have RD1 := Lib.hid (row_on (heap_alloc_new _ _) hb1)
  obtain ⟨cD0, cD1, cD2, gD0, gD1, gD2, zD⟩ := row3 RD1.out
  clear hb1
  go_wp2_with fail
  refine (H1 _ S1.out.t).mono ?_
  rintro e w2 ⟨rfl, hb2⟩
  have S2 := Lib.hid (S1.out.on hb2)
  have RD2 := Lib.hid (row_on RD1.out hb2)
  clear RD1
  clear cD0 cD1 cD2 gD0 gD1 gD2 zD
  obtain ⟨cD0, cD1, cD2, gD0, gD1, gD2, zD⟩ := row3 RD2.out
  clear hb2
  have nDX := Nat.ne_of_lt zD
  have nXD := (Nat.ne_of_lt zD).symm
  go_wp2_with fail
  refine (H2 _ (S2.out.al _).t).mono ?_
  rintro e w3 ⟨rfl, hb3⟩
  have S3 := Lib.hid ((S2.out.al _).on hb3)
  have RD3 := Lib.hid (row_on (row_al RD2.out _) hb3)
  have RX3 := Lib.hid (row_on (heap_alloc_new _ _) hb3)
  clear RD2
  clear cD0 cD1 cD2 gD0 gD1 gD2 zD
  obtain ⟨cD0, cD1, cD2, gD0, gD1, gD2, zD⟩ := row3 RD3.out
  obtain ⟨cX0, cX1, cX2, gX0, gX1, gX2, zX⟩ := row3 RX3.out
  clear hb3
  have nDY := Nat.ne_of_lt zD
  have nYD := (Nat.ne_of_lt zD).symm
  have nXY := Nat.ne_of_lt zX
  have nYX := (Nat.ne_of_lt zX).symm
  go_wp2_with fail
  refine (H3 _ (S3.out.al _).t).mono ?_
  rintro e w4 ⟨rfl, hb4⟩
  have S4 := Lib.hid ((S3.out.al _).on hb4)
  have RD4 := Lib.hid (row_on (row_al RD3.out _) hb4)
  have RX4 := Lib.hid (row_on (row_al RX3.out _) hb4)
  have RY4 := Lib.hid (row_on (heap_alloc_new _ _) hb4)
  clear RD3 RX3
  clear cD0 cD1 cD2 gD0 gD1 gD2 zD
  obtain ⟨cD0, cD1, cD2, gD0, gD1, gD2, zD⟩ := row3 RD4.out
  clear cX0 cX1 cX2 gX0 gX1 gX2 zX
  obtain ⟨cX0, cX1, cX2, gX0, gX1, gX2, zX⟩ := row3 RX4.out
  obtain ⟨cY0, cY1, cY2, gY0, gY1, gY2, zY⟩ := row3 RY4.out
  clear hb4
  have nDZ := Nat.ne_of_lt zD
  have nZD := (Nat.ne_of_lt zD).symm
  have nXZ := Nat.ne_of_lt zX
  have nZX := (Nat.ne_of_lt zX).symm
  have nYZ := Nat.ne_of_lt zY
  have nZY := (Nat.ne_of_lt zY).symm
  go_wp2_with fail
  refine (H4 _ (S4.out.al _).t).mono ?_
  rintro e w5 ⟨rfl, hb5⟩
  have S5 := Lib.hid ((S4.out.al _).on hb5)
  have RD5 := Lib.hid (row_on (row_al RD4.out _) hb5)
  have RX5 := Lib.hid (row_on (row_al RX4.out _) hb5)
  have RY5 := Lib.hid (row_on (row_al RY4.out _) hb5)
  have RZ5 := Lib.hid (row_on (heap_alloc_new _ _) hb5)
  clear RD4 RX4 RY4
  clear cD0 cD1 cD2 gD0 gD1 gD2 zD
  obtain ⟨cD0, cD1, cD2, gD0, gD1, gD2, zD⟩ := row3 RD5.out
  clear cX0 cX1 cX2 gX0 gX1 gX2 zX
  obtain ⟨cX0, cX1, cX2, gX0, gX1, gX2, zX⟩ := row3 RX5.out
  clear cY0 cY1 cY2 gY0 gY1 gY2 zY
  obtain ⟨cY0, cY1, cY2, gY0, gY1, gY2, zY⟩ := row3 RY5.out
  obtain ⟨cZ0, cZ1, cZ2, gZ0, gZ1, gZ2, zZ⟩ := row3 RZ5.out
  clear hb5
  have nDN := Nat.ne_of_lt zD
  have nND := (Nat.ne_of_lt zD).symm
  have nXN := Nat.ne_of_lt zX
  have nNX := (Nat.ne_of_lt zX).symm
  have nYN := Nat.ne_of_lt zY
  have nNY := (Nat.ne_of_lt zY).symm
  have nZN := Nat.ne_of_lt zZ
  have nNZ := (Nat.ne_of_lt zZ).symm
  go_wp2_with fail
  go_quiet (fail)
  go_wp2
  go_ret
  exact ⟨rfl, below_dn (S5.out.al _).b _⟩
theorem walk_yes (u y m d a b p q r z0 z1 z2 f i j v : Int) (hu : 0 ≤ u) (hu2 : u ≤ 255) (a1 : -2147483648 ≤ a) (a2 : a ≤ 2147483647) (b1 : -2147483648 ≤ b) (b2 : b ≤ 2147483647)
    (H1 : ∀ w, CTab w → Calls Tryd.prog 21 #[.int .i64 (1 + u % 2), dtv y m d, .int .i64 a] w fun e w' => e = .returned (datv p q r 0) ∧ Below w.heap.size w w')
    (H2 : ∀ w, CTab w → Calls Tryd.prog 21 #[.int .i64 (1 + u % 2), dtv p q r, .int .i64 b] w fun e w' => e = .returned (datv z0 z1 z2 f) ∧ Below w.heap.size w w')
    (H3 : ∀ w, CTab w → Calls Tryd.prog 21 #[.int .i64 (1 + u % 2), dtv y m d, .int .i64 (a + b)] w fun e w' => e = .returned (datv z0 z1 z2 f) ∧ Below w.heap.size w w')
    (H4 : ∀ w, CTab w → Calls Tryd.prog 21 #[.int .i64 (1 + u % 2), dtv y m d, .int .i64 1] w fun e w' => e = .returned (datv i j v 0) ∧ Below w.heap.size w w')
    (l : Bool) (Hp : ∀ w, Calls Tryd.prog 26 #[.int .i64 (1 + u % 2), .int .i64 y] w fun e w' => e = .returned (.bool l) ∧ w = w')
    (Hx : ∀ w, Calls Tryd.prog 25 #[dtv y m d, .bool l] w fun e w' => e = .returned (dtv i j v) ∧ Below w.heap.size w w')
    (W : World) (ht : CTab W) :
    Calls Tryd.prog 6 #[.int .u8 u, dtv y m d, .int .i32 a, .int .i32 b] W fun e w' => e = .returned (.bool true) ∧ Below W.heap.size W w' := by
  have S0 := Lib.hid (St.start ht)
  clear ht
  go_enter Tryd.func6, Tryd.ntmps6
  go_wp2_with fail
  refine (c5awake_any _ (S0.out.al _).t).mono ?_
  rintro e w1 ⟨rfl, hb1⟩
  have S1 := Lib.hid ((S0.out.al _).on hb1)
  have RD1 := Lib.hid (row_on (heap_alloc_new _ _) hb1)
  obtain ⟨cD0, cD1, cD2, gD0, gD1, gD2, zD⟩ := row3 RD1.out
  clear hb1
  go_wp2_with fail
  refine (H1 _ S1.out.t).mono ?_
  rintro e w2 ⟨rfl, hb2⟩
  have S2 := Lib.hid (S1.out.on hb2)
  have RD2 := Lib.hid (row_on RD1.out hb2)
  clear RD1
  clear cD0 cD1 cD2 gD0 gD1 gD2 zD
  obtain ⟨cD0, cD1, cD2, gD0, gD1, gD2, zD⟩ := row3 RD2.out
  clear hb2
  have nDX := Nat.ne_of_lt zD
  have nXD := (Nat.ne_of_lt zD).symm
  go_wp2_with fail
  refine (H2 _ (S2.out.al _).t).mono ?_
  rintro e w3 ⟨rfl, hb3⟩
  have S3 := Lib.hid ((S2.out.al _).on hb3)
  have RD3 := Lib.hid (row_on (row_al RD2.out _) hb3)
  have RX3 := Lib.hid (row_on (heap_alloc_new _ _) hb3)
  clear RD2
  clear cD0 cD1 cD2 gD0 gD1 gD2 zD
  obtain ⟨cD0, cD1, cD2, gD0, gD1, gD2, zD⟩ := row3 RD3.out
  obtain ⟨cX0, cX1, cX2, gX0, gX1, gX2, zX⟩ := row3 RX3.out
  clear hb3
  have nDY := Nat.ne_of_lt zD
  have nYD := (Nat.ne_of_lt zD).symm
  have nXY := Nat.ne_of_lt zX
  have nYX := (Nat.ne_of_lt zX).symm
  go_wp2_with fail
  refine (H3 _ (S3.out.al _).t).mono ?_
  rintro e w4 ⟨rfl, hb4⟩
  have S4 := Lib.hid ((S3.out.al _).on hb4)
  have RD4 := Lib.hid (row_on (row_al RD3.out _) hb4)
  have RX4 := Lib.hid (row_on (row_al RX3.out _) hb4)
  have RY4 := Lib.hid (row_on (heap_alloc_new _ _) hb4)
  clear RD3 RX3
  clear cD0 cD1 cD2 gD0 gD1 gD2 zD
  obtain ⟨cD0, cD1, cD2, gD0, gD1, gD2, zD⟩ := row3 RD4.out
  clear cX0 cX1 cX2 gX0 gX1 gX2 zX
  obtain ⟨cX0, cX1, cX2, gX0, gX1, gX2, zX⟩ := row3 RX4.out
  obtain ⟨cY0, cY1, cY2, gY0, gY1, gY2, zY⟩ := row3 RY4.out
  clear hb4
  have nDZ := Nat.ne_of_lt zD
  have nZD := (Nat.ne_of_lt zD).symm
  have nXZ := Nat.ne_of_lt zX
  have nZX := (Nat.ne_of_lt zX).symm
  have nYZ := Nat.ne_of_lt zY
  have nZY := (Nat.ne_of_lt zY).symm
  go_wp2_with fail
  refine (H4 _ (S4.out.al _).t).mono ?_
  rintro e w5 ⟨rfl, hb5⟩
  have S5 := Lib.hid ((S4.out.al _).on hb5)
  have RD5 := Lib.hid (row_on (row_al RD4.out _) hb5)
  have RX5 := Lib.hid (row_on (row_al RX4.out _) hb5)
  have RY5 := Lib.hid (row_on (row_al RY4.out _) hb5)
  have RZ5 := Lib.hid (row_on (heap_alloc_new _ _) hb5)
  clear RD4 RX4 RY4
  clear cD0 cD1 cD2 gD0 gD1 gD2 zD
  obtain ⟨cD0, cD1, cD2, gD0, gD1, gD2, zD⟩ := row3 RD5.out
  clear cX0 cX1 cX2 gX0 gX1 gX2 zX
  obtain ⟨cX0, cX1, cX2, gX0, gX1, gX2, zX⟩ := row3 RX5.out
  clear cY0 cY1 cY2 gY0 gY1 gY2 zY
  obtain ⟨cY0, cY1, cY2, gY0, gY1, gY2, zY⟩ := row3 RY5.out
  obtain ⟨cZ0, cZ1, cZ2, gZ0, gZ1, gZ2, zZ⟩ := row3 RZ5.out
  clear hb5
  have nDN := Nat.ne_of_lt zD
  have nND := (Nat.ne_of_lt zD).symm
  have nXN := Nat.ne_of_lt zX
  have nNX := (Nat.ne_of_lt zX).symm
  have nYN := Nat.ne_of_lt zY
  have nNY := (Nat.ne_of_lt zY).symm
  have nZN := Nat.ne_of_lt zZ
  have nNZ := (Nat.ne_of_lt zZ).symm
  have qD := row3 (row_al RD5.out (Obj.cells #[.int .i64 i, .int .i64 j, .int .i64 v] 23))
  have qN := row3 (heap_alloc_new w5 (Obj.cells #[.int .i64 i, .int .i64 j, .int .i64 v] 23))
  have Hs := Lib.hid (show Two W W.heap.size (w5.heap.size) y m d i j v _ from ⟨qD.1, qD.2.1, qD.2.2.1, qN.1, qN.2.1, qN.2.2.1, (S5.out.al _).b⟩).drew
  have Hy := fun u (h : Two W W.heap.size (w5.heap.size) y m d i j v u) => (Hx u).mono (R' := fun e1 u' => e1 = .returned (dtv i j v) ∧ Two W W.heap.size (w5.heap.size) y m d i j v u') fun e1 u' ⟨he, hb⟩ => ⟨he, h.on hb⟩
  clear Hx qD qN
  go_wp2_with fail
  go_region_held3 (fun u => u.cell? ⟨W.heap.size, 0, none⟩ = some (.int .i64 y) ∧ u.cell? ⟨W.heap.size, 1, none⟩ = some (.int .i64 m) ∧ u.cell? ⟨W.heap.size, 2, none⟩ = some (.int .i64 d) ∧ u.cell? ⟨w5.heap.size, 0, none⟩ = some (.int .i64 i) ∧ u.cell? ⟨w5.heap.size, 1, none⟩ = some (.int .i64 j) ∧ u.cell? ⟨w5.heap.size, 2, none⟩ = some (.int .i64 v) ∧ Below W.heap.size W u)
    (first | exact Hs.out | assumption)
    (first | (go_at_call 26; refine (Hp _).mono ?_; rintro e1 w' ⟨rfl, rfl⟩) | (go_at_call 25; refine (Hy _ (by assumption)).mono ?_; rintro e1 w' ⟨rfl, hs'⟩))
  have B := Lib.hid hs'.2.2.2.2.2.2
  go_wp2
  go_ret
  exact ⟨rfl, B.out⟩
theorem walk (u y m d a b : Int) (w0 : (Lit.int .u8 u).wf = true) (w1 : (Lit.int .i64 y).wf = true) (w2 : (Lit.int .i64 m).wf = true) (w3 : (Lit.int .i64 d).wf = true) (w4 : (Lit.int .i32 a).wf = true) (w5 : (Lit.int .i32 b).wf = true) (W : World) (ht : CTab W) :
    Calls Tryd.prog 6 #[.int .u8 u, dtv y m d, .int .i32 a, .int .i32 b] W fun e w' => e = .returned (.bool true) ∧ Below W.heap.size W w' := by
  have hb := bounds_u8 w0
  have h1 := bounds_i32 w4
  have h2 := bounds_i32 w5
  have H1 := fun w ht => cshift_all (1 + u % 2) y m d w ht a (inR_iff.2 (by omega))
  have H3 := fun w ht => cshift_all (1 + u % 2) y m d w ht (a + b) (inR_iff.2 (by omega))
  have H4 := fun w ht => cshift_all (1 + u % 2) y m d w ht 1 (inR_iff.2 (by omega))
  by_cases h : sE (1 + u % 2) y m d a = 0
  · obtain ⟨s0, s1, s2, s3⟩ := sh_sum (b := b) h
    have H2 := fun w ht => cshift_all (1 + u % 2) (sY (1 + u % 2) y m d a) (sM (1 + u % 2) y m d a) (sD (1 + u % 2) y m d a) w ht b (inR_iff.2 (by omega))
    rw [s0, s1, s2, s3] at H2
    rw [h] at H1
    by_cases g : sE (1 + u % 2) y m d 1 = 0
    · rw [g] at H4
      obtain ⟨hq, hc, n1, n2, n3⟩ := sh_one g
      refine walk_yes u y m d a b _ _ _ _ _ _ _ _ _ _ hb.1 hb.2 h1.1 h1.2 h2.1 h2.2 H1 H2 H3 H4 _ (fun w => r5lp_any (1 + u % 2) y w hc (inR_iff.2 (by omega))) (fun w => ?_) W ht
      have := rnext_any y m d ((calOf (1 + u % 2)).lp y) w (by omega) (by omega) (by omega) (by omega) (by omega) (by omega)
      rw [n1, n2, n3] at this; exact this
    · exact walk_no u y m d a b _ _ _ _ _ _ _ _ _ _ _ hb.1 hb.2 h1.1 h1.2 h2.1 h2.2 H1 H2 H3 H4 (tE_ne g) W ht
  · exact walk_err u y m d a b _ _ _ _ hb.1 hb.2 h1.1 h1.2 h2.1 h2.2 H1 (tE_ne h) W ht

/-! ### the row's step -/
set_option maxRecDepth 100000 in
theorem lifted (os : Os) (started : os.Started) (H : Type) (enc : TypeId × Value → H) :
    ReturnsInHanded {} Tryd.checked os 6 .any (fun w args => (Rows.civilShiftSpec.pre enc Tryd.prog Tryd.f6 [] false w args ∧ laidMetH Tryd.prog laidL w) ∧ sizedMet enc Tryd.prog Tryd.f6 (OpenSpec.ofChange Rows.civilShiftSpec) false w args)
      (Rows.civilShiftSpec.post enc Tryd.prog Tryd.f6 false true false false) := by
  refine returnsInHanded_of_change_and (C := Tryd.checked) (X := fun w _ => laidMetH Tryd.prog laidL w) (fun _ _ _ hh h => h.of_heap hh) own started (by kernel_rfl) Tryd.func6
    (ChangeSpec.witness_shaped (enc := enc) (C := Tryd.checked) (os := os) (X := fun w _ => laidMetH Tryd.prog laidL w) false (World.doorLaid Tryd.prog 400 os) #[.int .u8 0, .agg #[.int .i64 0, .int .i64 0, .int .i64 0], .int .i32 0, .int .i32 0] 8 rfl (World.shaped_of_RefB (by kernel_rfl) (by kernel_rfl)) (by kernel_rfl) (by kernel_rfl) (by kernel_rfl) (door_met os _)) ?_
  intro W base args ds gs before hval0 hW _ _ hL _
  have hval : ∀ (j : Nat) t v, Tryd.f6.params[j]? = some t → args[j]? = some v → Value.okWide Tryd.prog W .any base t v := hval0
  have hW' := hW
  obtain ⟨p, q, hA0, hV, rfl, hfz, hnd⟩ := hW
  have hA : DataW.TrodAll enc Tryd.prog W 0 (fun _ => true) true Tryd.f6.params.toList args.toList ds p := hA0
  rw [Tryd.params6] at hA hval
  obtain ⟨v0, vs0, d0, ds0, p0, q0, hargs, rfl, rfl, h0, r0⟩ := trodAll_cons hA
  obtain ⟨v1, vs1, d1, ds1, p1, q1, rfl, rfl, rfl, h1, r1⟩ := trodAll_cons r0
  obtain ⟨v2, vs2, d2, ds2, p2, q2, rfl, rfl, rfl, h2, r2⟩ := trodAll_cons r1
  obtain ⟨v3, vs3, d3, ds3, p3, q3, rfl, rfl, rfl, h3, r3⟩ := trodAll_cons r2
  obtain ⟨rfl, rfl, rfl⟩ := trodAll_nil r3
  obtain rfl : args = #[v0, v1, v2, v3] := by cases args; simp_all
  obtain ⟨rfl, rfl⟩ := trodVars_none hV
  obtain ⟨a0, rfl, rfl, rfl, w0⟩ := open_int Tryd.underlying5 (hval 0 5 v0 rfl rfl) h0
  obtain ⟨c1_0, c1_1, c1_2, y1_0, y1_1, y1_2, m1, rfl, rfl, rfl, hy1_0, hy1_1, hy1_2⟩ := open_agg3 Tryd.underlying23 (by kernel_rfl) (show Tryd.prog.cellsOf 23 = 3 by kernel_rfl) (hval 1 23 v1 rfl rfl) h1
  obtain ⟨f1_0, e1_0, rfl, w1_0⟩ := DataW.trod_int Tryd.underlying3 hy1_0
  simp at e1_0; subst e1_0
  obtain ⟨f1_1, e1_1, rfl, w1_1⟩ := DataW.trod_int Tryd.underlying3 hy1_1
  simp at e1_1; subst e1_1
  obtain ⟨f1_2, e1_2, rfl, w1_2⟩ := DataW.trod_int Tryd.underlying3 hy1_2
  simp at e1_2; subst e1_2
  obtain ⟨a2, rfl, rfl, rfl, w2⟩ := open_int Tryd.underlying21 (hval 2 21 v2 rfl rfl) h2
  obtain ⟨a3, rfl, rfl, rfl, w3⟩ := open_int Tryd.underlying21 (hval 3 21 v3 rfl rfl) h3
  clear hA0 hval0
  simp only [List.append_nil] at hW'
  have sr1 : ∀ (W' : World) (sp : Nat → Bool), DataW.Trod enc Tryd.prog W' 0 sp true 23 (.agg #[.int .i64 f1_0, .int .i64 f1_1, .int .i64 f1_2]) (.agg [.lit (.int .i64 f1_0), .lit (.int .i64 f1_1), .lit (.int .i64 f1_2)]) [] := fun W' sp =>
    shut_agg3 (y0 := (.lit (.int .i64 f1_0), [])) (y1 := (.lit (.int .i64 f1_1), [])) (y2 := (.lit (.int .i64 f1_2), [])) Tryd.underlying23 (by kernel_rfl) (show Tryd.prog.cellsOf 23 = 3 by kernel_rfl) ⟨1, by simp [DataW.trod, Tryd.underlying3, w1_0]⟩ ⟨1, by simp [DataW.trod, Tryd.underlying3, w1_1]⟩ ⟨1, by simp [DataW.trod, Tryd.underlying3, w1_2]⟩
  refine (walk a0 f1_0 f1_1 f1_2 a2 a3 w0 w1_0 w1_1 w1_2 w2 w3 W (laid_facts hL)).mono fun e W' ⟨he, bel⟩ => ?_
  subst he
  exact ⟨_, rfl, _, _, _, [], _, [], hW', trodAll_mk1 (shut_bool Tryd.underlying4 _), (trodAll_cons_mk (shut_int Tryd.underlying5 w0) (trodAll_cons_mk (sr1 _ _) (trodAll_cons_mk (shut_int Tryd.underlying21 w2) (trodAll_cons_mk (shut_int Tryd.underlying21 w3) trodAll_mk0)))), rfl, bel.frame _, fun h => by cases h⟩

theorem over : Rows.civilShiftRow.holds Tryd.pinned (OpenSpec.ofChange Rows.civilShiftSpec) :=
  OpenClaim.holds_of_wide 6 Tryd.f6 rfl rfl rfl rfl rfl rfl rfl ⟨rfl, rfl, rfl, rfl, rfl⟩ rfl rfl rfl rfl rfl (by kernel_rfl) Tryd.func6 (by kernel_rfl)
    (of_decide_eq_true (by kernel_rfl)) (by unfold Func.isWrapper; first | (rw [if_pos (by decide +kernel)]; kernel_rfl) | (rw [if_neg (by decide +kernel)]; exact ⟨rfl, rfl⟩))
    (fun os started H enc _ => lifted os started H enc)

/-- The statement: the tied card. -/
theorem proved : Rows.CivilShiftCardSaid :=
  Claim7.holds_tied_plain_at .later [] [.data, .data, .data] true (true, "9484c15c1b8584f9bd4f7ea5aa595545c02681c034fbe158da6ebf60820e8177") false
    over (fun _ h => by cases h) (by kernel_rfl) (fun _ h => by cases h) civilShift_row_tie rfl ⟨rfl, rfl⟩ (by kernel_rfl) rfl
    (fun f fn hf hfn => by
      obtain rfl : f = 6 := Option.some.inj ((show Tryd.prog.funcNamed "computus/computuslaw05.CivilShift" = some 6 by kernel_rfl).symm.trans hf) |>.symm
      obtain rfl : fn = Tryd.f6 := (Option.some.inj (Tryd.func6.symm.trans hfn)).symm
      exact ⟨by kernel_rfl, fun j t ht => by
        rw [Tryd.params6] at ht
        have hm : t ∈ [5, 23, 21, 21] := by simpa using Array.mem_of_getElem? ht
        have hall : ([5, 23, 21, 21].all fun u => !Tryd.prog.wantsStandIn u) = true := by kernel_rfl
        exact (show Tryd.prog.wantsStandIn t = false by simpa using List.all_eq_true.1 hall t hm)⟩)
    (by kernel_rfl)
#print axioms proved
end Go.Proofs.YtdnglkccdmlplaaDoor.civilShift
