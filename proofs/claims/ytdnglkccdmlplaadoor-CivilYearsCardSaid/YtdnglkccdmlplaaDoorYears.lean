/- Proved: for every byte c, every date d of three 64-bit integers and every 64-bit integer day, the law CivilYears of package computuslaw05 (the days of a year are numbered from 1 to its length, and each date comes back from its number) returns true, and what was in memory is as it was. Condition: the tables of months and groups read as the program's text lays them (the card ties them). -/
import Derived.Test.YtdnglkccdmlplaaDoorCq
import Derived.Test.YtdnglkccdmlplaaDoorVy
import Derived.WalkKit
import Derived.ProofKit
import Derived.OpenShut
import Derived.ShutString
import Derived.Lib.SmallJoins
import Derived.LaidMore
import Derived.Stop.Joined
import Derived.SevenTiedAt
import Derived.Test.YtdnglkccdmlplaaDoorCards
import Derived.Test.YtdnglkccdmlplaaDoorTie
namespace Go.Proofs.YtdnglkccdmlplaaDoor.civilYears
open Go.ChangeShapes Go.WideShapes Go.ChangeAt Go.RowKit Go.Joins
open Go.ChangeMaps (open_string shut_string)
set_option linter.unusedVariables false      -- a walk need not use every fact

theorem kfacts {u : Int} (hu : 0 ≤ u) (hu2 : u ≤ 255) : okC (1 + u % 2) = true ∧ okC (3 - (1 + u % 2)) = true := by
  exact ⟨okC_iff.2 (by omega), okC_iff.2 (by omega)⟩
/-- The date of a day of the year, and back. -/
theorem fy_at {c y m d s : Int} (hc : okC c = true) (hv : (calOf c).vld y m d = true) (hs : cum ((calOf c).lp y) m + d = s) :
    xE c y s = 0 ∧ xY c y s = y ∧ xM c y s = m ∧ xD c y s = d ∧ yE c y = 0 ∧ 1 ≤ s ∧ s ≤ yN c y := by
  have hi := (calOf c).vld_iff.1 hv
  obtain ⟨m1, m2⟩ := (calOf c).vld_month hv
  have hd := (calOf c).doy_bd hv
  have hl := l01_bd ((calOf c).lp y)
  have y0 : yE c y = 0 := by unfold yE; rw [if_pos hc, if_pos (inY_iff.2 ⟨hi.1, hi.2.1⟩)]
  have y1 : yN c y = 365 + l01 ((calOf c).lp y) := by unfold yN; rw [if_pos y0]
  have e0 : xE c y s = 0 := by unfold xE; rw [if_pos y0, if_pos ⟨by omega, by omega⟩]
  obtain ⟨_, f1, f2, f3⟩ := fE_at (n := (calOf c).fst y + s - 1) hc hv (by unfold Cal.num; omega)
  refine ⟨e0, ?_, ?_, ?_, y0, by omega, by omega⟩
  · unfold xY; rw [if_pos e0, f1]
  · unfold xM; rw [if_pos e0, f2]
  · unfold xD; rw [if_pos e0, f3]
theorem fy_of {c y s : Int} (h : xE c y s = 0) : tE c (xY c y s) (xM c y s) (xD c y s) = 0 ∧ oN c (xY c y s) (xM c y s) (xD c y s) = s := by
  have h0 := h
  unfold xE at h
  split at h
  · rename_i y0
    split at h
    · rename_i hs
      obtain ⟨hc, hy, hn⟩ := yE_zero y0
      have hi := inY_iff.1 hy
      obtain ⟨m, m1, m2, m3, m4⟩ := month_exists ((calOf c).lp y) (s - 1) (by omega) (by omega)
      have hv : (calOf c).vld y m (s - cum ((calOf c).lp y) m) = true := (calOf c).vld_iff.2 ⟨hi.1, hi.2, by omega, by omega⟩
      obtain ⟨_, f1, f2, f3, _, _, _⟩ := fy_at (s := s) hc hv (by omega)
      rw [f1, f2, f3]
      have t0 := (tE_at hc hv).1
      exact ⟨t0, by unfold oN; rw [if_pos t0]; omega⟩
    · cases h
  · rename_i y0; exact absurd h y0
theorem walk_00 (u y m d s n k l p q r h : Int) (hu : 0 ≤ u) (hu2 : u ≤ 255)
    (H1 : ∀ w, CTab w → Calls Tryd.prog 15 #[.int .i64 (1 + u % 2), dtv y m d] w fun e w' => e = .returned (numv n k) ∧ Below w.heap.size w w')
    (hk : (k == 0) = false)
    (H4 : ∀ w, CTab w → Calls Tryd.prog 17 #[.int .i64 (1 + u % 2), .int .i64 y, .int .i64 s] w fun e w' => e = .returned (datv p q r h) ∧ Below w.heap.size w w')
    (hh : (h != 0) = true)
    (W : World) (ht : CTab W) :
    Calls Tryd.prog 5 #[.int .u8 u, dtv y m d, .int .i64 s] W fun e w' => e = .returned (.bool true) ∧ Below W.heap.size W w' := by
  have S0 := Lib.hid (St.start ht)
  clear ht
  go_enter Tryd.func5, Tryd.ntmps5
  go_wp2_with fail
  refine (c5awake_any _ (S0.out.al _).t).mono ?_
  rintro e w1 ⟨rfl, hb1⟩
  have S1 := Lib.hid ((S0.out.al _).on hb1)
  have RD1 := Lib.hid (row_on (heap_alloc_new _ _) hb1)
  obtain ⟨cD0, cD1, cD2, gD0, gD1, gD2, zD⟩ := row3 RD1.out
  clear hb1
  go_wp2_with fail
  refine (H1 _ S1.out.t).mono ?_
  rintro e w2 ⟨rfl, hb2⟩
  have S2 := Lib.hid (S1.out.on hb2)
  have RD2 := Lib.hid (row_on RD1.out hb2)
  clear RD1
  clear cD0 cD1 cD2 gD0 gD1 gD2 zD
  obtain ⟨cD0, cD1, cD2, gD0, gD1, gD2, zD⟩ := row3 RD2.out
  clear hb2
  go_wp2_with fail
  refine (H4 _ S2.out.t).mono ?_
  rintro e w3 ⟨rfl, hb3⟩
  have S3 := Lib.hid (S2.out.on hb3)
  have RD3 := Lib.hid (row_on RD2.out hb3)
  clear RD2
  clear cD0 cD1 cD2 gD0 gD1 gD2 zD
  obtain ⟨cD0, cD1, cD2, gD0, gD1, gD2, zD⟩ := row3 RD3.out
  clear hb3
  have nDZ := Nat.ne_of_lt zD
  have nZD := (Nat.ne_of_lt zD).symm
  go_wp2_with fail
  go_ret
  exact ⟨rfl, (S3.out.al _).b⟩
theorem walk_01 (u y m d s n k l p q r h : Int) (hu : 0 ≤ u) (hu2 : u ≤ 255)
    (H1 : ∀ w, CTab w → Calls Tryd.prog 15 #[.int .i64 (1 + u % 2), dtv y m d] w fun e w' => e = .returned (numv n k) ∧ Below w.heap.size w w')
    (hk : (k == 0) = false)
    (H4 : ∀ w, CTab w → Calls Tryd.prog 17 #[.int .i64 (1 + u % 2), .int .i64 y, .int .i64 s] w fun e w' => e = .returned (datv p q r 0) ∧ Below w.heap.size w w')
    (H5 : ∀ w, CTab w → Calls Tryd.prog 15 #[.int .i64 (1 + u % 2), dtv p q r] w fun e w' => e = .returned (numv s 0) ∧ Below w.heap.size w w')
    (W : World) (ht : CTab W) :
    Calls Tryd.prog 5 #[.int .u8 u, dtv y m d, .int .i64 s] W fun e w' => e = .returned (.bool true) ∧ Below W.heap.size W w' := by
  have S0 := Lib.hid (St.start ht)
  clear ht
  go_enter Tryd.func5, Tryd.ntmps5
  go_wp2_with fail
  refine (c5awake_any _ (S0.out.al _).t).mono ?_
  rintro e w1 ⟨rfl, hb1⟩
  have S1 := Lib.hid ((S0.out.al _).on hb1)
  have RD1 := Lib.hid (row_on (heap_alloc_new _ _) hb1)
  obtain ⟨cD0, cD1, cD2, gD0, gD1, gD2, zD⟩ := row3 RD1.out
  clear hb1
  go_wp2_with fail
  refine (H1 _ S1.out.t).mono ?_
  rintro e w2 ⟨rfl, hb2⟩
  have S2 := Lib.hid (S1.out.on hb2)
  have RD2 := Lib.hid (row_on RD1.out hb2)
  clear RD1
  clear cD0 cD1 cD2 gD0 gD1 gD2 zD
  obtain ⟨cD0, cD1, cD2, gD0, gD1, gD2, zD⟩ := row3 RD2.out
  clear hb2
  go_wp2_with fail
  refine (H4 _ S2.out.t).mono ?_
  rintro e w3 ⟨rfl, hb3⟩
  have S3 := Lib.hid (S2.out.on hb3)
  have RD3 := Lib.hid (row_on RD2.out hb3)
  clear RD2
  clear cD0 cD1 cD2 gD0 gD1 gD2 zD
  obtain ⟨cD0, cD1, cD2, gD0, gD1, gD2, zD⟩ := row3 RD3.out
  clear hb3
  have nDZ := Nat.ne_of_lt zD
  have nZD := (Nat.ne_of_lt zD).symm
  go_wp2_with fail
  refine (H5 _ (S3.out.al _).t).mono ?_
  rintro e w4 ⟨rfl, hb4⟩
  have S4 := Lib.hid ((S3.out.al _).on hb4)
  have RD4 := Lib.hid (row_on (row_al RD3.out _) hb4)
  have RZ4 := Lib.hid (row_on (heap_alloc_new _ _) hb4)
  clear RD3
  clear cD0 cD1 cD2 gD0 gD1 gD2 zD
  obtain ⟨cD0, cD1, cD2, gD0, gD1, gD2, zD⟩ := row3 RD4.out
  obtain ⟨cZ0, cZ1, cZ2, gZ0, gZ1, gZ2, zZ⟩ := row3 RZ4.out
  clear hb4
  go_wp2_with fail
  go_ret
  exact ⟨rfl, S4.out.b⟩
theorem walk_10 (u y m d s n k l p q r h : Int) (hu : 0 ≤ u) (hu2 : u ≤ 255)
    (H1 : ∀ w, CTab w → Calls Tryd.prog 15 #[.int .i64 (1 + u % 2), dtv y m d] w fun e w' => e = .returned (numv n 0) ∧ Below w.heap.size w w')
    (H2 : ∀ w, CTab w → Calls Tryd.prog 17 #[.int .i64 (1 + u % 2), .int .i64 y, .int .i64 n] w fun e w' => e = .returned (datv y m d 0) ∧ Below w.heap.size w w')
    (H3 : ∀ w, CTab w → Calls Tryd.prog 19 #[.int .i64 (1 + u % 2), .int .i64 y] w fun e w' => e = .returned (numv l 0) ∧ Below w.heap.size w w')
    (n1 : 1 ≤ n) (n2 : n ≤ l)
    (H4 : ∀ w, CTab w → Calls Tryd.prog 17 #[.int .i64 (1 + u % 2), .int .i64 y, .int .i64 s] w fun e w' => e = .returned (datv p q r h) ∧ Below w.heap.size w w')
    (hh : (h != 0) = true)
    (W : World) (ht : CTab W) :
    Calls Tryd.prog 5 #[.int .u8 u, dtv y m d, .int .i64 s] W fun e w' => e = .returned (.bool true) ∧ Below W.heap.size W w' := by
  have n3 : ¬ n < 1 := by omega
  have n4 : ¬ l < n := by omega
  have S0 := Lib.hid (St.start ht)
  clear ht
  go_enter Tryd.func5, Tryd.ntmps5
  go_wp2_with fail
  refine (c5awake_any _ (S0.out.al _).t).mono ?_
  rintro e w1 ⟨rfl, hb1⟩
  have S1 := Lib.hid ((S0.out.al _).on hb1)
  have RD1 := Lib.hid (row_on (heap_alloc_new _ _) hb1)
  obtain ⟨cD0, cD1, cD2, gD0, gD1, gD2, zD⟩ := row3 RD1.out
  clear hb1
  go_wp2_with fail
  refine (H1 _ S1.out.t).mono ?_
  rintro e w2 ⟨rfl, hb2⟩
  have S2 := Lib.hid (S1.out.on hb2)
  have RD2 := Lib.hid (row_on RD1.out hb2)
  clear RD1
  clear cD0 cD1 cD2 gD0 gD1 gD2 zD
  obtain ⟨cD0, cD1, cD2, gD0, gD1, gD2, zD⟩ := row3 RD2.out
  clear hb2
  go_wp2_with fail
  refine (H2 _ S2.out.t).mono ?_
  rintro e w3 ⟨rfl, hb3⟩
  have S3 := Lib.hid (S2.out.on hb3)
  have RD3 := Lib.hid (row_on RD2.out hb3)
  clear RD2
  clear cD0 cD1 cD2 gD0 gD1 gD2 zD
  obtain ⟨cD0, cD1, cD2, gD0, gD1, gD2, zD⟩ := row3 RD3.out
  clear hb3
  have nDX := Nat.ne_of_lt zD
  have nXD := (Nat.ne_of_lt zD).symm
  go_wp2_with fail
  refine (H3 _ (S3.out.al _).t).mono ?_
  rintro e w4 ⟨rfl, hb4⟩
  have S4 := Lib.hid ((S3.out.al _).on hb4)
  have RD4 := Lib.hid (row_on (row_al RD3.out _) hb4)
  have RX4 := Lib.hid (row_on (heap_alloc_new _ _) hb4)
  clear RD3
  clear cD0 cD1 cD2 gD0 gD1 gD2 zD
  obtain ⟨cD0, cD1, cD2, gD0, gD1, gD2, zD⟩ := row3 RD4.out
  obtain ⟨cX0, cX1, cX2, gX0, gX1, gX2, zX⟩ := row3 RX4.out
  clear hb4
  go_wp2_with fail
  refine (H4 _ S4.out.t).mono ?_
  rintro e w5 ⟨rfl, hb5⟩
  have S5 := Lib.hid (S4.out.on hb5)
  have RD5 := Lib.hid (row_on RD4.out hb5)
  have RX5 := Lib.hid (row_on RX4.out hb5)
  clear RD4 RX4
  clear cD0 cD1 cD2 gD0 gD1 gD2 zD
  obtain ⟨cD0, cD1, cD2, gD0, gD1, gD2, zD⟩ := row3 RD5.out
  clear cX0 cX1 cX2 gX0 gX1 gX2 zX
  obtain ⟨cX0, cX1, cX2, gX0, gX1, gX2, zX⟩ := row3 RX5.out
  clear hb5
  have nDZ := Nat.ne_of_lt zD
  have nZD := (Nat.ne_of_lt zD).symm
  have nXZ := Nat.ne_of_lt zX
  have nZX := (Nat.ne_of_lt zX).symm
  go_wp2_with fail
  go_ret
  exact ⟨rfl, (S5.out.al _).b⟩
theorem walk_11 (u y m d s n k l p q r h : Int) (hu : 0 ≤ u) (hu2 : u ≤ 255)
    (H1 : ∀ w, CTab w → Calls Tryd.prog 15 #[.int .i64 (1 + u % 2), dtv y m d] w fun e w' => e = .returned (numv n 0) ∧ Below w.heap.size w w')
    (H2 : ∀ w, CTab w → Calls Tryd.prog 17 #[.int .i64 (1 + u % 2), .int .i64 y, .int .i64 n] w fun e w' => e = .returned (datv y m d 0) ∧ Below w.heap.size w w')
    (H3 : ∀ w, CTab w → Calls Tryd.prog 19 #[.int .i64 (1 + u % 2), .int .i64 y] w fun e w' => e = .returned (numv l 0) ∧ Below w.heap.size w w')
    (n1 : 1 ≤ n) (n2 : n ≤ l)
    (H4 : ∀ w, CTab w → Calls Tryd.prog 17 #[.int .i64 (1 + u % 2), .int .i64 y, .int .i64 s] w fun e w' => e = .returned (datv p q r 0) ∧ Below w.heap.size w w')
    (H5 : ∀ w, CTab w → Calls Tryd.prog 15 #[.int .i64 (1 + u % 2), dtv p q r] w fun e w' => e = .returned (numv s 0) ∧ Below w.heap.size w w')
    (W : World) (ht : CTab W) :
    Calls Tryd.prog 5 #[.int .u8 u, dtv y m d, .int .i64 s] W fun e w' => e = .returned (.bool true) ∧ Below W.heap.size W w' := by
  have n3 : ¬ n < 1 := by omega
  have n4 : ¬ l < n := by omega
  have S0 := Lib.hid (St.start ht)
  clear ht
  go_enter Tryd.func5, Tryd.ntmps5
  go_wp2_with fail
  refine (c5awake_any _ (S0.out.al _).t).mono ?_
  rintro e w1 ⟨rfl, hb1⟩
  have S1 := Lib.hid ((S0.out.al _).on hb1)
  have RD1 := Lib.hid (row_on (heap_alloc_new _ _) hb1)
  obtain ⟨cD0, cD1, cD2, gD0, gD1, gD2, zD⟩ := row3 RD1.out
  clear hb1
  go_wp2_with fail
  refine (H1 _ S1.out.t).mono ?_
  rintro e w2 ⟨rfl, hb2⟩
  have S2 := Lib.hid (S1.out.on hb2)
  have RD2 := Lib.hid (row_on RD1.out hb2)
  clear RD1
  clear cD0 cD1 cD2 gD0 gD1 gD2 zD
  obtain ⟨cD0, cD1, cD2, gD0, gD1, gD2, zD⟩ := row3 RD2.out
  clear hb2
  go_wp2_with fail
  refine (H2 _ S2.out.t).mono ?_
  rintro e w3 ⟨rfl, hb3⟩
  have S3 := Lib.hid (S2.out.on hb3)
  have RD3 := Lib.hid (row_on RD2.out hb3)
  clear RD2
  clear cD0 cD1 cD2 gD0 gD1 gD2 zD
  obtain ⟨cD0, cD1, cD2, gD0, gD1, gD2, zD⟩ := row3 RD3.out
  clear hb3
  have nDX := Nat.ne_of_lt zD
  have nXD := (Nat.ne_of_lt zD).symm
  go_wp2_with fail
  refine (H3 _ (S3.out.al _).t).mono ?_
  rintro e w4 ⟨rfl, hb4⟩
  have S4 := Lib.hid ((S3.out.al _).on hb4)
  have RD4 := Lib.hid (row_on (row_al RD3.out _) hb4)
  have RX4 := Lib.hid (row_on (heap_alloc_new _ _) hb4)
  clear RD3
  clear cD0 cD1 cD2 gD0 gD1 gD2 zD
  obtain ⟨cD0, cD1, cD2, gD0, gD1, gD2, zD⟩ := row3 RD4.out
  obtain ⟨cX0, cX1, cX2, gX0, gX1, gX2, zX⟩ := row3 RX4.out
  clear hb4
  go_wp2_with fail
  refine (H4 _ S4.out.t).mono ?_
  rintro e w5 ⟨rfl, hb5⟩
  have S5 := Lib.hid (S4.out.on hb5)
  have RD5 := Lib.hid (row_on RD4.out hb5)
  have RX5 := Lib.hid (row_on RX4.out hb5)
  clear RD4 RX4
  clear cD0 cD1 cD2 gD0 gD1 gD2 zD
  obtain ⟨cD0, cD1, cD2, gD0, gD1, gD2, zD⟩ := row3 RD5.out
  clear cX0 cX1 cX2 gX0 gX1 gX2 zX
  obtain ⟨cX0, cX1, cX2, gX0, gX1, gX2, zX⟩ := row3 RX5.out
  clear hb5
  have nDZ := Nat.ne_of_lt zD
  have nZD := (Nat.ne_of_lt zD).symm
  have nXZ := Nat.ne_of_lt zX
  have nZX := (Nat.ne_of_lt zX).symm
  go_wp2_with fail
  refine (H5 _ (S5.out.al _).t).mono ?_
  rintro e w6 ⟨rfl, hb6⟩
  have S6 := Lib.hid ((S5.out.al _).on hb6)
  have RD6 := Lib.hid (row_on (row_al RD5.out _) hb6)
  have RX6 := Lib.hid (row_on (row_al RX5.out _) hb6)
  have RZ6 := Lib.hid (row_on (heap_alloc_new _ _) hb6)
  clear RD5 RX5
  clear cD0 cD1 cD2 gD0 gD1 gD2 zD
  obtain ⟨cD0, cD1, cD2, gD0, gD1, gD2, zD⟩ := row3 RD6.out
  clear cX0 cX1 cX2 gX0 gX1 gX2 zX
  obtain ⟨cX0, cX1, cX2, gX0, gX1, gX2, zX⟩ := row3 RX6.out
  obtain ⟨cZ0, cZ1, cZ2, gZ0, gZ1, gZ2, zZ⟩ := row3 RZ6.out
  clear hb6
  go_wp2_with fail
  go_ret
  exact ⟨rfl, S6.out.b⟩
theorem walk (u y m d s : Int) (w0 : (Lit.int .u8 u).wf = true) (w1 : (Lit.int .i64 y).wf = true) (w2 : (Lit.int .i64 m).wf = true) (w3 : (Lit.int .i64 d).wf = true) (w4 : (Lit.int .i64 s).wf = true) (W : World) (ht : CTab W) :
    Calls Tryd.prog 5 #[.int .u8 u, dtv y m d, .int .i64 s] W fun e w' => e = .returned (.bool true) ∧ Below W.heap.size W w' := by
  have hb := bounds_u8 w0
  have hK := (kfacts hb.1 hb.2).1
  have H4 := fun w ht => cfy_all (1 + u % 2) y w ht s
  have H5 : xE (1 + u % 2) y s = 0 → ∀ w, CTab w → Calls Tryd.prog 15 #[.int .i64 (1 + u % 2), dtv (xY (1 + u % 2) y s) (xM (1 + u % 2) y s) (xD (1 + u % 2) y s)] w fun e w' => e = .returned (numv s 0) ∧ Below w.heap.size w w' := fun h w ht => by
    obtain ⟨t0, o0⟩ := fy_of h
    have := cofy_all (1 + u % 2) (xY (1 + u % 2) y s) (xM (1 + u % 2) y s) (xD (1 + u % 2) y s) w ht; rw [t0, o0] at this; exact this
  by_cases h : tE (1 + u % 2) y m d = 0
  · obtain ⟨_, hv, _⟩ := tE_zero h
    have e0 : oN (1 + u % 2) y m d = cum ((calOf (1 + u % 2)).lp y) m + d := by unfold oN; rw [if_pos h]
    obtain ⟨f0, f1, f2, f3, y0, n1, n2⟩ := fy_at hK hv e0.symm
    have H1 : ∀ w, CTab w → Calls Tryd.prog 15 #[.int .i64 (1 + u % 2), dtv y m d] w fun e w' => e = .returned (numv (oN (1 + u % 2) y m d) 0) ∧ Below w.heap.size w w' := fun w ht => by
      have := cofy_all (1 + u % 2) y m d w ht; rw [h] at this; exact this
    have H2 : ∀ w, CTab w → Calls Tryd.prog 17 #[.int .i64 (1 + u % 2), .int .i64 y, .int .i64 (oN (1 + u % 2) y m d)] w fun e w' => e = .returned (datv y m d 0) ∧ Below w.heap.size w w' := fun w ht => by
      have := cfy_all (1 + u % 2) y w ht (oN (1 + u % 2) y m d); rw [f0, f1, f2, f3] at this; exact this
    have H3 : ∀ w, CTab w → Calls Tryd.prog 19 #[.int .i64 (1 + u % 2), .int .i64 y] w fun e w' => e = .returned (numv (yN (1 + u % 2) y) 0) ∧ Below w.heap.size w w' := fun w ht => by
      have := cylen_all (1 + u % 2) y w ht; rw [y0] at this; exact this
    by_cases g : xE (1 + u % 2) y s = 0
    · rw [g] at H4
      exact walk_11 u y m d s _ 0 _ _ _ _ 0 hb.1 hb.2 H1 H2 H3 n1 n2 H4 (H5 g) W ht
    · exact walk_10 u y m d s _ 0 _ _ _ _ _ hb.1 hb.2 H1 H2 H3 n1 n2 H4 (tE_ne g) W ht
  · have H1 := fun w ht => cofy_all (1 + u % 2) y m d w ht
    have hk : (tE (1 + u % 2) y m d == 0) = false := by simpa using h
    by_cases g : xE (1 + u % 2) y s = 0
    · rw [g] at H4
      exact walk_01 u y m d s _ _ 0 _ _ _ 0 hb.1 hb.2 H1 hk H4 (H5 g) W ht
    · exact walk_00 u y m d s _ _ 0 _ _ _ _ hb.1 hb.2 H1 hk H4 (tE_ne g) W ht

/-! ### the row's step -/
set_option maxRecDepth 100000 in
theorem lifted (os : Os) (started : os.Started) (H : Type) (enc : TypeId × Value → H) :
    ReturnsInHanded {} Tryd.checked os 5 .any (fun w args => (Rows.civilYearsSpec.pre enc Tryd.prog Tryd.f5 [] false w args ∧ laidMetH Tryd.prog laidL w) ∧ sizedMet enc Tryd.prog Tryd.f5 (OpenSpec.ofChange Rows.civilYearsSpec) false w args)
      (Rows.civilYearsSpec.post enc Tryd.prog Tryd.f5 false true false false) := by
  refine returnsInHanded_of_change_and (C := Tryd.checked) (X := fun w _ => laidMetH Tryd.prog laidL w) (fun _ _ _ hh h => h.of_heap hh) own started (by kernel_rfl) Tryd.func5
    (ChangeSpec.witness_shaped (enc := enc) (C := Tryd.checked) (os := os) (X := fun w _ => laidMetH Tryd.prog laidL w) false (World.doorLaid Tryd.prog 400 os) #[.int .u8 0, .agg #[.int .i64 0, .int .i64 0, .int .i64 0], .int .i64 0] 8 rfl (World.shaped_of_RefB (by kernel_rfl) (by kernel_rfl)) (by kernel_rfl) (by kernel_rfl) (by kernel_rfl) (door_met os _)) ?_
  intro W base args ds gs before hval0 hW _ _ hL _
  have hval : ∀ (j : Nat) t v, Tryd.f5.params[j]? = some t → args[j]? = some v → Value.okWide Tryd.prog W .any base t v := hval0
  have hW' := hW
  obtain ⟨p, q, hA0, hV, rfl, hfz, hnd⟩ := hW
  have hA : DataW.TrodAll enc Tryd.prog W 0 (fun _ => true) true Tryd.f5.params.toList args.toList ds p := hA0
  rw [Tryd.params5] at hA hval
  obtain ⟨v0, vs0, d0, ds0, p0, q0, hargs, rfl, rfl, h0, r0⟩ := trodAll_cons hA
  obtain ⟨v1, vs1, d1, ds1, p1, q1, rfl, rfl, rfl, h1, r1⟩ := trodAll_cons r0
  obtain ⟨v2, vs2, d2, ds2, p2, q2, rfl, rfl, rfl, h2, r2⟩ := trodAll_cons r1
  obtain ⟨rfl, rfl, rfl⟩ := trodAll_nil r2
  obtain rfl : args = #[v0, v1, v2] := by cases args; simp_all
  obtain ⟨rfl, rfl⟩ := trodVars_none hV
  obtain ⟨a0, rfl, rfl, rfl, w0⟩ := open_int Tryd.underlying5 (hval 0 5 v0 rfl rfl) h0
  obtain ⟨c1_0, c1_1, c1_2, y1_0, y1_1, y1_2, m1, rfl, rfl, rfl, hy1_0, hy1_1, hy1_2⟩ := open_agg3 Tryd.underlying23 (by kernel_rfl) (show Tryd.prog.cellsOf 23 = 3 by kernel_rfl) (hval 1 23 v1 rfl rfl) h1
  obtain ⟨f1_0, e1_0, rfl, w1_0⟩ := DataW.trod_int Tryd.underlying3 hy1_0
  simp at e1_0; subst e1_0
  obtain ⟨f1_1, e1_1, rfl, w1_1⟩ := DataW.trod_int Tryd.underlying3 hy1_1
  simp at e1_1; subst e1_1
  obtain ⟨f1_2, e1_2, rfl, w1_2⟩ := DataW.trod_int Tryd.underlying3 hy1_2
  simp at e1_2; subst e1_2
  obtain ⟨a2, rfl, rfl, rfl, w2⟩ := open_int Tryd.underlying3 (hval 2 3 v2 rfl rfl) h2
  clear hA0 hval0
  simp only [List.append_nil] at hW'
  have sr1 : ∀ (W' : World) (sp : Nat → Bool), DataW.Trod enc Tryd.prog W' 0 sp true 23 (.agg #[.int .i64 f1_0, .int .i64 f1_1, .int .i64 f1_2]) (.agg [.lit (.int .i64 f1_0), .lit (.int .i64 f1_1), .lit (.int .i64 f1_2)]) [] := fun W' sp =>
    shut_agg3 (y0 := (.lit (.int .i64 f1_0), [])) (y1 := (.lit (.int .i64 f1_1), [])) (y2 := (.lit (.int .i64 f1_2), [])) Tryd.underlying23 (by kernel_rfl) (show Tryd.prog.cellsOf 23 = 3 by kernel_rfl) ⟨1, by simp [DataW.trod, Tryd.underlying3, w1_0]⟩ ⟨1, by simp [DataW.trod, Tryd.underlying3, w1_1]⟩ ⟨1, by simp [DataW.trod, Tryd.underlying3, w1_2]⟩
  refine (walk a0 f1_0 f1_1 f1_2 a2 w0 w1_0 w1_1 w1_2 w2 W (laid_facts hL)).mono fun e W' ⟨he, bel⟩ => ?_
  subst he
  exact ⟨_, rfl, _, _, _, [], _, [], hW', trodAll_mk1 (shut_bool Tryd.underlying4 _), (trodAll_cons_mk (shut_int Tryd.underlying5 w0) (trodAll_cons_mk (sr1 _ _) (trodAll_cons_mk (shut_int Tryd.underlying3 w2) trodAll_mk0))), rfl, bel.frame _, fun h => by cases h⟩

theorem over : Rows.civilYearsRow.holds Tryd.pinned (OpenSpec.ofChange Rows.civilYearsSpec) :=
  OpenClaim.holds_of_wide 5 Tryd.f5 rfl rfl rfl rfl rfl rfl rfl ⟨rfl, rfl, rfl, rfl, rfl⟩ rfl rfl rfl rfl rfl (by kernel_rfl) Tryd.func5 (by kernel_rfl)
    (of_decide_eq_true (by kernel_rfl)) (by unfold Func.isWrapper; first | (rw [if_pos (by decide +kernel)]; kernel_rfl) | (rw [if_neg (by decide +kernel)]; exact ⟨rfl, rfl⟩))
    (fun os started H enc _ => lifted os started H enc)

/-- The statement: the tied card. -/
theorem proved : Rows.CivilYearsCardSaid :=
  Claim7.holds_tied_plain_at .later [] [.data, .data, .data] true (true, "9484c15c1b8584f9bd4f7ea5aa595545c02681c034fbe158da6ebf60820e8177") false
    over (fun _ h => by cases h) (by kernel_rfl) (fun _ h => by cases h) civilYears_row_tie rfl ⟨rfl, rfl⟩ (by kernel_rfl) rfl
    (fun f fn hf hfn => by
      obtain rfl : f = 5 := Option.some.inj ((show Tryd.prog.funcNamed "computus/computuslaw05.CivilYears" = some 5 by kernel_rfl).symm.trans hf) |>.symm
      obtain rfl : fn = Tryd.f5 := (Option.some.inj (Tryd.func5.symm.trans hfn)).symm
      exact ⟨by kernel_rfl, fun j t ht => by
        rw [Tryd.params5] at ht
        have hm : t ∈ [5, 23, 3] := by simpa using Array.mem_of_getElem? ht
        have hall : ([5, 23, 3].all fun u => !Tryd.prog.wantsStandIn u) = true := by kernel_rfl
        exact (show Tryd.prog.wantsStandIn t = false by simpa using List.all_eq_true.1 hall t hm)⟩)
    (by kernel_rfl)
#print axioms proved
end Go.Proofs.YtdnglkccdmlplaaDoor.civilYears
