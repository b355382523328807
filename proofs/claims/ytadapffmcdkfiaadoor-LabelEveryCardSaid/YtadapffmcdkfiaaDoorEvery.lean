/- Proved: for all bytes month and day, the law LabelEvery of package computuslaw08 (every day of a common year has one or two labels, and the next day of the same lunation has a smaller least label) returns true, and what was in memory is as it was. Condition: the two tables of package label (the lengths of the months, the beginnings of the lunations) read as the program's text lays them (the card ties them). -/
import Derived.Test.YtadapffmcdkfiaaDoorLk
import Derived.Test.YtadapffmcdkfiaaDoorLl
import Derived.Test.YtadapffmcdkfiaaDoorVy
import Derived.WalkKit
import Derived.ProofKit
import Derived.OpenShut
import Derived.ShutString
import Derived.Lib.SmallJoins
import Derived.LaidMore
import Derived.Stop.Joined
import Derived.SevenTiedAt
import Derived.Test.YtadapffmcdkfiaaDoorCards
import Derived.Test.YtadapffmcdkfiaaDoorTie
namespace Go.Proofs.YtadapffmcdkfiaaDoor.labelEvery
open Go.ChangeShapes Go.WideShapes Go.ChangeAt Go.RowKit Go.Joins
open Go.ChangeMaps (open_string shut_string)
set_option linter.unusedVariables false      -- a walk need not use every fact

theorem last_cell {g cap : Nat} {xs : List Int} {w : World} {n : Nat} (h : IntsIn g cap xs w) (hx : xs.length = n) (hn : 0 < n) : w.cell? ⟨g, n - 1, none⟩ = some (.int .i64 (lastOf xs)) := by
  rw [h.cell (n - 1) (by omega), lastOf, hx]
set_option maxHeartbeats 2000000 in
theorem walk_tsame (u v k p z z' a' : Int) (n n' : Nat) (xs ys : List Int) (hu : 0 ≤ u) (hu2 : u ≤ 255) (hv : 0 ≤ v) (hv2 : v ≤ 255) (k1 : 0 ≤ k) (k2 : k ≤ 12) (p1 : 0 ≤ p) (p2 : p ≤ 29)
    (hn : n = 1 ∨ n = 2) (hx : xs.length = n) (hz : lastOf xs = z) (hn' : n' = 1 ∨ n' = 2) (hy : ys.length = n') (hz' : lastOf ys = z') (ha' : ys.getD 0 0 = a') (hlt : z' < z)
    (E1 : ∀ w, Calls Tryd.prog 19 #[.int .i64 (1 + u % 12), .int .i64 (1 + v % 31)] w fun e w' => e = .returned (.bool true) ∧ w = w')
    (O1 : ∀ w, LTab w → Calls Tryd.prog 12 #[.int .i64 (1 + u % 12), .int .i64 (1 + v % 31)] w (RetOpen n xs w))
    (P1 : ∀ w, LTab w → Calls Tryd.prog 9 #[.int .i64 (1 + u % 12), .int .i64 (1 + v % 31)] w fun e w' => e = .returned (.tuple #[.int .i64 k, .int .i64 p, .bool true]) ∧ Below w.heap.size w w')
    (E2 : ∀ w, Calls Tryd.prog 19 #[.int .i64 (1 + u % 12), .int .i64 (1 + v % 31 + 1)] w fun e w' => e = .returned (.bool true) ∧ w = w')
    (P2 : ∀ w, LTab w → Calls Tryd.prog 9 #[.int .i64 (1 + u % 12), .int .i64 (1 + v % 31 + 1)] w fun e w' => e = .returned (.tuple #[.int .i64 k, .int .i64 (p + 1), .bool true]) ∧ Below w.heap.size w w')
    (O2 : ∀ w, LTab w → Calls Tryd.prog 12 #[.int .i64 (1 + u % 12), .int .i64 (1 + v % 31 + 1)] w (RetOpen n' ys w))
    (W : World) (ht : LTab W) :
    Calls Tryd.prog 6 #[.int .u8 u, .int .u8 v] W fun e w' => e = .returned (.bool true) ∧ Below W.heap.size W w' := by
  have E1h := Lib.hid E1
  have O1h := Lib.hid O1
  have P1h := Lib.hid P1
  have E2h := Lib.hid E2
  have P2h := Lib.hid P2
  have O2h := Lib.hid O2
  clear E1 O1 P1 E2 P2 O2
  have Hxn := Lib.hid hx
  clear hx
  have Hyn := Lib.hid hy
  clear hy
  have e0 : decide (z' < z) = true := decide_eq_true hlt
  clear hlt
  rcases hn with rfl | rfl
  all_goals
    have Hz := Lib.hid hz
    clear hz
    rcases hn' with rfl | rfl
    all_goals
      have Hz' := Lib.hid hz'
      have Ha' := Lib.hid ha'
      clear hz' ha'
      have S0 := Lib.hid (Below.refl W.heap.size W)
      have T0 := Lib.hid ht
      clear ht
      go_enter Tryd.func6, Tryd.ntmps6
      go_wp2_with fail
      refine (c8awake_any _ T0.out).mono ?_
      rintro e w1 ⟨rfl, hb1⟩
      have S1 := Lib.hid (below_on S0.out hb1)
      have T1 := Lib.hid (T0.out.on hb1)
      clear hb1
      go_wp2_with fail
      refine (E1h.out _).mono ?_
      rintro e wq ⟨rfl, rfl⟩
      go_wp2_with fail
      refine (O1h.out _ T1.out).mono ?_
      rintro e w2 ⟨gx, cx, rfl, hvx, hb2⟩
      have S2 := Lib.hid (below_on S1.out hb2)
      have T2 := Lib.hid (T1.out.on hb2)
      clear hb2
      have Vx_2 := Lib.hid hvx
      clear hvx
      go_wp2_with fail
      refine (P1h.out _ T2.out).mono ?_
      rintro e w3 ⟨rfl, hb3⟩
      have S3 := Lib.hid (below_on S2.out hb3)
      have T3 := Lib.hid (T2.out.on hb3)
      have Vx_3 := Lib.hid (Vx_2.out.on hb3)
      clear hb3
      go_wp2_with fail
      refine (E2h.out _).mono ?_
      rintro e wq ⟨rfl, rfl⟩
      go_wp2_with fail
      refine (E2h.out _).mono ?_
      rintro e wq ⟨rfl, rfl⟩
      go_wp2_with fail
      refine (P2h.out _ T3.out).mono ?_
      rintro e w4 ⟨rfl, hb4⟩
      have S4 := Lib.hid (below_on S3.out hb4)
      have T4 := Lib.hid (T3.out.on hb4)
      have Vx_4 := Lib.hid (Vx_3.out.on hb4)
      clear hb4
      go_wp2_with fail
      refine (O2h.out _ T4.out).mono ?_
      rintro e w5 ⟨gy, cy, rfl, hvy, hb5⟩
      have S5 := Lib.hid (below_on S4.out hb5)
      have T5 := Lib.hid (T4.out.on hb5)
      have Vx_5 := Lib.hid (Vx_4.out.on hb5)
      clear hb5
      have Vy_5 := Lib.hid hvy
      clear hvy
      have cx := last_cell Vx_5.out Hxn.out (by omega)
      rw [Hz.out] at cx
      have cy := last_cell Vy_5.out Hyn.out (by omega)
      rw [Hz'.out] at cy
      simp only [Nat.sub_self, Nat.reduceSub] at cx cy
      go_wp2_with fail
      go_quiet (fail)
      go_wp2_with fail
      go_ret
      exact ⟨rfl, below_dn S5.out _⟩
set_option maxHeartbeats 2000000 in
theorem walk_tnext (u v k p z z' a' : Int) (n n' : Nat) (xs ys : List Int) (hu : 0 ≤ u) (hu2 : u ≤ 255) (hv : 0 ≤ v) (hv2 : v ≤ 255) (k1 : 0 ≤ k) (k2 : k ≤ 12) (p1 : 0 ≤ p) (p2 : p ≤ 29)
    (hn : n = 1 ∨ n = 2) (hx : xs.length = n) (hz : lastOf xs = z) (hn' : n' = 1 ∨ n' = 2) (hy : ys.length = n') (hz' : lastOf ys = z') (ha' : ys.getD 0 0 = a') (h30 : a' = 30) (h1 : z = 1)
    (E1 : ∀ w, Calls Tryd.prog 19 #[.int .i64 (1 + u % 12), .int .i64 (1 + v % 31)] w fun e w' => e = .returned (.bool true) ∧ w = w')
    (O1 : ∀ w, LTab w → Calls Tryd.prog 12 #[.int .i64 (1 + u % 12), .int .i64 (1 + v % 31)] w (RetOpen n xs w))
    (P1 : ∀ w, LTab w → Calls Tryd.prog 9 #[.int .i64 (1 + u % 12), .int .i64 (1 + v % 31)] w fun e w' => e = .returned (.tuple #[.int .i64 k, .int .i64 p, .bool true]) ∧ Below w.heap.size w w')
    (E2 : ∀ w, Calls Tryd.prog 19 #[.int .i64 (1 + u % 12), .int .i64 (1 + v % 31 + 1)] w fun e w' => e = .returned (.bool true) ∧ w = w')
    (P2 : ∀ w, LTab w → Calls Tryd.prog 9 #[.int .i64 (1 + u % 12), .int .i64 (1 + v % 31 + 1)] w fun e w' => e = .returned (.tuple #[.int .i64 (k + 1), .int .i64 0, .bool true]) ∧ Below w.heap.size w w')
    (O2 : ∀ w, LTab w → Calls Tryd.prog 12 #[.int .i64 (1 + u % 12), .int .i64 (1 + v % 31 + 1)] w (RetOpen n' ys w))
    (W : World) (ht : LTab W) :
    Calls Tryd.prog 6 #[.int .u8 u, .int .u8 v] W fun e w' => e = .returned (.bool true) ∧ Below W.heap.size W w' := by
  have E1h := Lib.hid E1
  have O1h := Lib.hid O1
  have P1h := Lib.hid P1
  have E2h := Lib.hid E2
  have P2h := Lib.hid P2
  have O2h := Lib.hid O2
  clear E1 O1 P1 E2 P2 O2
  have Hxn := Lib.hid hx
  clear hx
  have Hyn := Lib.hid hy
  clear hy
  subst h30 h1
  have e2 : (k + 1 == k) = false := by rw [beq_eq_false_iff_ne]; omega
  rcases hn with rfl | rfl
  all_goals
    have Hz := Lib.hid hz
    clear hz
    rcases hn' with rfl | rfl
    all_goals
      have Hz' := Lib.hid hz'
      have Ha' := Lib.hid ha'
      clear hz' ha'
      have S0 := Lib.hid (Below.refl W.heap.size W)
      have T0 := Lib.hid ht
      clear ht
      go_enter Tryd.func6, Tryd.ntmps6
      go_wp2_with fail
      refine (c8awake_any _ T0.out).mono ?_
      rintro e w1 ⟨rfl, hb1⟩
      have S1 := Lib.hid (below_on S0.out hb1)
      have T1 := Lib.hid (T0.out.on hb1)
      clear hb1
      go_wp2_with fail
      refine (E1h.out _).mono ?_
      rintro e wq ⟨rfl, rfl⟩
      go_wp2_with fail
      refine (O1h.out _ T1.out).mono ?_
      rintro e w2 ⟨gx, cx, rfl, hvx, hb2⟩
      have S2 := Lib.hid (below_on S1.out hb2)
      have T2 := Lib.hid (T1.out.on hb2)
      clear hb2
      have Vx_2 := Lib.hid hvx
      clear hvx
      go_wp2_with fail
      refine (P1h.out _ T2.out).mono ?_
      rintro e w3 ⟨rfl, hb3⟩
      have S3 := Lib.hid (below_on S2.out hb3)
      have T3 := Lib.hid (T2.out.on hb3)
      have Vx_3 := Lib.hid (Vx_2.out.on hb3)
      clear hb3
      go_wp2_with fail
      refine (E2h.out _).mono ?_
      rintro e wq ⟨rfl, rfl⟩
      go_wp2_with fail
      refine (E2h.out _).mono ?_
      rintro e wq ⟨rfl, rfl⟩
      go_wp2_with fail
      refine (P2h.out _ T3.out).mono ?_
      rintro e w4 ⟨rfl, hb4⟩
      have S4 := Lib.hid (below_on S3.out hb4)
      have T4 := Lib.hid (T3.out.on hb4)
      have Vx_4 := Lib.hid (Vx_3.out.on hb4)
      clear hb4
      go_wp2_with fail
      refine (O2h.out _ T4.out).mono ?_
      rintro e w5 ⟨gy, cy, rfl, hvy, hb5⟩
      have S5 := Lib.hid (below_on S4.out hb5)
      have T5 := Lib.hid (T4.out.on hb5)
      have Vx_5 := Lib.hid (Vx_4.out.on hb5)
      clear hb5
      have Vy_5 := Lib.hid hvy
      clear hvy
      have cx := last_cell Vx_5.out Hxn.out (by omega)
      rw [Hz.out] at cx
      have cy := Vy_5.out.cell 0 (by rw [Hyn.out]; omega)
      rw [Ha'.out] at cy
      simp only [Nat.sub_self, Nat.reduceSub] at cx
      go_wp2_with fail
      go_ret
      exact ⟨rfl, S5.out⟩
set_option maxHeartbeats 2000000 in
theorem walk_fsame (u v k p z z' a' : Int) (n n' : Nat) (xs ys : List Int) (hu : 0 ≤ u) (hu2 : u ≤ 255) (hv : 0 ≤ v) (hv2 : v ≤ 255) (k1 : 0 ≤ k) (k2 : k ≤ 12) (p1 : 0 ≤ p) (p2 : p ≤ 29)
    (hn : n = 1 ∨ n = 2) (hx : xs.length = n) (hz : lastOf xs = z) (hn' : n' = 1 ∨ n' = 2) (hy : ys.length = n') (hz' : lastOf ys = z') (ha' : ys.getD 0 0 = a') (hlt : z' < z)
    (E1 : ∀ w, Calls Tryd.prog 19 #[.int .i64 (1 + u % 12), .int .i64 (1 + v % 31)] w fun e w' => e = .returned (.bool true) ∧ w = w')
    (O1 : ∀ w, LTab w → Calls Tryd.prog 12 #[.int .i64 (1 + u % 12), .int .i64 (1 + v % 31)] w (RetOpen n xs w))
    (P1 : ∀ w, LTab w → Calls Tryd.prog 9 #[.int .i64 (1 + u % 12), .int .i64 (1 + v % 31)] w fun e w' => e = .returned (.tuple #[.int .i64 k, .int .i64 p, .bool true]) ∧ Below w.heap.size w w')
    (E2 : ∀ w, Calls Tryd.prog 19 #[.int .i64 (1 + u % 12), .int .i64 (1 + v % 31 + 1)] w fun e w' => e = .returned (.bool false) ∧ w = w')
    (E3 : ∀ w, Calls Tryd.prog 19 #[.int .i64 (1 + u % 12 + 1), .int .i64 1] w fun e w' => e = .returned (.bool true) ∧ w = w')
    (P2 : ∀ w, LTab w → Calls Tryd.prog 9 #[.int .i64 (1 + u % 12 + 1), .int .i64 1] w fun e w' => e = .returned (.tuple #[.int .i64 k, .int .i64 (p + 1), .bool true]) ∧ Below w.heap.size w w')
    (O2 : ∀ w, LTab w → Calls Tryd.prog 12 #[.int .i64 (1 + u % 12 + 1), .int .i64 1] w (RetOpen n' ys w))
    (W : World) (ht : LTab W) :
    Calls Tryd.prog 6 #[.int .u8 u, .int .u8 v] W fun e w' => e = .returned (.bool true) ∧ Below W.heap.size W w' := by
  have E1h := Lib.hid E1
  have O1h := Lib.hid O1
  have P1h := Lib.hid P1
  have E2h := Lib.hid E2
  have E3h := Lib.hid E3
  have P2h := Lib.hid P2
  have O2h := Lib.hid O2
  clear E1 O1 P1 E2 E3 P2 O2
  have Hxn := Lib.hid hx
  clear hx
  have Hyn := Lib.hid hy
  clear hy
  have e0 : decide (z' < z) = true := decide_eq_true hlt
  clear hlt
  rcases hn with rfl | rfl
  all_goals
    have Hz := Lib.hid hz
    clear hz
    rcases hn' with rfl | rfl
    all_goals
      have Hz' := Lib.hid hz'
      have Ha' := Lib.hid ha'
      clear hz' ha'
      have S0 := Lib.hid (Below.refl W.heap.size W)
      have T0 := Lib.hid ht
      clear ht
      go_enter Tryd.func6, Tryd.ntmps6
      go_wp2_with fail
      refine (c8awake_any _ T0.out).mono ?_
      rintro e w1 ⟨rfl, hb1⟩
      have S1 := Lib.hid (below_on S0.out hb1)
      have T1 := Lib.hid (T0.out.on hb1)
      clear hb1
      go_wp2_with fail
      refine (E1h.out _).mono ?_
      rintro e wq ⟨rfl, rfl⟩
      go_wp2_with fail
      refine (O1h.out _ T1.out).mono ?_
      rintro e w2 ⟨gx, cx, rfl, hvx, hb2⟩
      have S2 := Lib.hid (below_on S1.out hb2)
      have T2 := Lib.hid (T1.out.on hb2)
      clear hb2
      have Vx_2 := Lib.hid hvx
      clear hvx
      go_wp2_with fail
      refine (P1h.out _ T2.out).mono ?_
      rintro e w3 ⟨rfl, hb3⟩
      have S3 := Lib.hid (below_on S2.out hb3)
      have T3 := Lib.hid (T2.out.on hb3)
      have Vx_3 := Lib.hid (Vx_2.out.on hb3)
      clear hb3
      go_wp2_with fail
      refine (E2h.out _).mono ?_
      rintro e wq ⟨rfl, rfl⟩
      go_wp2_with fail
      refine (E3h.out _).mono ?_
      rintro e wq ⟨rfl, rfl⟩
      go_wp2_with fail
      refine (P2h.out _ T3.out).mono ?_
      rintro e w4 ⟨rfl, hb4⟩
      have S4 := Lib.hid (below_on S3.out hb4)
      have T4 := Lib.hid (T3.out.on hb4)
      have Vx_4 := Lib.hid (Vx_3.out.on hb4)
      clear hb4
      go_wp2_with fail
      refine (O2h.out _ T4.out).mono ?_
      rintro e w5 ⟨gy, cy, rfl, hvy, hb5⟩
      have S5 := Lib.hid (below_on S4.out hb5)
      have T5 := Lib.hid (T4.out.on hb5)
      have Vx_5 := Lib.hid (Vx_4.out.on hb5)
      clear hb5
      have Vy_5 := Lib.hid hvy
      clear hvy
      have cx := last_cell Vx_5.out Hxn.out (by omega)
      rw [Hz.out] at cx
      have cy := last_cell Vy_5.out Hyn.out (by omega)
      rw [Hz'.out] at cy
      simp only [Nat.sub_self, Nat.reduceSub] at cx cy
      go_wp2_with fail
      go_quiet (fail)
      go_wp2_with fail
      go_ret
      exact ⟨rfl, below_dn S5.out _⟩
set_option maxHeartbeats 2000000 in
theorem walk_fnext (u v k p z z' a' : Int) (n n' : Nat) (xs ys : List Int) (hu : 0 ≤ u) (hu2 : u ≤ 255) (hv : 0 ≤ v) (hv2 : v ≤ 255) (k1 : 0 ≤ k) (k2 : k ≤ 12) (p1 : 0 ≤ p) (p2 : p ≤ 29)
    (hn : n = 1 ∨ n = 2) (hx : xs.length = n) (hz : lastOf xs = z) (hn' : n' = 1 ∨ n' = 2) (hy : ys.length = n') (hz' : lastOf ys = z') (ha' : ys.getD 0 0 = a') (h30 : a' = 30) (h1 : z = 1)
    (E1 : ∀ w, Calls Tryd.prog 19 #[.int .i64 (1 + u % 12), .int .i64 (1 + v % 31)] w fun e w' => e = .returned (.bool true) ∧ w = w')
    (O1 : ∀ w, LTab w → Calls Tryd.prog 12 #[.int .i64 (1 + u % 12), .int .i64 (1 + v % 31)] w (RetOpen n xs w))
    (P1 : ∀ w, LTab w → Calls Tryd.prog 9 #[.int .i64 (1 + u % 12), .int .i64 (1 + v % 31)] w fun e w' => e = .returned (.tuple #[.int .i64 k, .int .i64 p, .bool true]) ∧ Below w.heap.size w w')
    (E2 : ∀ w, Calls Tryd.prog 19 #[.int .i64 (1 + u % 12), .int .i64 (1 + v % 31 + 1)] w fun e w' => e = .returned (.bool false) ∧ w = w')
    (E3 : ∀ w, Calls Tryd.prog 19 #[.int .i64 (1 + u % 12 + 1), .int .i64 1] w fun e w' => e = .returned (.bool true) ∧ w = w')
    (P2 : ∀ w, LTab w → Calls Tryd.prog 9 #[.int .i64 (1 + u % 12 + 1), .int .i64 1] w fun e w' => e = .returned (.tuple #[.int .i64 (k + 1), .int .i64 0, .bool true]) ∧ Below w.heap.size w w')
    (O2 : ∀ w, LTab w → Calls Tryd.prog 12 #[.int .i64 (1 + u % 12 + 1), .int .i64 1] w (RetOpen n' ys w))
    (W : World) (ht : LTab W) :
    Calls Tryd.prog 6 #[.int .u8 u, .int .u8 v] W fun e w' => e = .returned (.bool true) ∧ Below W.heap.size W w' := by
  have E1h := Lib.hid E1
  have O1h := Lib.hid O1
  have P1h := Lib.hid P1
  have E2h := Lib.hid E2
  have E3h := Lib.hid E3
  have P2h := Lib.hid P2
  have O2h := Lib.hid O2
  clear E1 O1 P1 E2 E3 P2 O2
  have Hxn := Lib.hid hx
  clear hx
  have Hyn := Lib.hid hy
  clear hy
  subst h30 h1
  have e2 : (k + 1 == k) = false := by rw [beq_eq_false_iff_ne]; omega
  rcases hn with rfl | rfl
  all_goals
    have Hz := Lib.hid hz
    clear hz
    rcases hn' with rfl | rfl
    all_goals
      have Hz' := Lib.hid hz'
      have Ha' := Lib.hid ha'
      clear hz' ha'
      have S0 := Lib.hid (Below.refl W.heap.size W)
      have T0 := Lib.hid ht
      clear ht
      go_enter Tryd.func6, Tryd.ntmps6
      go_wp2_with fail
      refine (c8awake_any _ T0.out).mono ?_
      rintro e w1 ⟨rfl, hb1⟩
      have S1 := Lib.hid (below_on S0.out hb1)
      have T1 := Lib.hid (T0.out.on hb1)
      clear hb1
      go_wp2_with fail
      refine (E1h.out _).mono ?_
      rintro e wq ⟨rfl, rfl⟩
      go_wp2_with fail
      refine (O1h.out _ T1.out).mono ?_
      rintro e w2 ⟨gx, cx, rfl, hvx, hb2⟩
      have S2 := Lib.hid (below_on S1.out hb2)
      have T2 := Lib.hid (T1.out.on hb2)
      clear hb2
      have Vx_2 := Lib.hid hvx
      clear hvx
      go_wp2_with fail
      refine (P1h.out _ T2.out).mono ?_
      rintro e w3 ⟨rfl, hb3⟩
      have S3 := Lib.hid (below_on S2.out hb3)
      have T3 := Lib.hid (T2.out.on hb3)
      have Vx_3 := Lib.hid (Vx_2.out.on hb3)
      clear hb3
      go_wp2_with fail
      refine (E2h.out _).mono ?_
      rintro e wq ⟨rfl, rfl⟩
      go_wp2_with fail
      refine (E3h.out _).mono ?_
      rintro e wq ⟨rfl, rfl⟩
      go_wp2_with fail
      refine (P2h.out _ T3.out).mono ?_
      rintro e w4 ⟨rfl, hb4⟩
      have S4 := Lib.hid (below_on S3.out hb4)
      have T4 := Lib.hid (T3.out.on hb4)
      have Vx_4 := Lib.hid (Vx_3.out.on hb4)
      clear hb4
      go_wp2_with fail
      refine (O2h.out _ T4.out).mono ?_
      rintro e w5 ⟨gy, cy, rfl, hvy, hb5⟩
      have S5 := Lib.hid (below_on S4.out hb5)
      have T5 := Lib.hid (T4.out.on hb5)
      have Vx_5 := Lib.hid (Vx_4.out.on hb5)
      clear hb5
      have Vy_5 := Lib.hid hvy
      clear hvy
      have cx := last_cell Vx_5.out Hxn.out (by omega)
      rw [Hz.out] at cx
      have cy := Vy_5.out.cell 0 (by rw [Hyn.out]; omega)
      rw [Ha'.out] at cy
      simp only [Nat.sub_self, Nat.reduceSub] at cx
      go_wp2_with fail
      go_ret
      exact ⟨rfl, S5.out⟩
set_option maxHeartbeats 2000000 in
theorem walk_flast (u v k p z z' a' : Int) (n n' : Nat) (xs ys : List Int) (hu : 0 ≤ u) (hu2 : u ≤ 255) (hv : 0 ≤ v) (hv2 : v ≤ 255) (k1 : 0 ≤ k) (k2 : k ≤ 12) (p1 : 0 ≤ p) (p2 : p ≤ 29)
    (hn : n = 1 ∨ n = 2) (hx : xs.length = n) (hz : lastOf xs = z) (h12 : k = 12)
    (E1 : ∀ w, Calls Tryd.prog 19 #[.int .i64 (1 + u % 12), .int .i64 (1 + v % 31)] w fun e w' => e = .returned (.bool true) ∧ w = w')
    (O1 : ∀ w, LTab w → Calls Tryd.prog 12 #[.int .i64 (1 + u % 12), .int .i64 (1 + v % 31)] w (RetOpen n xs w))
    (P1 : ∀ w, LTab w → Calls Tryd.prog 9 #[.int .i64 (1 + u % 12), .int .i64 (1 + v % 31)] w fun e w' => e = .returned (.tuple #[.int .i64 k, .int .i64 p, .bool true]) ∧ Below w.heap.size w w')
    (E2 : ∀ w, Calls Tryd.prog 19 #[.int .i64 (1 + u % 12), .int .i64 (1 + v % 31 + 1)] w fun e w' => e = .returned (.bool false) ∧ w = w')
    (E3 : ∀ w, Calls Tryd.prog 19 #[.int .i64 (1 + u % 12 + 1), .int .i64 1] w fun e w' => e = .returned (.bool false) ∧ w = w')
    (W : World) (ht : LTab W) :
    Calls Tryd.prog 6 #[.int .u8 u, .int .u8 v] W fun e w' => e = .returned (.bool true) ∧ Below W.heap.size W w' := by
  have E1h := Lib.hid E1
  have O1h := Lib.hid O1
  have P1h := Lib.hid P1
  have E2h := Lib.hid E2
  have E3h := Lib.hid E3
  clear E1 O1 P1 E2 E3
  have Hxn := Lib.hid hx
  clear hx
  subst h12
  rcases hn with rfl | rfl
  all_goals
    have Hz := Lib.hid hz
    clear hz
    have S0 := Lib.hid (Below.refl W.heap.size W)
    have T0 := Lib.hid ht
    clear ht
    go_enter Tryd.func6, Tryd.ntmps6
    go_wp2_with fail
    refine (c8awake_any _ T0.out).mono ?_
    rintro e w1 ⟨rfl, hb1⟩
    have S1 := Lib.hid (below_on S0.out hb1)
    have T1 := Lib.hid (T0.out.on hb1)
    clear hb1
    go_wp2_with fail
    refine (E1h.out _).mono ?_
    rintro e wq ⟨rfl, rfl⟩
    go_wp2_with fail
    refine (O1h.out _ T1.out).mono ?_
    rintro e w2 ⟨gx, cx, rfl, hvx, hb2⟩
    have S2 := Lib.hid (below_on S1.out hb2)
    have T2 := Lib.hid (T1.out.on hb2)
    clear hb2
    have Vx_2 := Lib.hid hvx
    clear hvx
    go_wp2_with fail
    refine (P1h.out _ T2.out).mono ?_
    rintro e w3 ⟨rfl, hb3⟩
    have S3 := Lib.hid (below_on S2.out hb3)
    have T3 := Lib.hid (T2.out.on hb3)
    have Vx_3 := Lib.hid (Vx_2.out.on hb3)
    clear hb3
    go_wp2_with fail
    refine (E2h.out _).mono ?_
    rintro e wq ⟨rfl, rfl⟩
    go_wp2_with fail
    refine (E3h.out _).mono ?_
    rintro e wq ⟨rfl, rfl⟩
    go_wp2_with fail
    go_ret
    exact ⟨rfl, S3.out⟩
theorem walk_none (u v : Int) (hu : 0 ≤ u) (hu2 : u ≤ 255) (hv : 0 ≤ v) (hv2 : v ≤ 255)
    (E1 : ∀ w, Calls Tryd.prog 19 #[.int .i64 (1 + u % 12), .int .i64 (1 + v % 31)] w fun e w' => e = .returned (.bool false) ∧ w = w')
    (W : World) (ht : LTab W) :
    Calls Tryd.prog 6 #[.int .u8 u, .int .u8 v] W fun e w' => e = .returned (.bool true) ∧ Below W.heap.size W w' := by
  have E1h := Lib.hid E1
  clear E1
  have S0 := Lib.hid (Below.refl W.heap.size W)
  have T0 := Lib.hid ht
  clear ht
  go_enter Tryd.func6, Tryd.ntmps6
  go_wp2_with fail
  refine (c8awake_any _ T0.out).mono ?_
  rintro e w1 ⟨rfl, hb1⟩
  have S1 := Lib.hid (below_on S0.out hb1)
  have T1 := Lib.hid (T0.out.on hb1)
  clear hb1
  go_wp2_with fail
  refine (E1h.out _).mono ?_
  rintro e wq ⟨rfl, rfl⟩
  go_wp2_with fail
  refine (c8awake_any _ T1.out).mono ?_
  rintro e w2 ⟨rfl, hb2⟩
  have S2 := Lib.hid (below_on S1.out hb2)
  have T2 := Lib.hid (T1.out.on hb2)
  clear hb2
  go_wp2_with fail
  go_ret
  exact ⟨rfl, S2.out⟩
theorem walk (u v : Int) (w0 : (Lit.int .u8 u).wf = true) (w1 : (Lit.int .u8 v).wf = true) (W : World) (ht : LTab W) :
    Calls Tryd.prog 6 #[.int .u8 u, .int .u8 v] W fun e w' => e = .returned (.bool true) ∧ Below W.heap.size W w' := by
  obtain ⟨hu, hu2⟩ := bounds_u8 w0
  obtain ⟨hv, hv2⟩ := bounds_u8 w1
  cases h : okD (1 + u % 12) (1 + v % 31)
  · exact walk_none u v hu hu2 hv hv2 (rex_is _ _ _ h) W ht
  · have hn := every_len h
    have hk := lunM_bd (1 + u % 12) (1 + v % 31)
    have hp := posM_bd (1 + u % 12) (1 + v % 31)
    cases g : okD (1 + u % 12) ((1 + v % 31) + 1)
    · have ex : nxM (1 + u % 12) (1 + v % 31) = (1 + u % 12) + 1 := by rw [nxM, g]; rfl
      have ey : nxD (1 + u % 12) (1 + v % 31) = 1 := by rw [nxD, g]; rfl
      cases g2 : okD (nxM (1 + u % 12) (1 + v % 31)) (nxD (1 + u % 12) (1 + v % 31))
      · have e := every_no h g2
        rw [ex, ey] at g2
        exact walk_flast u v _ _ _ 0 0 _ 0 _ [] hu hu2 hv hv2 hk.1 hk.2 hp.1 hp.2 hn rfl rfl e.1 (rex_is _ _ _ h) (lon_open _ _ _ rfl (by omega)) (lpos_is _ _ _ _ _ rfl rfl h) (rex_is _ _ _ g) (rex_is _ _ _ g2) W ht
      · have hn' := every_len g2
        by_cases e : lunM (nxM (1 + u % 12) (1 + v % 31)) (nxD (1 + u % 12) (1 + v % 31)) = lunM (1 + u % 12) (1 + v % 31)
        · obtain ⟨e1, e2⟩ := every_same h g2 e
          rw [ex, ey] at g2 hn' e e1 e2
          exact walk_fsame u v _ _ _ _ _ _ _ _ _ hu hu2 hv hv2 hk.1 hk.2 hp.1 hp.2 hn rfl rfl hn' rfl rfl rfl e2 (rex_is _ _ _ h) (lon_open _ _ _ rfl (by omega)) (lpos_is _ _ _ _ _ rfl rfl h) (rex_is _ _ _ g) (rex_is _ _ _ g2) (lpos_is _ _ _ _ _ e e1 g2) (lon_open _ _ _ rfl (by omega)) W ht
        · obtain ⟨e0, e1, e2, e3⟩ := every_next h g2 e
          rw [ex, ey] at g2 hn' e0 e1 e2
          exact walk_fnext u v _ _ _ _ _ _ _ _ _ hu hu2 hv hv2 hk.1 hk.2 hp.1 hp.2 hn rfl rfl hn' rfl rfl rfl e2 e3 (rex_is _ _ _ h) (lon_open _ _ _ rfl (by omega)) (lpos_is _ _ _ _ _ rfl rfl h) (rex_is _ _ _ g) (rex_is _ _ _ g2) (lpos_is _ _ _ _ _ e0 e1 g2) (lon_open _ _ _ rfl (by omega)) W ht
    · have ex : nxM (1 + u % 12) (1 + v % 31) = (1 + u % 12) := by rw [nxM, g]; rfl
      have ey : nxD (1 + u % 12) (1 + v % 31) = (1 + v % 31) + 1 := by rw [nxD, g]; rfl
      have g2 : okD (nxM (1 + u % 12) (1 + v % 31)) (nxD (1 + u % 12) (1 + v % 31)) = true := by rw [ex, ey]; exact g
      have hn' := every_len g2
      by_cases e : lunM (nxM (1 + u % 12) (1 + v % 31)) (nxD (1 + u % 12) (1 + v % 31)) = lunM (1 + u % 12) (1 + v % 31)
      · obtain ⟨e1, e2⟩ := every_same h g2 e
        rw [ex, ey] at hn' e e1 e2
        exact walk_tsame u v _ _ _ _ _ _ _ _ _ hu hu2 hv hv2 hk.1 hk.2 hp.1 hp.2 hn rfl rfl hn' rfl rfl rfl e2 (rex_is _ _ _ h) (lon_open _ _ _ rfl (by omega)) (lpos_is _ _ _ _ _ rfl rfl h) (rex_is _ _ _ g) (lpos_is _ _ _ _ _ e e1 g) (lon_open _ _ _ rfl (by omega)) W ht
      · obtain ⟨e0, e1, e2, e3⟩ := every_next h g2 e
        rw [ex, ey] at hn' e0 e1 e2
        exact walk_tnext u v _ _ _ _ _ _ _ _ _ hu hu2 hv hv2 hk.1 hk.2 hp.1 hp.2 hn rfl rfl hn' rfl rfl rfl e2 e3 (rex_is _ _ _ h) (lon_open _ _ _ rfl (by omega)) (lpos_is _ _ _ _ _ rfl rfl h) (rex_is _ _ _ g) (lpos_is _ _ _ _ _ e0 e1 g) (lon_open _ _ _ rfl (by omega)) W ht

/-! ### the row's step -/
set_option maxRecDepth 100000 in
theorem lifted (os : Os) (started : os.Started) (H : Type) (enc : TypeId × Value → H) :
    ReturnsInHanded {} Tryd.checked os 6 .any (fun w args => (Rows.labelEverySpec.pre enc Tryd.prog Tryd.f6 [] false w args ∧ laidMetH Tryd.prog laidL w) ∧ sizedMet enc Tryd.prog Tryd.f6 (OpenSpec.ofChange Rows.labelEverySpec) false w args)
      (Rows.labelEverySpec.post enc Tryd.prog Tryd.f6 false true false false) := by
  refine returnsInHanded_of_change_and (C := Tryd.checked) (X := fun w _ => laidMetH Tryd.prog laidL w) (fun _ _ _ hh h => h.of_heap hh) own started (by kernel_rfl) Tryd.func6
    (ChangeSpec.witness_shaped (enc := enc) (C := Tryd.checked) (os := os) (X := fun w _ => laidMetH Tryd.prog laidL w) false (World.doorLaid Tryd.prog 400 os) #[.int .u8 0, .int .u8 0] 8 rfl (World.shaped_of_RefB (by kernel_rfl) (by kernel_rfl)) (by kernel_rfl) (by kernel_rfl) (by kernel_rfl) (door_met os _)) ?_
  intro W base args ds gs before hval0 hW _ _ hL _
  have hval : ∀ (j : Nat) t v, Tryd.f6.params[j]? = some t → args[j]? = some v → Value.okWide Tryd.prog W .any base t v := hval0
  have hW' := hW
  obtain ⟨p, q, hA0, hV, rfl, hfz, hnd⟩ := hW
  have hA : DataW.TrodAll enc Tryd.prog W 0 (fun _ => true) true Tryd.f6.params.toList args.toList ds p := hA0
  rw [Tryd.params6] at hA hval
  obtain ⟨v0, vs0, d0, ds0, p0, q0, hargs, rfl, rfl, h0, r0⟩ := trodAll_cons hA
  obtain ⟨v1, vs1, d1, ds1, p1, q1, rfl, rfl, rfl, h1, r1⟩ := trodAll_cons r0
  obtain ⟨rfl, rfl, rfl⟩ := trodAll_nil r1
  obtain rfl : args = #[v0, v1] := by cases args; simp_all
  obtain ⟨rfl, rfl⟩ := trodVars_none hV
  obtain ⟨a0, rfl, rfl, rfl, w0⟩ := open_int Tryd.underlying5 (hval 0 5 v0 rfl rfl) h0
  obtain ⟨a1, rfl, rfl, rfl, w1⟩ := open_int Tryd.underlying5 (hval 1 5 v1 rfl rfl) h1
  clear hA0 hval0
  simp only [List.append_nil] at hW'
  refine (walk a0 a1 w0 w1 W (laid_facts hL)).mono fun e W' ⟨he, bel⟩ => ?_
  subst he
  exact ⟨_, rfl, _, _, _, [], _, [], hW', trodAll_mk1 (shut_bool Tryd.underlying4 _), (trodAll_cons_mk (shut_int Tryd.underlying5 w0) (trodAll_cons_mk (shut_int Tryd.underlying5 w1) trodAll_mk0)), rfl, bel.frame _, fun h => by cases h⟩

theorem over : Rows.labelEveryRow.holds Tryd.pinned (OpenSpec.ofChange Rows.labelEverySpec) :=
  OpenClaim.holds_of_wide 6 Tryd.f6 rfl rfl rfl rfl rfl rfl rfl ⟨rfl, rfl, rfl, rfl, rfl⟩ rfl rfl rfl rfl rfl (by kernel_rfl) Tryd.func6 (by kernel_rfl)
    (of_decide_eq_true (by kernel_rfl)) (by unfold Func.isWrapper; first | (rw [if_pos (by decide +kernel)]; kernel_rfl) | (rw [if_neg (by decide +kernel)]; exact ⟨rfl, rfl⟩))
    (fun os started H enc _ => lifted os started H enc)

/-- The statement: the tied card. -/
theorem proved : Rows.LabelEveryCardSaid :=
  Claim7.holds_tied_plain_at .later [] [.data, .data] true (true, "f6ffa58ec8ad8553dd60e95785ec31bbba28e412efade22a3295923f5fa1b12a") false
    over (fun _ h => by cases h) (by kernel_rfl) (fun _ h => by cases h) labelEvery_row_tie rfl ⟨rfl, rfl⟩ (by kernel_rfl) rfl
    (fun f fn hf hfn => by
      obtain rfl : f = 6 := Option.some.inj ((show Tryd.prog.funcNamed "computus/computuslaw08.LabelEvery" = some 6 by kernel_rfl).symm.trans hf) |>.symm
      obtain rfl : fn = Tryd.f6 := (Option.some.inj (Tryd.func6.symm.trans hfn)).symm
      exact ⟨by kernel_rfl, fun j t ht => by
        rw [Tryd.params6] at ht
        have hm : t ∈ [5, 5] := by simpa using Array.mem_of_getElem? ht
        have hall : ([5, 5].all fun u => !Tryd.prog.wantsStandIn u) = true := by kernel_rfl
        exact (show Tryd.prog.wantsStandIn t = false by simpa using List.all_eq_true.1 hall t hm)⟩)
    (by kernel_rfl)
#print axioms proved
end Go.Proofs.YtadapffmcdkfiaaDoor.labelEvery
