/- Proved: for every byte c and all dates a and b of three 64-bit integers each, the law CivilOrder of package computuslaw05 (converting to the other calendar keeps the order of dates) returns true, and what was in memory is as it was. Condition: the tables of months and groups read as the program's text lays them (the card ties them). -/
import Derived.Test.YtdnglkccdmlplaaDoorCq
import Derived.Test.YtdnglkccdmlplaaDoorVy
import Derived.WalkKit
import Derived.ProofKit
import Derived.OpenShut
import Derived.ShutString
import Derived.Lib.SmallJoins
import Derived.Deep.RegionHeld3
import Derived.LaidMore
import Derived.Stop.Joined
import Derived.SevenTiedAt
import Derived.Test.YtdnglkccdmlplaaDoorCards
import Derived.Test.YtdnglkccdmlplaaDoorTie
namespace Go.Proofs.YtdnglkccdmlplaaDoor.civilOrder
open Go.ChangeShapes Go.WideShapes Go.ChangeAt Go.RowKit Go.Joins
open Go.ChangeMaps (open_string shut_string)
set_option linter.unusedVariables false      -- a walk need not use every fact

theorem kfacts {u : Int} (hu : 0 ≤ u) (hu2 : u ≤ 255) : okC (1 + u % 2) = true ∧ okC (3 - (1 + u % 2)) = true := by
  exact ⟨okC_iff.2 (by omega), okC_iff.2 (by omega)⟩
/-- Four dates in memory. -/
def Four (W : World) (b1 b2 b3 b4 : Nat) (y m d a b c p q r e0 e1 e2 : Int) (u : World) : Prop :=
  u.cell? ⟨b1, 0, none⟩ = some (.int .i64 y) ∧ u.cell? ⟨b1, 1, none⟩ = some (.int .i64 m) ∧ u.cell? ⟨b1, 2, none⟩ = some (.int .i64 d) ∧ u.cell? ⟨b2, 0, none⟩ = some (.int .i64 a) ∧ u.cell? ⟨b2, 1, none⟩ = some (.int .i64 b) ∧ u.cell? ⟨b2, 2, none⟩ = some (.int .i64 c) ∧ u.cell? ⟨b3, 0, none⟩ = some (.int .i64 p) ∧ u.cell? ⟨b3, 1, none⟩ = some (.int .i64 q) ∧ u.cell? ⟨b3, 2, none⟩ = some (.int .i64 r) ∧ u.cell? ⟨b4, 0, none⟩ = some (.int .i64 e0) ∧ u.cell? ⟨b4, 1, none⟩ = some (.int .i64 e1) ∧ u.cell? ⟨b4, 2, none⟩ = some (.int .i64 e2) ∧ Below W.heap.size W u
theorem Four.on {W : World} {b1 b2 b3 b4 : Nat} {y m d a b c p q r e0 e1 e2 : Int} {u u' : World} (h : Four W b1 b2 b3 b4 y m d a b c p q r e0 e1 e2 u) (hb : Below u.heap.size u u') : Four W b1 b2 b3 b4 y m d a b c p q r e0 e1 e2 u' := by
  obtain ⟨h0, h1, h2, h3, h4, h5, h6, h7, h8, h9, h10, h11, hB⟩ := h
  exact ⟨cell_below h0 hb, cell_below h1 hb, cell_below h2 hb, cell_below h3 hb, cell_below h4 hb, cell_below h5 hb, cell_below h6 hb, cell_below h7 hb, cell_below h8 hb, cell_below h9 hb, cell_below h10 hb, cell_below h11 hb, below_on hB hb⟩
theorem Four.drew {W : World} {b1 b2 b3 b4 : Nat} {y m d a b c p q r e0 e1 e2 : Int} {u : World} (h : Four W b1 b2 b3 b4 y m d a b c p q r e0 e1 e2 u) : Four W b1 b2 b3 b4 y m d a b c p q r e0 e1 e2 u.drew := h.on (below_dn (Below.refl _ _) 1)
theorem walk_e1 (u y m d a b c p q r e0 e1 e2 k k2 : Int) (hu : 0 ≤ u) (hu2 : u ≤ 255)
    (H1 : ∀ w, CTab w → Calls Tryd.prog 13 #[dtv y m d, .int .i64 (1 + u % 2), .int .i64 (3 - (1 + u % 2))] w fun e w' => e = .returned (datv p q r k) ∧ Below w.heap.size w w')
    (H2 : ∀ w, CTab w → Calls Tryd.prog 13 #[dtv a b c, .int .i64 (1 + u % 2), .int .i64 (3 - (1 + u % 2))] w fun e w' => e = .returned (datv e0 e1 e2 k2) ∧ Below w.heap.size w w')
    (hk : (k != 0) = true)
    (W : World) (ht : CTab W) :
    Calls Tryd.prog 7 #[.int .u8 u, dtv y m d, dtv a b c] W fun e w' => e = .returned (.bool true) ∧ Below W.heap.size W w' := by
  have S0 := Lib.hid (St.start ht)
  clear ht
  go_enter Tryd.func7, Tryd.ntmps7
  go_wp2_with fail
  refine (c5awake_any _ ((S0.out.al _).al _).t).mono ?_
  rintro e w1 ⟨rfl, hb1⟩
  have S1 := Lib.hid (((S0.out.al _).al _).on hb1)
  have RD1 := Lib.hid (row_on (row_al (heap_alloc_new _ _) _) hb1)
  have RE1 := Lib.hid (row_on (row_new1 _ _ _) hb1)
  obtain ⟨cD0, cD1, cD2, gD0, gD1, gD2, zD⟩ := row3 RD1.out
  obtain ⟨cE0, cE1, cE2, gE0, gE1, gE2, zE⟩ := row3 RE1.out
  clear hb1
  go_wp2_with fail
  refine (H1 _ S1.out.t).mono ?_
  rintro e w2 ⟨rfl, hb2⟩
  have S2 := Lib.hid (S1.out.on hb2)
  have RD2 := Lib.hid (row_on RD1.out hb2)
  have RE2 := Lib.hid (row_on RE1.out hb2)
  clear RD1 RE1
  clear cD0 cD1 cD2 gD0 gD1 gD2 zD
  obtain ⟨cD0, cD1, cD2, gD0, gD1, gD2, zD⟩ := row3 RD2.out
  clear cE0 cE1 cE2 gE0 gE1 gE2 zE
  obtain ⟨cE0, cE1, cE2, gE0, gE1, gE2, zE⟩ := row3 RE2.out
  clear hb2
  have nDX := Nat.ne_of_lt zD
  have nXD := (Nat.ne_of_lt zD).symm
  have nEX := Nat.ne_of_lt zE
  have nXE := (Nat.ne_of_lt zE).symm
  go_wp2_with fail
  refine (H2 _ (S2.out.al _).t).mono ?_
  rintro e w3 ⟨rfl, hb3⟩
  have S3 := Lib.hid ((S2.out.al _).on hb3)
  have RD3 := Lib.hid (row_on (row_al RD2.out (Obj.cells #[.int .i64 p, .int .i64 q, .int .i64 r] 23)) hb3)
  have RE3 := Lib.hid (row_on (row_al RE2.out (Obj.cells #[.int .i64 p, .int .i64 q, .int .i64 r] 23)) hb3)
  have RX3 := Lib.hid (row_on (heap_alloc_new w2 (Obj.cells #[.int .i64 p, .int .i64 q, .int .i64 r] 23)) hb3)
  clear RD2 RE2
  clear cD0 cD1 cD2 gD0 gD1 gD2 zD
  obtain ⟨cD0, cD1, cD2, gD0, gD1, gD2, zD⟩ := row3 RD3.out
  clear cE0 cE1 cE2 gE0 gE1 gE2 zE
  obtain ⟨cE0, cE1, cE2, gE0, gE1, gE2, zE⟩ := row3 RE3.out
  obtain ⟨cX0, cX1, cX2, gX0, gX1, gX2, zX⟩ := row3 RX3.out
  clear hb3
  have nDY := Nat.ne_of_lt zD
  have nYD := (Nat.ne_of_lt zD).symm
  have nEY := Nat.ne_of_lt zE
  have nYE := (Nat.ne_of_lt zE).symm
  have nXY := Nat.ne_of_lt zX
  have nYX := (Nat.ne_of_lt zX).symm
  go_wp2_with fail
  go_ret
  exact ⟨rfl, (S3.out.al _).b⟩
theorem walk_e2 (u y m d a b c p q r e0 e1 e2 k2 : Int) (hu : 0 ≤ u) (hu2 : u ≤ 255)
    (H1 : ∀ w, CTab w → Calls Tryd.prog 13 #[dtv y m d, .int .i64 (1 + u % 2), .int .i64 (3 - (1 + u % 2))] w fun e w' => e = .returned (datv p q r 0) ∧ Below w.heap.size w w')
    (H2 : ∀ w, CTab w → Calls Tryd.prog 13 #[dtv a b c, .int .i64 (1 + u % 2), .int .i64 (3 - (1 + u % 2))] w fun e w' => e = .returned (datv e0 e1 e2 k2) ∧ Below w.heap.size w w')
    (hk : (k2 != 0) = true)
    (W : World) (ht : CTab W) :
    Calls Tryd.prog 7 #[.int .u8 u, dtv y m d, dtv a b c] W fun e w' => e = .returned (.bool true) ∧ Below W.heap.size W w' := by
  have S0 := Lib.hid (St.start ht)
  clear ht
  go_enter Tryd.func7, Tryd.ntmps7
  go_wp2_with fail
  refine (c5awake_any _ ((S0.out.al _).al _).t).mono ?_
  rintro e w1 ⟨rfl, hb1⟩
  have S1 := Lib.hid (((S0.out.al _).al _).on hb1)
  have RD1 := Lib.hid (row_on (row_al (heap_alloc_new _ _) _) hb1)
  have RE1 := Lib.hid (row_on (row_new1 _ _ _) hb1)
  obtain ⟨cD0, cD1, cD2, gD0, gD1, gD2, zD⟩ := row3 RD1.out
  obtain ⟨cE0, cE1, cE2, gE0, gE1, gE2, zE⟩ := row3 RE1.out
  clear hb1
  go_wp2_with fail
  refine (H1 _ S1.out.t).mono ?_
  rintro e w2 ⟨rfl, hb2⟩
  have S2 := Lib.hid (S1.out.on hb2)
  have RD2 := Lib.hid (row_on RD1.out hb2)
  have RE2 := Lib.hid (row_on RE1.out hb2)
  clear RD1 RE1
  clear cD0 cD1 cD2 gD0 gD1 gD2 zD
  obtain ⟨cD0, cD1, cD2, gD0, gD1, gD2, zD⟩ := row3 RD2.out
  clear cE0 cE1 cE2 gE0 gE1 gE2 zE
  obtain ⟨cE0, cE1, cE2, gE0, gE1, gE2, zE⟩ := row3 RE2.out
  clear hb2
  have nDX := Nat.ne_of_lt zD
  have nXD := (Nat.ne_of_lt zD).symm
  have nEX := Nat.ne_of_lt zE
  have nXE := (Nat.ne_of_lt zE).symm
  go_wp2_with fail
  refine (H2 _ (S2.out.al _).t).mono ?_
  rintro e w3 ⟨rfl, hb3⟩
  have S3 := Lib.hid ((S2.out.al _).on hb3)
  have RD3 := Lib.hid (row_on (row_al RD2.out (Obj.cells #[.int .i64 p, .int .i64 q, .int .i64 r] 23)) hb3)
  have RE3 := Lib.hid (row_on (row_al RE2.out (Obj.cells #[.int .i64 p, .int .i64 q, .int .i64 r] 23)) hb3)
  have RX3 := Lib.hid (row_on (heap_alloc_new w2 (Obj.cells #[.int .i64 p, .int .i64 q, .int .i64 r] 23)) hb3)
  clear RD2 RE2
  clear cD0 cD1 cD2 gD0 gD1 gD2 zD
  obtain ⟨cD0, cD1, cD2, gD0, gD1, gD2, zD⟩ := row3 RD3.out
  clear cE0 cE1 cE2 gE0 gE1 gE2 zE
  obtain ⟨cE0, cE1, cE2, gE0, gE1, gE2, zE⟩ := row3 RE3.out
  obtain ⟨cX0, cX1, cX2, gX0, gX1, gX2, zX⟩ := row3 RX3.out
  clear hb3
  have nDY := Nat.ne_of_lt zD
  have nYD := (Nat.ne_of_lt zD).symm
  have nEY := Nat.ne_of_lt zE
  have nYE := (Nat.ne_of_lt zE).symm
  have nXY := Nat.ne_of_lt zX
  have nYX := (Nat.ne_of_lt zX).symm
  go_wp2_with fail
  go_ret
  exact ⟨rfl, (S3.out.al _).b⟩
theorem eql_date (y m d a b c : Int) (w : World) : (binOp .eql 23 (dtv y m d) (dtv a b c)).run Tryd.prog w = .ok (.bool (decide (y = a ∧ m = b ∧ d = c))) w := by
  cases h1 : (y == a)
  · simp at h1; simp [go_sem, h1]
  · cases h2 : (m == b)
    · simp at h1 h2; simp [go_sem, h1, h2]
    · cases h3 : (d == c)
      · simp at h1 h2 h3; simp [go_sem, h1, h2, h3]
      · simp at h1 h2 h3; simp [go_sem, h1, h2, h3]
set_option maxHeartbeats 1000000 in
theorem walk_ok (u y m d a b c p q r e0 e1 e2 : Int) (hu : 0 ≤ u) (hu2 : u ≤ 255)
    (H1 : ∀ w, CTab w → Calls Tryd.prog 13 #[dtv y m d, .int .i64 (1 + u % 2), .int .i64 (3 - (1 + u % 2))] w fun e w' => e = .returned (datv p q r 0) ∧ Below w.heap.size w w')
    (H2 : ∀ w, CTab w → Calls Tryd.prog 13 #[dtv a b c, .int .i64 (1 + u % 2), .int .i64 (3 - (1 + u % 2))] w fun e w' => e = .returned (datv e0 e1 e2 0) ∧ Below w.heap.size w w')
    (lt eq : Bool) (hl : Cal.less y m d a b c = lt) (hl2 : Cal.less p q r e0 e1 e2 = lt)
    (hE : ∀ w, (binOp .eql 23 (dtv y m d) (dtv a b c)).run Tryd.prog w = .ok (.bool eq) w)
    (hX : ∀ w, (binOp .eql 23 (dtv p q r) (dtv e0 e1 e2)).run Tryd.prog w = .ok (.bool eq) w)
    (W : World) (ht : CTab W) :
    Calls Tryd.prog 7 #[.int .u8 u, dtv y m d, dtv a b c] W fun e w' => e = .returned (.bool true) ∧ Below W.heap.size W w' := by
  have S0 := Lib.hid (St.start ht)
  clear ht
  go_enter Tryd.func7, Tryd.ntmps7
  go_wp2_with fail
  refine (c5awake_any _ ((S0.out.al _).al _).t).mono ?_
  rintro e w1 ⟨rfl, hb1⟩
  have S1 := Lib.hid (((S0.out.al _).al _).on hb1)
  have RD1 := Lib.hid (row_on (row_al (heap_alloc_new _ _) _) hb1)
  have RE1 := Lib.hid (row_on (row_new1 _ _ _) hb1)
  obtain ⟨cD0, cD1, cD2, gD0, gD1, gD2, zD⟩ := row3 RD1.out
  obtain ⟨cE0, cE1, cE2, gE0, gE1, gE2, zE⟩ := row3 RE1.out
  clear hb1
  go_wp2_with fail
  refine (H1 _ S1.out.t).mono ?_
  rintro e w2 ⟨rfl, hb2⟩
  have S2 := Lib.hid (S1.out.on hb2)
  have RD2 := Lib.hid (row_on RD1.out hb2)
  have RE2 := Lib.hid (row_on RE1.out hb2)
  clear RD1 RE1
  clear cD0 cD1 cD2 gD0 gD1 gD2 zD
  obtain ⟨cD0, cD1, cD2, gD0, gD1, gD2, zD⟩ := row3 RD2.out
  clear cE0 cE1 cE2 gE0 gE1 gE2 zE
  obtain ⟨cE0, cE1, cE2, gE0, gE1, gE2, zE⟩ := row3 RE2.out
  clear hb2
  have nDX := Nat.ne_of_lt zD
  have nXD := (Nat.ne_of_lt zD).symm
  have nEX := Nat.ne_of_lt zE
  have nXE := (Nat.ne_of_lt zE).symm
  go_wp2_with fail
  refine (H2 _ (S2.out.al _).t).mono ?_
  rintro e w3 ⟨rfl, hb3⟩
  have S3 := Lib.hid ((S2.out.al _).on hb3)
  have RD3 := Lib.hid (row_on (row_al RD2.out (Obj.cells #[.int .i64 p, .int .i64 q, .int .i64 r] 23)) hb3)
  have RE3 := Lib.hid (row_on (row_al RE2.out (Obj.cells #[.int .i64 p, .int .i64 q, .int .i64 r] 23)) hb3)
  have RX3 := Lib.hid (row_on (heap_alloc_new w2 (Obj.cells #[.int .i64 p, .int .i64 q, .int .i64 r] 23)) hb3)
  clear RD2 RE2
  clear cD0 cD1 cD2 gD0 gD1 gD2 zD
  obtain ⟨cD0, cD1, cD2, gD0, gD1, gD2, zD⟩ := row3 RD3.out
  clear cE0 cE1 cE2 gE0 gE1 gE2 zE
  obtain ⟨cE0, cE1, cE2, gE0, gE1, gE2, zE⟩ := row3 RE3.out
  obtain ⟨cX0, cX1, cX2, gX0, gX1, gX2, zX⟩ := row3 RX3.out
  clear hb3
  have nDY := Nat.ne_of_lt zD
  have nYD := (Nat.ne_of_lt zD).symm
  have nEY := Nat.ne_of_lt zE
  have nYE := (Nat.ne_of_lt zE).symm
  have nXY := Nat.ne_of_lt zX
  have nYX := (Nat.ne_of_lt zX).symm
  have qD := row3 (row_al RD3.out (Obj.cells #[.int .i64 e0, .int .i64 e1, .int .i64 e2] 23))
  have qE := row3 (row_al RE3.out (Obj.cells #[.int .i64 e0, .int .i64 e1, .int .i64 e2] 23))
  have qX := row3 (row_al RX3.out (Obj.cells #[.int .i64 e0, .int .i64 e1, .int .i64 e2] 23))
  have qY := row3 (heap_alloc_new w3 (Obj.cells #[.int .i64 e0, .int .i64 e1, .int .i64 e2] 23))
  have Hs := Lib.hid (show Four W (W.heap.size) (W.heap.size + 1) (w2.heap.size) (w3.heap.size) y m d a b c p q r e0 e1 e2 _ from ⟨qD.1, qD.2.1, qD.2.2.1, qE.1, qE.2.1, qE.2.2.1, qX.1, qX.2.1, qX.2.2.1, qY.1, qY.2.1, qY.2.2.1, (S3.out.al _).b⟩).drew
  have Hx := fun (i j k i2 j2 k2 : Int) (hc : Cal.less i j k i2 j2 k2 = lt) u (h : Four W (W.heap.size) (W.heap.size + 1) (w2.heap.size) (w3.heap.size) y m d a b c p q r e0 e1 e2 u) => (rless_any i j k i2 j2 k2 u).mono (R' := fun e u' => e = .returned (.bool lt) ∧ Four W (W.heap.size) (W.heap.size + 1) (w2.heap.size) (w3.heap.size) y m d a b c p q r e0 e1 e2 u') fun e u' ⟨he, hb⟩ => ⟨by rw [he, hc], h.on hb⟩
  clear qD qE qX qY
  go_wp2_with fail
  go_region_held3 (fun u => u.cell? ⟨W.heap.size, 0, none⟩ = some (.int .i64 y) ∧ u.cell? ⟨W.heap.size, 1, none⟩ = some (.int .i64 m) ∧ u.cell? ⟨W.heap.size, 2, none⟩ = some (.int .i64 d) ∧ u.cell? ⟨W.heap.size + 1, 0, none⟩ = some (.int .i64 a) ∧ u.cell? ⟨W.heap.size + 1, 1, none⟩ = some (.int .i64 b) ∧ u.cell? ⟨W.heap.size + 1, 2, none⟩ = some (.int .i64 c) ∧ u.cell? ⟨w2.heap.size, 0, none⟩ = some (.int .i64 p) ∧ u.cell? ⟨w2.heap.size, 1, none⟩ = some (.int .i64 q) ∧ u.cell? ⟨w2.heap.size, 2, none⟩ = some (.int .i64 r) ∧ u.cell? ⟨w3.heap.size, 0, none⟩ = some (.int .i64 e0) ∧ u.cell? ⟨w3.heap.size, 1, none⟩ = some (.int .i64 e1) ∧ u.cell? ⟨w3.heap.size, 2, none⟩ = some (.int .i64 e2) ∧ Below W.heap.size W u)
    (first | exact Hs.out | assumption)
    (first | (go_at_call 27; refine (Hx _ _ _ _ _ _ (by assumption) _ (by assumption)).mono ?_; rintro e1 w' ⟨rfl, hs'⟩) | fail)
  have B := Lib.hid hs'.2.2.2.2.2.2.2.2.2.2.2.2
  go_wp2
  go_ret
  exact ⟨rfl, B.out⟩
/-- The order of two dates and of the same days' dates in the other calendar. -/
theorem cv_order {f g y m d a b c : Int} (hg : okC g = true) (h1 : vE y m d f g = 0) (h2 : vE a b c f g = 0) :
    Cal.less y m d a b c = Cal.less (vY y m d f g) (vM y m d f g) (vD y m d f g) (vY a b c f g) (vM a b c f g) (vD a b c f g) ∧
    decide (y = a ∧ m = b ∧ d = c) = decide (vY y m d f g = vY a b c f g ∧ vM y m d f g = vM a b c f g ∧ vD y m d f g = vD a b c f g) := by
  have P : ∀ y m d, vE y m d f g = 0 → (calOf f).vld y m d = true ∧ (calOf g).vld (vY y m d f g) (vM y m d f g) (vD y m d f g) = true ∧ (calOf g).num (vY y m d f g) (vM y m d f g) (vD y m d f g) = (calOf f).num y m d := by
    intro y m d h
    have h0 := h
    unfold vE at h
    rw [if_pos hg] at h
    split at h
    · rename_i t0
      obtain ⟨_, hv, hn⟩ := tE_zero t0
      obtain ⟨v1, v2⟩ := fE_in h
      have e1 : vY y m d f g = fY g (tN f y m d) := by unfold vY; rw [if_pos h0]
      have e2 : vM y m d f g = fM g (tN f y m d) := by unfold vM; rw [if_pos h0]
      have e3 : vD y m d f g = fD g (tN f y m d) := by unfold vD; rw [if_pos h0]
      rw [e1, e2, e3]
      exact ⟨hv, v1, by rw [v2, hn]⟩
    · rename_i t0; exact absurd h t0
  obtain ⟨p1, p2, p3⟩ := P y m d h1
  obtain ⟨q1, q2, q3⟩ := P a b c h2
  refine ⟨?_, ?_⟩
  · rw [← (calOf f).num_lt_iff p1 q1, ← (calOf g).num_lt_iff p2 q2, p3, q3]
  · rw [Bool.eq_iff_iff, decide_eq_true_iff, decide_eq_true_iff]
    constructor
    · rintro ⟨rfl, rfl, rfl⟩; exact ⟨rfl, rfl, rfl⟩
    · rintro ⟨e1, e2, e3⟩
      have : (calOf f).num y m d = (calOf f).num a b c := by rw [← p3, ← q3, e1, e2, e3]
      exact (calOf f).num_inj p1 q1 this
theorem walk (u y m d a b c : Int) (w0 : (Lit.int .u8 u).wf = true) (w1 : (Lit.int .i64 y).wf = true) (w2 : (Lit.int .i64 m).wf = true) (w3 : (Lit.int .i64 d).wf = true) (w4 : (Lit.int .i64 a).wf = true) (w5 : (Lit.int .i64 b).wf = true) (w6 : (Lit.int .i64 c).wf = true) (W : World) (ht : CTab W) :
    Calls Tryd.prog 7 #[.int .u8 u, dtv y m d, dtv a b c] W fun e w' => e = .returned (.bool true) ∧ Below W.heap.size W w' := by
  have hb := bounds_u8 w0
  obtain ⟨hK, hT⟩ := kfacts hb.1 hb.2
  have H1 := fun w ht => ccv_all (1 + u % 2) y m d w ht (3 - (1 + u % 2))
  have H2 := fun w ht => ccv_all (1 + u % 2) a b c w ht (3 - (1 + u % 2))
  by_cases h1 : vE y m d (1 + u % 2) (3 - (1 + u % 2)) = 0
  · by_cases h2 : vE a b c (1 + u % 2) (3 - (1 + u % 2)) = 0
    · obtain ⟨o1, o2⟩ := cv_order hT h1 h2
      rw [h1] at H1
      rw [h2] at H2
      exact walk_ok u y m d a b c _ _ _ _ _ _ hb.1 hb.2 H1 H2 _ _ rfl o1.symm (fun w => eql_date y m d a b c w) (fun w => by rw [o2]; exact eql_date _ _ _ _ _ _ w) W ht
    · rw [h1] at H1
      exact walk_e2 u y m d a b c _ _ _ _ _ _ _ hb.1 hb.2 H1 H2 (tE_ne h2) W ht
  · exact walk_e1 u y m d a b c _ _ _ _ _ _ _ _ hb.1 hb.2 H1 H2 (tE_ne h1) W ht

/-! ### the row's step -/
set_option maxRecDepth 100000 in
theorem lifted (os : Os) (started : os.Started) (H : Type) (enc : TypeId × Value → H) :
    ReturnsInHanded {} Tryd.checked os 7 .any (fun w args => (Rows.civilOrderSpec.pre enc Tryd.prog Tryd.f7 [] false w args ∧ laidMetH Tryd.prog laidL w) ∧ sizedMet enc Tryd.prog Tryd.f7 (OpenSpec.ofChange Rows.civilOrderSpec) false w args)
      (Rows.civilOrderSpec.post enc Tryd.prog Tryd.f7 false true false false) := by
  refine returnsInHanded_of_change_and (C := Tryd.checked) (X := fun w _ => laidMetH Tryd.prog laidL w) (fun _ _ _ hh h => h.of_heap hh) own started (by kernel_rfl) Tryd.func7
    (ChangeSpec.witness_shaped (enc := enc) (C := Tryd.checked) (os := os) (X := fun w _ => laidMetH Tryd.prog laidL w) false (World.doorLaid Tryd.prog 400 os) #[.int .u8 0, .agg #[.int .i64 0, .int .i64 0, .int .i64 0], .agg #[.int .i64 0, .int .i64 0, .int .i64 0]] 8 rfl (World.shaped_of_RefB (by kernel_rfl) (by kernel_rfl)) (by kernel_rfl) (by kernel_rfl) (by kernel_rfl) (door_met os _)) ?_
  intro W base args ds gs before hval0 hW _ _ hL _
  have hval : ∀ (j : Nat) t v, Tryd.f7.params[j]? = some t → args[j]? = some v → Value.okWide Tryd.prog W .any base t v := hval0
  have hW' := hW
  obtain ⟨p, q, hA0, hV, rfl, hfz, hnd⟩ := hW
  have hA : DataW.TrodAll enc Tryd.prog W 0 (fun _ => true) true Tryd.f7.params.toList args.toList ds p := hA0
  rw [Tryd.params7] at hA hval
  obtain ⟨v0, vs0, d0, ds0, p0, q0, hargs, rfl, rfl, h0, r0⟩ := trodAll_cons hA
  obtain ⟨v1, vs1, d1, ds1, p1, q1, rfl, rfl, rfl, h1, r1⟩ := trodAll_cons r0
  obtain ⟨v2, vs2, d2, ds2, p2, q2, rfl, rfl, rfl, h2, r2⟩ := trodAll_cons r1
  obtain ⟨rfl, rfl, rfl⟩ := trodAll_nil r2
  obtain rfl : args = #[v0, v1, v2] := by cases args; simp_all
  obtain ⟨rfl, rfl⟩ := trodVars_none hV
  obtain ⟨a0, rfl, rfl, rfl, w0⟩ := open_int Tryd.underlying5 (hval 0 5 v0 rfl rfl) h0
  obtain ⟨c1_0, c1_1, c1_2, y1_0, y1_1, y1_2, m1, rfl, rfl, rfl, hy1_0, hy1_1, hy1_2⟩ := open_agg3 Tryd.underlying23 (by kernel_rfl) (show Tryd.prog.cellsOf 23 = 3 by kernel_rfl) (hval 1 23 v1 rfl rfl) h1
  obtain ⟨f1_0, e1_0, rfl, w1_0⟩ := DataW.trod_int Tryd.underlying3 hy1_0
  simp at e1_0; subst e1_0
  obtain ⟨f1_1, e1_1, rfl, w1_1⟩ := DataW.trod_int Tryd.underlying3 hy1_1
  simp at e1_1; subst e1_1
  obtain ⟨f1_2, e1_2, rfl, w1_2⟩ := DataW.trod_int Tryd.underlying3 hy1_2
  simp at e1_2; subst e1_2
  obtain ⟨c2_0, c2_1, c2_2, y2_0, y2_1, y2_2, m2, rfl, rfl, rfl, hy2_0, hy2_1, hy2_2⟩ := open_agg3 Tryd.underlying23 (by kernel_rfl) (show Tryd.prog.cellsOf 23 = 3 by kernel_rfl) (hval 2 23 v2 rfl rfl) h2
  obtain ⟨f2_0, e2_0, rfl, w2_0⟩ := DataW.trod_int Tryd.underlying3 hy2_0
  simp at e2_0; subst e2_0
  obtain ⟨f2_1, e2_1, rfl, w2_1⟩ := DataW.trod_int Tryd.underlying3 hy2_1
  simp at e2_1; subst e2_1
  obtain ⟨f2_2, e2_2, rfl, w2_2⟩ := DataW.trod_int Tryd.underlying3 hy2_2
  simp at e2_2; subst e2_2
  clear hA0 hval0
  simp only [List.append_nil] at hW'
  have sr1 : ∀ (W' : World) (sp : Nat → Bool), DataW.Trod enc Tryd.prog W' 0 sp true 23 (.agg #[.int .i64 f1_0, .int .i64 f1_1, .int .i64 f1_2]) (.agg [.lit (.int .i64 f1_0), .lit (.int .i64 f1_1), .lit (.int .i64 f1_2)]) [] := fun W' sp =>
    shut_agg3 (y0 := (.lit (.int .i64 f1_0), [])) (y1 := (.lit (.int .i64 f1_1), [])) (y2 := (.lit (.int .i64 f1_2), [])) Tryd.underlying23 (by kernel_rfl) (show Tryd.prog.cellsOf 23 = 3 by kernel_rfl) ⟨1, by simp [DataW.trod, Tryd.underlying3, w1_0]⟩ ⟨1, by simp [DataW.trod, Tryd.underlying3, w1_1]⟩ ⟨1, by simp [DataW.trod, Tryd.underlying3, w1_2]⟩
  have sr2 : ∀ (W' : World) (sp : Nat → Bool), DataW.Trod enc Tryd.prog W' 0 sp true 23 (.agg #[.int .i64 f2_0, .int .i64 f2_1, .int .i64 f2_2]) (.agg [.lit (.int .i64 f2_0), .lit (.int .i64 f2_1), .lit (.int .i64 f2_2)]) [] := fun W' sp =>
    shut_agg3 (y0 := (.lit (.int .i64 f2_0), [])) (y1 := (.lit (.int .i64 f2_1), [])) (y2 := (.lit (.int .i64 f2_2), [])) Tryd.underlying23 (by kernel_rfl) (show Tryd.prog.cellsOf 23 = 3 by kernel_rfl) ⟨1, by simp [DataW.trod, Tryd.underlying3, w2_0]⟩ ⟨1, by simp [DataW.trod, Tryd.underlying3, w2_1]⟩ ⟨1, by simp [DataW.trod, Tryd.underlying3, w2_2]⟩
  refine (walk a0 f1_0 f1_1 f1_2 f2_0 f2_1 f2_2 w0 w1_0 w1_1 w1_2 w2_0 w2_1 w2_2 W (laid_facts hL)).mono fun e W' ⟨he, bel⟩ => ?_
  subst he
  exact ⟨_, rfl, _, _, _, [], _, [], hW', trodAll_mk1 (shut_bool Tryd.underlying4 _), (trodAll_cons_mk (shut_int Tryd.underlying5 w0) (trodAll_cons_mk (sr1 _ _) (trodAll_cons_mk (sr2 _ _) trodAll_mk0))), rfl, bel.frame _, fun h => by cases h⟩

theorem over : Rows.civilOrderRow.holds Tryd.pinned (OpenSpec.ofChange Rows.civilOrderSpec) :=
  OpenClaim.holds_of_wide 7 Tryd.f7 rfl rfl rfl rfl rfl rfl rfl ⟨rfl, rfl, rfl, rfl, rfl⟩ rfl rfl rfl rfl rfl (by kernel_rfl) Tryd.func7 (by kernel_rfl)
    (of_decide_eq_true (by kernel_rfl)) (by unfold Func.isWrapper; first | (rw [if_pos (by decide +kernel)]; kernel_rfl) | (rw [if_neg (by decide +kernel)]; exact ⟨rfl, rfl⟩))
    (fun os started H enc _ => lifted os started H enc)

/-- The statement: the tied card. -/
theorem proved : Rows.CivilOrderCardSaid :=
  Claim7.holds_tied_plain_at .later [] [.data, .data, .data] true (true, "9484c15c1b8584f9bd4f7ea5aa595545c02681c034fbe158da6ebf60820e8177") false
    over (fun _ h => by cases h) (by kernel_rfl) (fun _ h => by cases h) civilOrder_row_tie rfl ⟨rfl, rfl⟩ (by kernel_rfl) rfl
    (fun f fn hf hfn => by
      obtain rfl : f = 7 := Option.some.inj ((show Tryd.prog.funcNamed "computus/computuslaw05.CivilOrder" = some 7 by kernel_rfl).symm.trans hf) |>.symm
      obtain rfl : fn = Tryd.f7 := (Option.some.inj (Tryd.func7.symm.trans hfn)).symm
      exact ⟨by kernel_rfl, fun j t ht => by
        rw [Tryd.params7] at ht
        have hm : t ∈ [5, 23, 23] := by simpa using Array.mem_of_getElem? ht
        have hall : ([5, 23, 23].all fun u => !Tryd.prog.wantsStandIn u) = true := by kernel_rfl
        exact (show Tryd.prog.wantsStandIn t = false by simpa using List.all_eq_true.1 hall t hm)⟩)
    (by kernel_rfl)
#print axioms proved
end Go.Proofs.YtdnglkccdmlplaaDoor.civilOrder
