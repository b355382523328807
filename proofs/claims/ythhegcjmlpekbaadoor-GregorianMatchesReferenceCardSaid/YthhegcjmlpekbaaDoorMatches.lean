/- Proved: for every date, number, year and month, the law GregorianMatchesReference of package computuslaw03 (all functions return what the reference implementation returns) returns true, and what was in memory is as it was. Condition: the two tables of package gregorian (the lengths of the months, the groups of years) read as the program's text lays them (the card ties them). -/
import Derived.Test.YthhegcjmlpekbaaDoorGg
import Derived.Test.YthhegcjmlpekbaaDoorGy
import Derived.WalkKit
import Derived.ProofKit
import Derived.OpenShut
import Derived.ShutString
import Derived.Lib.SmallJoins
import Derived.Deep.RegionHeld3
import Derived.LaidMore
import Derived.Stop.Joined
import Derived.SevenTiedAt
import Derived.Test.YthhegcjmlpekbaaDoorCards
import Derived.Test.YthhegcjmlpekbaaDoorTie
namespace Go.Proofs.YthhegcjmlpekbaaDoor.gregorianMatchesReference
open Go.ChangeShapes Go.WideShapes Go.ChangeAt Go.RowKit Go.Joins
open Go.ChangeMaps (open_string shut_string)
set_option linter.unusedVariables false      -- a walk need not use every fact

def Three (W : World) (b1 b2 b3 : Nat) (y m d p q r : Int) (u : World) : Prop := One W b1 y m d u ∧ One W b2 p q r u ∧ One W b3 p q r u ∧ GTab u
theorem Three.on {W : World} {b1 b2 b3 : Nat} {y m d p q r : Int} {u u' : World} (h : Three W b1 b2 b3 y m d p q r u) (hb : Below u.heap.size u u') : Three W b1 b2 b3 y m d p q r u' :=
  ⟨h.1.on hb, h.2.1.on hb, h.2.2.1.on hb, h.2.2.2.on hb⟩

set_option maxRecDepth 100000 in
set_option maxHeartbeats 8000000 in
theorem walk_yes (y m d n year month R E p q r G DM : Int) (LP V : Bool)
    (ha : (∀ w, GTab w → Calls Tryd.prog 10 #[.agg #[.int .i64 y, .int .i64 m, .int .i64 d]] w fun e w' => e = .returned (.tuple #[.int .i64 R, .int .i64 E]) ∧ Below w.heap.size w w'))
    (hb : (∀ w, Calls Tryd.prog 11 #[.agg #[.int .i64 y, .int .i64 m, .int .i64 d]] w fun e w' => e = .returned (.tuple #[.int .i64 R, .int .i64 E]) ∧ Below w.heap.size w w'))
    (hx : (∀ w, GTab w → Calls Tryd.prog 12 #[.int .i64 n] w fun e w' => e = .returned (.tuple #[.agg #[.int .i64 p, .int .i64 q, .int .i64 r], .int .i64 G]) ∧ Below w.heap.size w w'))
    (hy : (∀ w, Calls Tryd.prog 13 #[.int .i64 n] w fun e w' => e = .returned (.tuple #[.agg #[.int .i64 p, .int .i64 q, .int .i64 r], .int .i64 G]) ∧ Below w.heap.size w w'))
    (K : Int) (hf : (∀ w, Calls Tryd.prog 14 #[.int .i64 year] w fun e w' => e = .returned (.tuple #[.int .i64 K, .int .i64 0]) ∧ w = w')) (hi : (∀ w, Calls Tryd.prog 15 #[.int .i64 year] w fun e w' => e = .returned (.bool true) ∧ w = w')) (hrf : (∀ w, Calls Tryd.prog 16 #[.int .i64 year] w fun e w' => e = .returned (.int .i64 K) ∧ w = w'))
    (hp : (∀ w, Calls Tryd.prog 17 #[.int .i64 year] w fun e w' => e = .returned (.bool LP) ∧ w = w'))
    (hq : (∀ w, Calls Tryd.prog 18 #[.int .i64 year] w fun e w' => e = .returned (.bool LP) ∧ w = w'))
    (hl : (∀ w, GTab w → Calls Tryd.prog 19 #[.int .i64 year, .int .i64 month] w fun e w' => e = .returned (.int .i64 DM) ∧ w = w'))
    (hm : (∀ w, Calls Tryd.prog 20 #[.bool LP, .int .i64 month] w fun e w' => e = .returned (.int .i64 DM) ∧ w = w'))
    (hv : (∀ w, GTab w → Calls Tryd.prog 21 #[.agg #[.int .i64 y, .int .i64 m, .int .i64 d]] w fun e w' => e = .returned (.bool V) ∧ Below w.heap.size w w'))
    (hw : (∀ w, Calls Tryd.prog 22 #[.agg #[.int .i64 y, .int .i64 m, .int .i64 d]] w fun e w' => e = .returned (.bool V) ∧ Below w.heap.size w w'))
    (W : World) (ht : GTab W) :
    Calls Tryd.prog 3 #[.agg #[.int .i64 y, .int .i64 m, .int .i64 d], .int .i64 n, .int .i64 year, .int .i64 month] W fun e w' => e = .returned (.bool true) ∧ Below W.heap.size W w' := by
  have Ht0 := Lib.hid (ht.al (Obj.cells #[Value.int IntKind.i64 y, Value.int IntKind.i64 m, Value.int IntKind.i64 d] 23))
  clear ht
  go_enter Tryd.func3, Tryd.ntmps3
  go_wp2_with fail
  refine (gawake_any _ Ht0.out).mono ?_
  rintro e w1 ⟨rfl, hb1⟩
  have hs1 : Hid (One W W.heap.size y m d w1) := One.on (⟨by go_simp, by go_simp, by go_simp, (Below.refl _ _).alloc (Nat.le_refl _) _⟩ : One W W.heap.size y m d (W.alloc (Obj.cells #[Value.int IntKind.i64 y, Value.int IntKind.i64 m, Value.int IntKind.i64 d] 23))) hb1
  have Ht1 := Lib.hid (Ht0.out.on hb1)
  clear hb1
  obtain ⟨c0, c1, c2, _⟩ := hs1.out
  go_wp2_with fail
  refine (ha _ Ht1.out).mono ?_
  rintro e w2 ⟨rfl, hb2⟩
  have hs2 := Lib.hid (hs1.out.on hb2)
  have Ht2 := Lib.hid (Ht1.out.on hb2)
  clear hb2 c0 c1 c2
  obtain ⟨c0, c1, c2, _⟩ := hs2.out
  go_wp2_with fail
  refine (hb _).mono ?_
  rintro e w3 ⟨rfl, hb3⟩
  have hs3 := Lib.hid (hs2.out.on hb3)
  have Ht3 := Lib.hid (Ht2.out.on hb3)
  clear hb3 c0 c1 c2
  go_wp2_with fail
  refine (hx _ Ht3.out).mono ?_
  rintro e w4 ⟨rfl, hb4⟩
  have hs4 := Lib.hid (hs3.out.on hb4)
  have Ht4 := Lib.hid (Ht3.out.on hb4)
  have hs4a : Hid (One W w4.heap.size p q r (w4.alloc (Obj.cells #[Value.int IntKind.i64 p, Value.int IntKind.i64 q, Value.int IntKind.i64 r] 23))) := ⟨by go_simp, by go_simp, by go_simp, hs4.out.2.2.2.alloc hs4.out.2.2.2.size _⟩
  have hs4b := Lib.hid (hs4.out.on ((Below.refl _ _).alloc (o := (Obj.cells #[Value.int IntKind.i64 p, Value.int IntKind.i64 q, Value.int IntKind.i64 r] 23)) (Nat.le_refl _)))
  have Ht4a := Lib.hid (Ht4.out.al (Obj.cells #[Value.int IntKind.i64 p, Value.int IntKind.i64 q, Value.int IntKind.i64 r] 23))
  clear hb4
  go_wp2_with fail
  refine (hy _).mono ?_
  rintro e w5 ⟨rfl, hb5⟩
  have hs5 := Lib.hid (hs4b.out.on hb5)
  have hx5 := Lib.hid (hs4a.out.on hb5)
  have Ht5 := Lib.hid (Ht4a.out.on hb5)
  clear hb5
  have hs6 := Lib.hid (hs5.out.on ((Below.refl _ _).alloc (o := (Obj.cells #[Value.int IntKind.i64 p, Value.int IntKind.i64 q, Value.int IntKind.i64 r] 23)) (Nat.le_refl _)))
  have hx6 := Lib.hid (hx5.out.on ((Below.refl _ _).alloc (o := (Obj.cells #[Value.int IntKind.i64 p, Value.int IntKind.i64 q, Value.int IntKind.i64 r] 23)) (Nat.le_refl _)))
  have hy6 : Hid (One W w5.heap.size p q r (w5.alloc (Obj.cells #[Value.int IntKind.i64 p, Value.int IntKind.i64 q, Value.int IntKind.i64 r] 23))) := ⟨by go_simp, by go_simp, by go_simp, hs6.out.2.2.2⟩
  have Ht6 := Lib.hid (Ht5.out.al (Obj.cells #[Value.int IntKind.i64 p, Value.int IntKind.i64 q, Value.int IntKind.i64 r] 23))
  have dr := fun u : World => below_dn (Below.refl u.heap.size u) 1
  have St : Hid (Three W W.heap.size w4.heap.size w5.heap.size y m d p q r (w5.alloc (Obj.cells #[Value.int IntKind.i64 p, Value.int IntKind.i64 q, Value.int IntKind.i64 r] 23)).drew) := ⟨hs6.out.on (dr _), hx6.out.on (dr _), hy6.out.on (dr _), Ht6.out.on (dr _)⟩
  clear hs1 hs2 hs3 hs4 hs5 hs6 hs4a hs4b hx5 hx6 hy6 Ht0 Ht1 Ht2 Ht3 Ht4 Ht4a Ht5 Ht6 dr ha hb hx hy
  have Hl := fun u (h : Three W W.heap.size w4.heap.size w5.heap.size y m d p q r u) => hl u h.2.2.2
  have Hv := fun u (h : Three W W.heap.size w4.heap.size w5.heap.size y m d p q r u) => (hv u h.2.2.2).mono (R' := fun e u' => e = .returned (.bool V) ∧ Three W W.heap.size w4.heap.size w5.heap.size y m d p q r u') fun e u' ⟨he, hb⟩ => ⟨he, h.on hb⟩
  have Hw := fun u (h : Three W W.heap.size w4.heap.size w5.heap.size y m d p q r u) => (hw u).mono (R' := fun e u' => e = .returned (.bool V) ∧ Three W W.heap.size w4.heap.size w5.heap.size y m d p q r u') fun e u' ⟨he, hb⟩ => ⟨he, h.on hb⟩
  clear hl hv hw
  go_wp2_with fail
  refine (hf _).mono ?_
  rintro e w6 ⟨rfl, rfl⟩
  go_wp2_with (first | (go_at_call 15; refine (hi _).mono ?_; rintro e w6 ⟨rfl, rfl⟩) | (go_at_call 16; refine (hrf _).mono ?_; rintro e w6 ⟨rfl, rfl⟩))
  go_region_held3 (fun u => (u.cell? ⟨W.heap.size, 0, none⟩ = some (.int .i64 y) ∧ u.cell? ⟨W.heap.size, 1, none⟩ = some (.int .i64 m) ∧ u.cell? ⟨W.heap.size, 2, none⟩ = some (.int .i64 d) ∧ Below W.heap.size W u) ∧
      (u.cell? ⟨w4.heap.size, 0, none⟩ = some (.int .i64 p) ∧ u.cell? ⟨w4.heap.size, 1, none⟩ = some (.int .i64 q) ∧ u.cell? ⟨w4.heap.size, 2, none⟩ = some (.int .i64 r) ∧ Below W.heap.size W u) ∧
      (u.cell? ⟨w5.heap.size, 0, none⟩ = some (.int .i64 p) ∧ u.cell? ⟨w5.heap.size, 1, none⟩ = some (.int .i64 q) ∧ u.cell? ⟨w5.heap.size, 2, none⟩ = some (.int .i64 r) ∧ Below W.heap.size W u) ∧ GTab u)
    (first | exact St.out | assumption)
    (first
      | (go_at_call 17; refine (hp _).mono ?_; rintro e w' ⟨rfl, rfl⟩)
      | (go_at_call 18; refine (hq _).mono ?_; rintro e w' ⟨rfl, rfl⟩)
      | (go_at_call 20; refine (hm _).mono ?_; rintro e w' ⟨rfl, rfl⟩)
      | (go_at_call 19; refine (Hl _ (by assumption)).mono ?_; rintro e w' ⟨rfl, rfl⟩)
      | (go_at_call 21; refine (Hv _ (by assumption)).mono ?_; rintro e w' ⟨rfl, hs'⟩)
      | (go_at_call 22; refine (Hw _ (by assumption)).mono ?_; rintro e w' ⟨rfl, hs'⟩))
  have B := Lib.hid hs'.1.2.2.2
  go_wp2
  go_ret
  exact ⟨rfl, B.out⟩

set_option maxRecDepth 100000 in
set_option maxHeartbeats 8000000 in
theorem walk_no (y m d n year month R E p q r G DM : Int) (LP V : Bool)
    (ha : (∀ w, GTab w → Calls Tryd.prog 10 #[.agg #[.int .i64 y, .int .i64 m, .int .i64 d]] w fun e w' => e = .returned (.tuple #[.int .i64 R, .int .i64 E]) ∧ Below w.heap.size w w'))
    (hb : (∀ w, Calls Tryd.prog 11 #[.agg #[.int .i64 y, .int .i64 m, .int .i64 d]] w fun e w' => e = .returned (.tuple #[.int .i64 R, .int .i64 E]) ∧ Below w.heap.size w w'))
    (hx : (∀ w, GTab w → Calls Tryd.prog 12 #[.int .i64 n] w fun e w' => e = .returned (.tuple #[.agg #[.int .i64 p, .int .i64 q, .int .i64 r], .int .i64 G]) ∧ Below w.heap.size w w'))
    (hy : (∀ w, Calls Tryd.prog 13 #[.int .i64 n] w fun e w' => e = .returned (.tuple #[.agg #[.int .i64 p, .int .i64 q, .int .i64 r], .int .i64 G]) ∧ Below w.heap.size w w'))
    (hf : (∀ w, Calls Tryd.prog 14 #[.int .i64 year] w fun e w' => e = .returned (.tuple #[.int .i64 0, .int .i64 1]) ∧ w = w')) (hi : (∀ w, Calls Tryd.prog 15 #[.int .i64 year] w fun e w' => e = .returned (.bool false) ∧ w = w'))
    (hp : (∀ w, Calls Tryd.prog 17 #[.int .i64 year] w fun e w' => e = .returned (.bool LP) ∧ w = w'))
    (hq : (∀ w, Calls Tryd.prog 18 #[.int .i64 year] w fun e w' => e = .returned (.bool LP) ∧ w = w'))
    (hl : (∀ w, GTab w → Calls Tryd.prog 19 #[.int .i64 year, .int .i64 month] w fun e w' => e = .returned (.int .i64 DM) ∧ w = w'))
    (hm : (∀ w, Calls Tryd.prog 20 #[.bool LP, .int .i64 month] w fun e w' => e = .returned (.int .i64 DM) ∧ w = w'))
    (hv : (∀ w, GTab w → Calls Tryd.prog 21 #[.agg #[.int .i64 y, .int .i64 m, .int .i64 d]] w fun e w' => e = .returned (.bool V) ∧ Below w.heap.size w w'))
    (hw : (∀ w, Calls Tryd.prog 22 #[.agg #[.int .i64 y, .int .i64 m, .int .i64 d]] w fun e w' => e = .returned (.bool V) ∧ Below w.heap.size w w'))
    (W : World) (ht : GTab W) :
    Calls Tryd.prog 3 #[.agg #[.int .i64 y, .int .i64 m, .int .i64 d], .int .i64 n, .int .i64 year, .int .i64 month] W fun e w' => e = .returned (.bool true) ∧ Below W.heap.size W w' := by
  have Ht0 := Lib.hid (ht.al (Obj.cells #[Value.int IntKind.i64 y, Value.int IntKind.i64 m, Value.int IntKind.i64 d] 23))
  clear ht
  go_enter Tryd.func3, Tryd.ntmps3
  go_wp2_with fail
  refine (gawake_any _ Ht0.out).mono ?_
  rintro e w1 ⟨rfl, hb1⟩
  have hs1 : Hid (One W W.heap.size y m d w1) := One.on (⟨by go_simp, by go_simp, by go_simp, (Below.refl _ _).alloc (Nat.le_refl _) _⟩ : One W W.heap.size y m d (W.alloc (Obj.cells #[Value.int IntKind.i64 y, Value.int IntKind.i64 m, Value.int IntKind.i64 d] 23))) hb1
  have Ht1 := Lib.hid (Ht0.out.on hb1)
  clear hb1
  obtain ⟨c0, c1, c2, _⟩ := hs1.out
  go_wp2_with fail
  refine (ha _ Ht1.out).mono ?_
  rintro e w2 ⟨rfl, hb2⟩
  have hs2 := Lib.hid (hs1.out.on hb2)
  have Ht2 := Lib.hid (Ht1.out.on hb2)
  clear hb2 c0 c1 c2
  obtain ⟨c0, c1, c2, _⟩ := hs2.out
  go_wp2_with fail
  refine (hb _).mono ?_
  rintro e w3 ⟨rfl, hb3⟩
  have hs3 := Lib.hid (hs2.out.on hb3)
  have Ht3 := Lib.hid (Ht2.out.on hb3)
  clear hb3 c0 c1 c2
  go_wp2_with fail
  refine (hx _ Ht3.out).mono ?_
  rintro e w4 ⟨rfl, hb4⟩
  have hs4 := Lib.hid (hs3.out.on hb4)
  have Ht4 := Lib.hid (Ht3.out.on hb4)
  have hs4a : Hid (One W w4.heap.size p q r (w4.alloc (Obj.cells #[Value.int IntKind.i64 p, Value.int IntKind.i64 q, Value.int IntKind.i64 r] 23))) := ⟨by go_simp, by go_simp, by go_simp, hs4.out.2.2.2.alloc hs4.out.2.2.2.size _⟩
  have hs4b := Lib.hid (hs4.out.on ((Below.refl _ _).alloc (o := (Obj.cells #[Value.int IntKind.i64 p, Value.int IntKind.i64 q, Value.int IntKind.i64 r] 23)) (Nat.le_refl _)))
  have Ht4a := Lib.hid (Ht4.out.al (Obj.cells #[Value.int IntKind.i64 p, Value.int IntKind.i64 q, Value.int IntKind.i64 r] 23))
  clear hb4
  go_wp2_with fail
  refine (hy _).mono ?_
  rintro e w5 ⟨rfl, hb5⟩
  have hs5 := Lib.hid (hs4b.out.on hb5)
  have hx5 := Lib.hid (hs4a.out.on hb5)
  have Ht5 := Lib.hid (Ht4a.out.on hb5)
  clear hb5
  have hs6 := Lib.hid (hs5.out.on ((Below.refl _ _).alloc (o := (Obj.cells #[Value.int IntKind.i64 p, Value.int IntKind.i64 q, Value.int IntKind.i64 r] 23)) (Nat.le_refl _)))
  have hx6 := Lib.hid (hx5.out.on ((Below.refl _ _).alloc (o := (Obj.cells #[Value.int IntKind.i64 p, Value.int IntKind.i64 q, Value.int IntKind.i64 r] 23)) (Nat.le_refl _)))
  have hy6 : Hid (One W w5.heap.size p q r (w5.alloc (Obj.cells #[Value.int IntKind.i64 p, Value.int IntKind.i64 q, Value.int IntKind.i64 r] 23))) := ⟨by go_simp, by go_simp, by go_simp, hs6.out.2.2.2⟩
  have Ht6 := Lib.hid (Ht5.out.al (Obj.cells #[Value.int IntKind.i64 p, Value.int IntKind.i64 q, Value.int IntKind.i64 r] 23))
  have dr := fun u : World => below_dn (Below.refl u.heap.size u) 1
  have St : Hid (Three W W.heap.size w4.heap.size w5.heap.size y m d p q r (w5.alloc (Obj.cells #[Value.int IntKind.i64 p, Value.int IntKind.i64 q, Value.int IntKind.i64 r] 23)).drew) := ⟨hs6.out.on (dr _), hx6.out.on (dr _), hy6.out.on (dr _), Ht6.out.on (dr _)⟩
  clear hs1 hs2 hs3 hs4 hs5 hs6 hs4a hs4b hx5 hx6 hy6 Ht0 Ht1 Ht2 Ht3 Ht4 Ht4a Ht5 Ht6 dr ha hb hx hy
  have Hl := fun u (h : Three W W.heap.size w4.heap.size w5.heap.size y m d p q r u) => hl u h.2.2.2
  have Hv := fun u (h : Three W W.heap.size w4.heap.size w5.heap.size y m d p q r u) => (hv u h.2.2.2).mono (R' := fun e u' => e = .returned (.bool V) ∧ Three W W.heap.size w4.heap.size w5.heap.size y m d p q r u') fun e u' ⟨he, hb⟩ => ⟨he, h.on hb⟩
  have Hw := fun u (h : Three W W.heap.size w4.heap.size w5.heap.size y m d p q r u) => (hw u).mono (R' := fun e u' => e = .returned (.bool V) ∧ Three W W.heap.size w4.heap.size w5.heap.size y m d p q r u') fun e u' ⟨he, hb⟩ => ⟨he, h.on hb⟩
  clear hl hv hw
  go_wp2_with fail
  refine (hf _).mono ?_
  rintro e w6 ⟨rfl, rfl⟩
  go_wp2_with (go_at_call 15; refine (hi _).mono ?_; rintro e w6 ⟨rfl, rfl⟩)
  go_region_held3 (fun u => (u.cell? ⟨W.heap.size, 0, none⟩ = some (.int .i64 y) ∧ u.cell? ⟨W.heap.size, 1, none⟩ = some (.int .i64 m) ∧ u.cell? ⟨W.heap.size, 2, none⟩ = some (.int .i64 d) ∧ Below W.heap.size W u) ∧
      (u.cell? ⟨w4.heap.size, 0, none⟩ = some (.int .i64 p) ∧ u.cell? ⟨w4.heap.size, 1, none⟩ = some (.int .i64 q) ∧ u.cell? ⟨w4.heap.size, 2, none⟩ = some (.int .i64 r) ∧ Below W.heap.size W u) ∧
      (u.cell? ⟨w5.heap.size, 0, none⟩ = some (.int .i64 p) ∧ u.cell? ⟨w5.heap.size, 1, none⟩ = some (.int .i64 q) ∧ u.cell? ⟨w5.heap.size, 2, none⟩ = some (.int .i64 r) ∧ Below W.heap.size W u) ∧ GTab u)
    (first | exact St.out | assumption)
    (first
      | (go_at_call 17; refine (hp _).mono ?_; rintro e w' ⟨rfl, rfl⟩)
      | (go_at_call 18; refine (hq _).mono ?_; rintro e w' ⟨rfl, rfl⟩)
      | (go_at_call 20; refine (hm _).mono ?_; rintro e w' ⟨rfl, rfl⟩)
      | (go_at_call 19; refine (Hl _ (by assumption)).mono ?_; rintro e w' ⟨rfl, rfl⟩)
      | (go_at_call 21; refine (Hv _ (by assumption)).mono ?_; rintro e w' ⟨rfl, hs'⟩)
      | (go_at_call 22; refine (Hw _ (by assumption)).mono ?_; rintro e w' ⟨rfl, hs'⟩))
  have B := Lib.hid hs'.1.2.2.2
  go_wp2
  go_ret
  exact ⟨rfl, B.out⟩


theorem day_two (y m d : Int) (hy : inR y = true) : ∃ R E : Int,
    (∀ w, GTab w → Calls Tryd.prog 10 #[.agg #[.int .i64 y, .int .i64 m, .int .i64 d]] w fun e w' => e = .returned (.tuple #[.int .i64 R, .int .i64 E]) ∧ Below w.heap.size w w') ∧
    (∀ w, Calls Tryd.prog 11 #[.agg #[.int .i64 y, .int .i64 m, .int .i64 d]] w fun e w' => e = .returned (.tuple #[.int .i64 R, .int .i64 E]) ∧ Below w.heap.size w w') := by
  by_cases h : 1 ≤ y ∧ y ≤ 1000000000
  · cases hv : greg.vld y m d
    · exact ⟨0, 2, fun w ht => gday_bad y m d w ht h.1 h.2 hv, fun w => sday_bad y m d w h.1 h.2 hv⟩
    · exact ⟨greg.num y m d, 0, fun w ht => gday_at y m d w ht hv, fun w => sday_at y m d w hv⟩
  · exact ⟨0, 1, fun w _ => gday_out y m d w h, fun w => sday_out y m d w h⟩
theorem from_two (n : Int) : ∃ p q r G : Int,
    (∀ w, GTab w → Calls Tryd.prog 12 #[.int .i64 n] w fun e w' => e = .returned (.tuple #[.agg #[.int .i64 p, .int .i64 q, .int .i64 r], .int .i64 G]) ∧ Below w.heap.size w w') ∧
    (∀ w, Calls Tryd.prog 13 #[.int .i64 n] w fun e w' => e = .returned (.tuple #[.agg #[.int .i64 p, .int .i64 q, .int .i64 r], .int .i64 G]) ∧ Below w.heap.size w w') := by
  by_cases h : 1 ≤ n ∧ n ≤ 365242500000
  · obtain ⟨y, m, d, hv, hn⟩ := greg.date_exists n (by show gfst 1 ≤ n; rw [show gfst 1 = 1 by decide]; omega) (by show n < gfst 1000000001; rw [show gfst 1000000001 = 365242500001 by decide]; omega)
    exact ⟨y, m, d, 0, fun w ht => gfrom_at n y m d w ht hv hn, fun w => sfrom_at n y m d w hv hn⟩
  · exact ⟨0, 0, 0, 1, fun w _ => gfrom_no n w (by omega), fun w => sfrom_no n w (by omega)⟩

theorem walk (y m d n year month : Int) (w1 : (Lit.int .i64 y).wf = true) (w2 : (Lit.int .i64 m).wf = true) (w3 : (Lit.int .i64 d).wf = true) (w4 : (Lit.int .i64 n).wf = true) (w5 : (Lit.int .i64 year).wf = true) (w6 : (Lit.int .i64 month).wf = true) (W : World) (ht : GTab W) :
    Calls Tryd.prog 3 #[.agg #[.int .i64 y, .int .i64 m, .int .i64 d], .int .i64 n, .int .i64 year, .int .i64 month] W fun e w' => e = .returned (.bool true) ∧ Below W.heap.size W w' := by
  have hy : inR y = true := inR_iff.2 (bounds_i64 w1)
  have hye : inR year = true := inR_iff.2 (bounds_i64 w5)
  obtain ⟨R, E, ha, hb⟩ := day_two y m d hy
  obtain ⟨p, q, r, G, hx, hz⟩ := from_two n
  by_cases h : 1 ≤ year ∧ year ≤ 1000000000
  · refine walk_yes y m d n year month R E p q r G (dim (glp year) month) (glp year) (greg.vld y m d) ha hb hx hz (gfst year) (fun w => gfirst_in year w h.1 h.2) (fun w => ?_) (fun w => sfirst_in year w h.1 (by omega))
      (fun w => gleap_any year w) (fun w => sleap_any year w hye) (fun w ht => glen_any year month w ht) (fun w => rlen_any _ month w) (fun w ht => gvalid_any y m d w ht) (fun w => svalid_any y m d w hy) W ht
    have := rin_any year w; rw [inY_iff.2 h] at this; exact this
  · refine walk_no y m d n year month R E p q r G (dim (glp year) month) (glp year) (greg.vld y m d) ha hb hx hz (fun w => gfirst_out year w h) (fun w => ?_)
      (fun w => gleap_any year w) (fun w => sleap_any year w hye) (fun w ht => glen_any year month w ht) (fun w => rlen_any _ month w) (fun w ht => gvalid_any y m d w ht) (fun w => svalid_any y m d w hy) W ht
    have := rin_any year w; rw [inY_false h] at this; exact this

/-! ### the row's step -/
set_option maxRecDepth 100000 in
theorem lifted (os : Os) (started : os.Started) (H : Type) (enc : TypeId × Value → H) :
    ReturnsInHanded {} Tryd.checked os 3 .any (fun w args => (Rows.gregorianMatchesReferenceSpec.pre enc Tryd.prog Tryd.f3 [] false w args ∧ laidMetH Tryd.prog laidL w) ∧ sizedMet enc Tryd.prog Tryd.f3 (OpenSpec.ofChange Rows.gregorianMatchesReferenceSpec) false w args)
      (Rows.gregorianMatchesReferenceSpec.post enc Tryd.prog Tryd.f3 false true false false) := by
  refine returnsInHanded_of_change_and (C := Tryd.checked) (X := fun w _ => laidMetH Tryd.prog laidL w) (fun _ _ _ hh h => h.of_heap hh) own started (by kernel_rfl) Tryd.func3
    (ChangeSpec.witness_shaped (enc := enc) (C := Tryd.checked) (os := os) (X := fun w _ => laidMetH Tryd.prog laidL w) false (World.doorLaid Tryd.prog 400 os) #[.agg #[.int .i64 0, .int .i64 0, .int .i64 0], .int .i64 0, .int .i64 0, .int .i64 0] 8 rfl (World.shaped_of_RefB (by kernel_rfl) (by kernel_rfl)) (by kernel_rfl) (by kernel_rfl) (by kernel_rfl) (door_met os _)) ?_
  intro W base args ds gs before hval0 hW _ _ hL _
  have hval : ∀ (j : Nat) t v, Tryd.f3.params[j]? = some t → args[j]? = some v → Value.okWide Tryd.prog W .any base t v := hval0
  have hW' := hW
  obtain ⟨p, q, hA0, hV, rfl, hfz, hnd⟩ := hW
  have hA : DataW.TrodAll enc Tryd.prog W 0 (fun _ => true) true Tryd.f3.params.toList args.toList ds p := hA0
  rw [Tryd.params3] at hA hval
  obtain ⟨v0, vs0, d0, ds0, p0, q0, hargs, rfl, rfl, h0, r0⟩ := trodAll_cons hA
  obtain ⟨v1, vs1, d1, ds1, p1, q1, rfl, rfl, rfl, h1, r1⟩ := trodAll_cons r0
  obtain ⟨v2, vs2, d2, ds2, p2, q2, rfl, rfl, rfl, h2, r2⟩ := trodAll_cons r1
  obtain ⟨v3, vs3, d3, ds3, p3, q3, rfl, rfl, rfl, h3, r3⟩ := trodAll_cons r2
  obtain ⟨rfl, rfl, rfl⟩ := trodAll_nil r3
  obtain rfl : args = #[v0, v1, v2, v3] := by cases args; simp_all
  obtain ⟨rfl, rfl⟩ := trodVars_none hV
  obtain ⟨c0_0, c0_1, c0_2, y0_0, y0_1, y0_2, m0, rfl, rfl, rfl, hy0_0, hy0_1, hy0_2⟩ := open_agg3 Tryd.underlying23 (by kernel_rfl) (show Tryd.prog.cellsOf 23 = 3 by kernel_rfl) (hval 0 23 v0 rfl rfl) h0
  obtain ⟨f0_0, e0_0, rfl, w0_0⟩ := DataW.trod_int Tryd.underlying3 hy0_0
  simp at e0_0; subst e0_0
  obtain ⟨f0_1, e0_1, rfl, w0_1⟩ := DataW.trod_int Tryd.underlying3 hy0_1
  simp at e0_1; subst e0_1
  obtain ⟨f0_2, e0_2, rfl, w0_2⟩ := DataW.trod_int Tryd.underlying3 hy0_2
  simp at e0_2; subst e0_2
  obtain ⟨a1, rfl, rfl, rfl, w1⟩ := open_int Tryd.underlying3 (hval 1 3 v1 rfl rfl) h1
  obtain ⟨a2, rfl, rfl, rfl, w2⟩ := open_int Tryd.underlying3 (hval 2 3 v2 rfl rfl) h2
  obtain ⟨a3, rfl, rfl, rfl, w3⟩ := open_int Tryd.underlying3 (hval 3 3 v3 rfl rfl) h3
  clear hA0 hval0
  simp only [List.append_nil] at hW'
  have sr0 : ∀ (W' : World) (sp : Nat → Bool), DataW.Trod enc Tryd.prog W' 0 sp true 23 (.agg #[.int .i64 f0_0, .int .i64 f0_1, .int .i64 f0_2]) (.agg [.lit (.int .i64 f0_0), .lit (.int .i64 f0_1), .lit (.int .i64 f0_2)]) [] := fun W' sp =>
    shut_agg3 (y0 := (.lit (.int .i64 f0_0), [])) (y1 := (.lit (.int .i64 f0_1), [])) (y2 := (.lit (.int .i64 f0_2), [])) Tryd.underlying23 (by kernel_rfl) (show Tryd.prog.cellsOf 23 = 3 by kernel_rfl) ⟨1, by simp [DataW.trod, Tryd.underlying3, w0_0]⟩ ⟨1, by simp [DataW.trod, Tryd.underlying3, w0_1]⟩ ⟨1, by simp [DataW.trod, Tryd.underlying3, w0_2]⟩
  refine (walk f0_0 f0_1 f0_2 a1 a2 a3 w0_0 w0_1 w0_2 w1 w2 w3 W (laid_facts hL)).mono fun e W' ⟨he, bel⟩ => ?_
  subst he
  exact ⟨_, rfl, _, _, _, [], _, [], hW', trodAll_mk1 (shut_bool Tryd.underlying4 _), (trodAll_cons_mk (sr0 _ _) (trodAll_cons_mk (shut_int Tryd.underlying3 w1) (trodAll_cons_mk (shut_int Tryd.underlying3 w2) (trodAll_cons_mk (shut_int Tryd.underlying3 w3) trodAll_mk0)))), rfl, bel.frame _, fun h => by cases h⟩

theorem over : Rows.gregorianMatchesReferenceRow.holds Tryd.pinned (OpenSpec.ofChange Rows.gregorianMatchesReferenceSpec) :=
  OpenClaim.holds_of_wide 3 Tryd.f3 rfl rfl rfl rfl rfl rfl rfl ⟨rfl, rfl, rfl, rfl, rfl⟩ rfl rfl rfl rfl rfl (by kernel_rfl) Tryd.func3 (by kernel_rfl)
    (of_decide_eq_true (by kernel_rfl)) (by unfold Func.isWrapper; first | (rw [if_pos (by decide +kernel)]; kernel_rfl) | (rw [if_neg (by decide +kernel)]; exact ⟨rfl, rfl⟩))
    (fun os started H enc _ => lifted os started H enc)

/-- The statement: the tied card. -/
theorem proved : Rows.GregorianMatchesReferenceCardSaid :=
  Claim7.holds_tied_plain_at .later [] [.data, .data] true (true, "f0b50a9b265c7a874b3dcaf894b38aaf9df5174e93eb85ea897d4d7a5fe01351") false
    over (fun _ h => by cases h) (by kernel_rfl) (fun _ h => by cases h) gregorianMatchesReference_row_tie rfl ⟨rfl, rfl⟩ (by kernel_rfl) rfl
    (fun f fn hf hfn => by
      obtain rfl : f = 3 := Option.some.inj ((show Tryd.prog.funcNamed "computus/computuslaw03.GregorianMatchesReference" = some 3 by kernel_rfl).symm.trans hf) |>.symm
      obtain rfl : fn = Tryd.f3 := (Option.some.inj (Tryd.func3.symm.trans hfn)).symm
      exact ⟨by kernel_rfl, fun j t ht => by
        rw [Tryd.params3] at ht
        have hm : t ∈ [23, 3, 3, 3] := by simpa using Array.mem_of_getElem? ht
        have hall : ([23, 3, 3, 3].all fun u => !Tryd.prog.wantsStandIn u) = true := by kernel_rfl
        exact (show Tryd.prog.wantsStandIn t = false by simpa using List.all_eq_true.1 hall t hm)⟩)
    (by kernel_rfl)
#print axioms proved
end Go.Proofs.YthhegcjmlpekbaaDoor.gregorianMatchesReference
