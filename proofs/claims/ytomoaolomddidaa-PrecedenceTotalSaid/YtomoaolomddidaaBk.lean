/- Stage 20's law PrecedenceTotal, given what package precedence's functions answer. -/
import Derived.Test.YtomoaolomddidaaBj
namespace Go.Proofs.Ytomoaolomddidaa
open Go.RowKit

theorem row_cd {w : World} {b t : Nat} {x1 x2 x3 : Int} {x4 : ByteArray} (h : w.heap[b]? = some (.cells #[.int .i64 x1, .int .i64 x2, .int .i64 x3, .string x4] t (0, 0))) :
    w.cell? ⟨b, 0, none⟩ = some (.int .i64 x1) ∧ w.cell? ⟨b, 1, none⟩ = some (.int .i64 x2) ∧ w.cell? ⟨b, 2, none⟩ = some (.int .i64 x3) ∧ w.cell? ⟨b, 3, none⟩ = some (.string x4) := by
  have c := cd_row (x := ⟨x1, x2, x3, x4⟩) h
  exact ⟨c.c0, c.c1, c.c2, c.c3⟩
set_option maxHeartbeats 4000000 in
set_option maxRecDepth 100000 in
theorem l20t_ft (M : PP) (a1 a2 a3 b1 b2 b3 c1 c2 c3 : Int) (a4 b4 c4 : ByteArray) (W : World) (p1 p2 p3 : Bool) (e1 : (a3 == b3) = p1) (e2 : (a1 == b1) = p2) (e3 : (a2 == b2) = p3)
    (hw : (p1 = false) ∨ (p1 = true ∧ p2 = false) ∨ (p1 = true ∧ p2 = true ∧ p3 = false))
    (HX : ∀ u, Calls Try.prog 10 #[cdv (⟨a1, a2, a3, a4⟩ : Cd), cdv (⟨b1, b2, b3, b4⟩ : Cd)] u fun e w' => e = .returned (.bool false) ∧ Below u.heap.size u w')
    (HY : ∀ u, Calls Try.prog 10 #[cdv (⟨b1, b2, b3, b4⟩ : Cd), cdv (⟨a1, a2, a3, a4⟩ : Cd)] u fun e w' => e = .returned (.bool true) ∧ Below u.heap.size u w')
    : Calls Try.prog 4 #[cdv (⟨a1, a2, a3, a4⟩ : Cd), cdv (⟨b1, b2, b3, b4⟩ : Cd), cdv (⟨c1, c2, c3, c4⟩ : Cd)] W fun e w' => e = .returned (.bool true) ∧ Below W.heap.size W w' := by
  · skip
    have HA := Lib.hid (fun u => c20awake_any M u)
    have HF := Lib.hid (fun v l u h1 h2 => fwd_any v l u h1 h2)
    clear M
    have RA := Lib.hid (row_al (row_al (heap_alloc_new W (Obj.cells #[.int .i64 a1, .int .i64 a2, .int .i64 a3, .string a4] 24)) (Obj.cells #[.int .i64 b1, .int .i64 b2, .int .i64 b3, .string b4] 24)) (Obj.cells #[.int .i64 c1, .int .i64 c2, .int .i64 c3, .string c4] 24))
    have RB := Lib.hid (row_al (row_new1 W (Obj.cells #[.int .i64 a1, .int .i64 a2, .int .i64 a3, .string a4] 24) (Obj.cells #[.int .i64 b1, .int .i64 b2, .int .i64 b3, .string b4] 24)) (Obj.cells #[.int .i64 c1, .int .i64 c2, .int .i64 c3, .string c4] 24))
    have RC := Lib.hid (rw_new2 W (Obj.cells #[.int .i64 a1, .int .i64 a2, .int .i64 a3, .string a4] 24) (Obj.cells #[.int .i64 b1, .int .i64 b2, .int .i64 b3, .string b4] 24) (Obj.cells #[.int .i64 c1, .int .i64 c2, .int .i64 c3, .string c4] 24))
    have B0 : Hid (Below W.heap.size W (((W.alloc (Obj.cells #[.int .i64 a1, .int .i64 a2, .int .i64 a3, .string a4] 24)).alloc (Obj.cells #[.int .i64 b1, .int .i64 b2, .int .i64 b3, .string b4] 24)).alloc (Obj.cells #[.int .i64 c1, .int .i64 c2, .int .i64 c3, .string c4] 24))) := Lib.hid ((((Below.refl _ _).alloc (Nat.le_refl _) _).alloc (by simp) _).alloc (by simp; omega) _)
    go_enter Try.func4, Try.ntmps4
    go_wp2_with fail
    refine (HA.out _).mono ?_
    rintro e w1 ⟨rfl, hb1⟩
    have B1 := Lib.hid (below_on B0.out hb1)
    have RA1 := Lib.hid (row_on RA.out hb1)
    have RB1 := Lib.hid (row_on RB.out hb1)
    have RC1 := Lib.hid (row_on RC.out hb1)
    clear hb1 RA RB RC B0
    obtain ⟨x0, x1, x2, x3⟩ := row_cd RA1.out
    obtain ⟨y0, y1, y2, y3⟩ := row_cd RB1.out
    obtain ⟨z0, z1, z2, z3⟩ := row_cd RC1.out
    go_wp2_with fail
    have RL := Lib.hid (heap_alloc_new w1 (Obj.cells #[.int .i64 a1, .int .i64 a2, .int .i64 a3, .string a4, .int .i64 b1, .int .i64 b2, .int .i64 b3, .string b4, .int .i64 c1, .int .i64 c2, .int .i64 c3, .string c4] 24))
    refine (HF.out _ _ _ (by simp) (cs_three (x := (⟨a1, a2, a3, a4⟩ : Cd)) (y := (⟨b1, b2, b3, b4⟩ : Cd)) (z := (⟨c1, c2, c3, c4⟩ : Cd)) RL.out)).mono ?_
    rintro e w2 ⟨v, rfl, hv, hb2⟩
    obtain ⟨A, cap, hA, hc1, hc2, hit⟩ := hv.cs
    obtain ⟨g, q, rfl, i0⟩ := hit 0 _ rfl
    obtain ⟨g1, s1, f1, i1⟩ := hit 1 _ rfl
    obtain ⟨g2, s2, f2, i2⟩ := hit 2 _ rfl
    obtain ⟨rfl, rfl⟩ : g = g1 ∧ q = s1 := by cases f1; exact ⟨rfl, rfl⟩
    obtain ⟨rfl, rfl⟩ : g = g2 ∧ q = s2 := by cases f2; exact ⟨rfl, rfl⟩
    subst hA
    have B2 := Lib.hid (below_on (B1.out.alloc B1.out.size _) hb2)
    have RA2 := Lib.hid (row_on (row_al RA1.out _) hb2)
    have RB2 := Lib.hid (row_on (row_al RB1.out _) hb2)
    clear hb2 hv hit f1 f2 RL RA1 RB1 RC1 B1 x0 x1 x2 x3 y0 y1 y2 y3 z0 z1 z2 z3 hc1 hc2
    obtain ⟨q0, q1, q2, q3⟩ := i0
    obtain ⟨q4, q5, q6, q7⟩ := i1
    obtain ⟨q8, q9, q10, q11⟩ := i2
    have Hs := Lib.hid (show w2.drew.cell? ⟨g, q, none⟩ = some (.int .i64 a1) ∧ w2.drew.cell? ⟨g, q + 1, none⟩ = some (.int .i64 a2) ∧ w2.drew.cell? ⟨g, q + 2, none⟩ = some (.int .i64 a3) ∧ w2.drew.cell? ⟨g, q + 3, none⟩ = some (.string a4) ∧ w2.drew.cell? ⟨g, q + 4, none⟩ = some (.int .i64 b1) ∧ w2.drew.cell? ⟨g, q + 5, none⟩ = some (.int .i64 b2) ∧ w2.drew.cell? ⟨g, q + 6, none⟩ = some (.int .i64 b3) ∧ w2.drew.cell? ⟨g, q + 7, none⟩ = some (.string b4) ∧ w2.drew.cell? ⟨g, q + 8, none⟩ = some (.int .i64 c1) ∧ w2.drew.cell? ⟨g, q + 9, none⟩ = some (.int .i64 c2) ∧ w2.drew.cell? ⟨g, q + 10, none⟩ = some (.int .i64 c3) ∧ w2.drew.cell? ⟨g, q + 11, none⟩ = some (.string c4) ∧ Below w2.heap.size w2 w2.drew from ⟨q0, q1, q2, q3, q4, q5, q6, q7, q8, q9, q10, q11, below_dn (Below.refl _ _) 1⟩)
    have XP0 := Lib.hid (fun u (hu : u.cell? ⟨g, q, none⟩ = some (.int .i64 a1) ∧ u.cell? ⟨g, q + 1, none⟩ = some (.int .i64 a2) ∧ u.cell? ⟨g, q + 2, none⟩ = some (.int .i64 a3) ∧ u.cell? ⟨g, q + 3, none⟩ = some (.string a4) ∧ u.cell? ⟨g, q + 4, none⟩ = some (.int .i64 b1) ∧ u.cell? ⟨g, q + 5, none⟩ = some (.int .i64 b2) ∧ u.cell? ⟨g, q + 6, none⟩ = some (.int .i64 b3) ∧ u.cell? ⟨g, q + 7, none⟩ = some (.string b4) ∧ u.cell? ⟨g, q + 8, none⟩ = some (.int .i64 c1) ∧ u.cell? ⟨g, q + 9, none⟩ = some (.int .i64 c2) ∧ u.cell? ⟨g, q + 10, none⟩ = some (.int .i64 c3) ∧ u.cell? ⟨g, q + 11, none⟩ = some (.string c4) ∧ Below w2.heap.size w2 u) => (HX u).mono (R' := fun e u' => e = .returned (.bool false) ∧ (u'.cell? ⟨g, q, none⟩ = some (.int .i64 a1) ∧ u'.cell? ⟨g, q + 1, none⟩ = some (.int .i64 a2) ∧ u'.cell? ⟨g, q + 2, none⟩ = some (.int .i64 a3) ∧ u'.cell? ⟨g, q + 3, none⟩ = some (.string a4) ∧ u'.cell? ⟨g, q + 4, none⟩ = some (.int .i64 b1) ∧ u'.cell? ⟨g, q + 5, none⟩ = some (.int .i64 b2) ∧ u'.cell? ⟨g, q + 6, none⟩ = some (.int .i64 b3) ∧ u'.cell? ⟨g, q + 7, none⟩ = some (.string b4) ∧ u'.cell? ⟨g, q + 8, none⟩ = some (.int .i64 c1) ∧ u'.cell? ⟨g, q + 9, none⟩ = some (.int .i64 c2) ∧ u'.cell? ⟨g, q + 10, none⟩ = some (.int .i64 c3) ∧ u'.cell? ⟨g, q + 11, none⟩ = some (.string c4) ∧ Below w2.heap.size w2 u')) fun e u' ⟨he, hq⟩ => ⟨he, ⟨cell_below hu.1 hq, cell_below hu.2.1 hq, cell_below hu.2.2.1 hq, cell_below hu.2.2.2.1 hq, cell_below hu.2.2.2.2.1 hq, cell_below hu.2.2.2.2.2.1 hq, cell_below hu.2.2.2.2.2.2.1 hq, cell_below hu.2.2.2.2.2.2.2.1 hq, cell_below hu.2.2.2.2.2.2.2.2.1 hq, cell_below hu.2.2.2.2.2.2.2.2.2.1 hq, cell_below hu.2.2.2.2.2.2.2.2.2.2.1 hq, cell_below hu.2.2.2.2.2.2.2.2.2.2.2.1 hq, below_on hu.2.2.2.2.2.2.2.2.2.2.2.2 hq⟩⟩)
    go_wp2_with fail
    refine wp_region_held_drew (S := fun u => u.cell? ⟨g, q, none⟩ = some (.int .i64 a1) ∧ u.cell? ⟨g, q + 1, none⟩ = some (.int .i64 a2) ∧ u.cell? ⟨g, q + 2, none⟩ = some (.int .i64 a3) ∧ u.cell? ⟨g, q + 3, none⟩ = some (.string a4) ∧ u.cell? ⟨g, q + 4, none⟩ = some (.int .i64 b1) ∧ u.cell? ⟨g, q + 5, none⟩ = some (.int .i64 b2) ∧ u.cell? ⟨g, q + 6, none⟩ = some (.int .i64 b3) ∧ u.cell? ⟨g, q + 7, none⟩ = some (.string b4) ∧ u.cell? ⟨g, q + 8, none⟩ = some (.int .i64 c1) ∧ u.cell? ⟨g, q + 9, none⟩ = some (.int .i64 c2) ∧ u.cell? ⟨g, q + 10, none⟩ = some (.int .i64 c3) ∧ u.cell? ⟨g, q + 11, none⟩ = some (.string c4) ∧ Below w2.heap.size w2 u) (by kernel_rfl) Hs.out (fun hHeld => ?_)
    refine wpAnyH_take (i := 0) (oi := { dst := some 18, op := _, type := _, pos := _, after := _, guard := _ }) (v := ?v1_0) rfl (by kernel_rfl) (by kernel_rfl) (by kernel_rfl) (fun _ _ _ h => h) (Or.inl ⟨by rfl, ?hy1_0⟩) hHeld ?_
    case hy1_0 => (intro w hSw; (try dsimp only at hSw); go_simp; try with_reducible rfl)
    simp only [Act.put, List.setIfInBounds_toArray, List.set_cons_zero, List.set_cons_succ]
    refine wpAnyH_take (i := 1) (oi := { dst := some 19, op := _, type := _, pos := _, after := _, guard := _ }) (v := ?v1_1) rfl (by kernel_rfl) (by kernel_rfl) (by kernel_rfl) (fun _ _ _ h => h) (Or.inl ⟨by rfl, ?hy1_1⟩) hHeld ?_
    case hy1_1 => (intro w hSw; (try dsimp only at hSw); go_simp; try with_reducible rfl)
    simp only [Act.put, List.setIfInBounds_toArray, List.set_cons_zero, List.set_cons_succ]
    refine wpAnyH_take (i := 2) (oi := { dst := some 20, op := _, type := _, pos := _, after := _, guard := _ }) (v := ?v1_2) rfl (by kernel_rfl) (by kernel_rfl) (by kernel_rfl) (fun _ _ _ h => h) (Or.inl ⟨by rfl, ?hy1_2⟩) hHeld ?_
    case hy1_2 => (intro w hSw; (try dsimp only at hSw); go_simp; try with_reducible rfl)
    simp only [Act.put, List.setIfInBounds_toArray, List.set_cons_zero, List.set_cons_succ]
    refine wpAnyH_take (i := 3) (oi := { dst := some 21, op := _, type := _, pos := _, after := _, guard := _ }) (v := ?v1_3) rfl (by kernel_rfl) (by kernel_rfl) (by kernel_rfl) (fun _ _ _ h => h) (Or.inl ⟨by rfl, ?hy1_3⟩) hHeld ?_
    case hy1_3 => (intro w hSw; (try dsimp only at hSw); go_simp; try with_reducible rfl)
    simp only [Act.put, List.setIfInBounds_toArray, List.set_cons_zero, List.set_cons_succ]
    refine wpAnyH_take (i := 4) (oi := { dst := some 22, op := _, type := _, pos := _, after := _, guard := _ }) (v := ?v1_4) rfl (by kernel_rfl) (by kernel_rfl) (by kernel_rfl) (fun _ _ _ h => h) (Or.inl ⟨by rfl, ?hy1_4⟩) hHeld ?_
    case hy1_4 => (intro w hSw; (try dsimp only at hSw); go_simp; try with_reducible rfl)
    simp only [Act.put, List.setIfInBounds_toArray, List.set_cons_zero, List.set_cons_succ]
    refine wpAnyH_take (i := 5) (oi := { dst := some 23, op := _, type := _, pos := _, after := _, guard := _ }) (v := ?v1_5) rfl (by kernel_rfl) (by kernel_rfl) (by kernel_rfl) (fun _ _ _ h => h) (Or.inl ⟨by rfl, ?hy1_5⟩) hHeld ?_
    case hy1_5 => (intro w hSw; (try dsimp only at hSw); go_simp; try with_reducible rfl)
    simp only [Act.put, List.setIfInBounds_toArray, List.set_cons_zero, List.set_cons_succ]
    refine wpAnyH_ready (rs := [6]) (by kernel_rfl) (by simp) ?_
    refine AllReadyH.cons (o := { dst := some 24, op := _, type := _, pos := _, after := _, guard := _ }) rfl (fun K hK => ?_) AllReadyH.nil
    go_simp
    go_at_call 10
    refine (XP0.out _ (by assumption)).mono ?_
    rintro ee0 u0 ⟨rfl, hs0⟩
    refine hK.out _ _ hs0 (fun hHeld => ?_)
    clear hK K
    refine wpAnyH_take (i := 7) (oi := { dst := some 8, op := _, type := _, pos := _, after := _, guard := _ }) (v := ?v1_7) rfl (by kernel_rfl) (by kernel_rfl) (by kernel_rfl) (fun _ _ _ h => h) (Or.inl ⟨by rfl, ?hy1_7⟩) hHeld ?_
    case hy1_7 => (intro w hSw; (try dsimp only at hSw); go_simp; try with_reducible rfl)
    simp only [Act.put, List.setIfInBounds_toArray, List.set_cons_zero, List.set_cons_succ]
    refine wpAnyH_done (by kernel_rfl) ?_ _
    have B3 := Lib.hid (below_on B2.out hs0.2.2.2.2.2.2.2.2.2.2.2.2)
    have RA3 := Lib.hid (row_on RA2.out hs0.2.2.2.2.2.2.2.2.2.2.2.2)
    have RB3 := Lib.hid (row_on RB2.out hs0.2.2.2.2.2.2.2.2.2.2.2.2)
    clear q0 q1 q2 q3 q4 q5 q6 q7 q8 q9 q10 q11 Hs XP0 RA2 RB2 B2
    obtain ⟨q0, q1, q2, q3, q4, q5, q6, q7, q8, q9, q10, q11, _⟩ := hs0
    have Hs := Lib.hid (show u0.drew.cell? ⟨g, q, none⟩ = some (.int .i64 a1) ∧ u0.drew.cell? ⟨g, q + 1, none⟩ = some (.int .i64 a2) ∧ u0.drew.cell? ⟨g, q + 2, none⟩ = some (.int .i64 a3) ∧ u0.drew.cell? ⟨g, q + 3, none⟩ = some (.string a4) ∧ u0.drew.cell? ⟨g, q + 4, none⟩ = some (.int .i64 b1) ∧ u0.drew.cell? ⟨g, q + 5, none⟩ = some (.int .i64 b2) ∧ u0.drew.cell? ⟨g, q + 6, none⟩ = some (.int .i64 b3) ∧ u0.drew.cell? ⟨g, q + 7, none⟩ = some (.string b4) ∧ u0.drew.cell? ⟨g, q + 8, none⟩ = some (.int .i64 c1) ∧ u0.drew.cell? ⟨g, q + 9, none⟩ = some (.int .i64 c2) ∧ u0.drew.cell? ⟨g, q + 10, none⟩ = some (.int .i64 c3) ∧ u0.drew.cell? ⟨g, q + 11, none⟩ = some (.string c4) ∧ Below u0.heap.size u0 u0.drew from ⟨q0, q1, q2, q3, q4, q5, q6, q7, q8, q9, q10, q11, below_dn (Below.refl _ _) 1⟩)
    have XP0 := Lib.hid (fun u (hu : u.cell? ⟨g, q, none⟩ = some (.int .i64 a1) ∧ u.cell? ⟨g, q + 1, none⟩ = some (.int .i64 a2) ∧ u.cell? ⟨g, q + 2, none⟩ = some (.int .i64 a3) ∧ u.cell? ⟨g, q + 3, none⟩ = some (.string a4) ∧ u.cell? ⟨g, q + 4, none⟩ = some (.int .i64 b1) ∧ u.cell? ⟨g, q + 5, none⟩ = some (.int .i64 b2) ∧ u.cell? ⟨g, q + 6, none⟩ = some (.int .i64 b3) ∧ u.cell? ⟨g, q + 7, none⟩ = some (.string b4) ∧ u.cell? ⟨g, q + 8, none⟩ = some (.int .i64 c1) ∧ u.cell? ⟨g, q + 9, none⟩ = some (.int .i64 c2) ∧ u.cell? ⟨g, q + 10, none⟩ = some (.int .i64 c3) ∧ u.cell? ⟨g, q + 11, none⟩ = some (.string c4) ∧ Below u0.heap.size u0 u) => (HY u).mono (R' := fun e u' => e = .returned (.bool true) ∧ (u'.cell? ⟨g, q, none⟩ = some (.int .i64 a1) ∧ u'.cell? ⟨g, q + 1, none⟩ = some (.int .i64 a2) ∧ u'.cell? ⟨g, q + 2, none⟩ = some (.int .i64 a3) ∧ u'.cell? ⟨g, q + 3, none⟩ = some (.string a4) ∧ u'.cell? ⟨g, q + 4, none⟩ = some (.int .i64 b1) ∧ u'.cell? ⟨g, q + 5, none⟩ = some (.int .i64 b2) ∧ u'.cell? ⟨g, q + 6, none⟩ = some (.int .i64 b3) ∧ u'.cell? ⟨g, q + 7, none⟩ = some (.string b4) ∧ u'.cell? ⟨g, q + 8, none⟩ = some (.int .i64 c1) ∧ u'.cell? ⟨g, q + 9, none⟩ = some (.int .i64 c2) ∧ u'.cell? ⟨g, q + 10, none⟩ = some (.int .i64 c3) ∧ u'.cell? ⟨g, q + 11, none⟩ = some (.string c4) ∧ Below u0.heap.size u0 u')) fun e u' ⟨he, hq⟩ => ⟨he, ⟨cell_below hu.1 hq, cell_below hu.2.1 hq, cell_below hu.2.2.1 hq, cell_below hu.2.2.2.1 hq, cell_below hu.2.2.2.2.1 hq, cell_below hu.2.2.2.2.2.1 hq, cell_below hu.2.2.2.2.2.2.1 hq, cell_below hu.2.2.2.2.2.2.2.1 hq, cell_below hu.2.2.2.2.2.2.2.2.1 hq, cell_below hu.2.2.2.2.2.2.2.2.2.1 hq, cell_below hu.2.2.2.2.2.2.2.2.2.2.1 hq, cell_below hu.2.2.2.2.2.2.2.2.2.2.2.1 hq, below_on hu.2.2.2.2.2.2.2.2.2.2.2.2 hq⟩⟩)
    go_wp2_with fail
    refine wp_region_held_drew (S := fun u => u.cell? ⟨g, q, none⟩ = some (.int .i64 a1) ∧ u.cell? ⟨g, q + 1, none⟩ = some (.int .i64 a2) ∧ u.cell? ⟨g, q + 2, none⟩ = some (.int .i64 a3) ∧ u.cell? ⟨g, q + 3, none⟩ = some (.string a4) ∧ u.cell? ⟨g, q + 4, none⟩ = some (.int .i64 b1) ∧ u.cell? ⟨g, q + 5, none⟩ = some (.int .i64 b2) ∧ u.cell? ⟨g, q + 6, none⟩ = some (.int .i64 b3) ∧ u.cell? ⟨g, q + 7, none⟩ = some (.string b4) ∧ u.cell? ⟨g, q + 8, none⟩ = some (.int .i64 c1) ∧ u.cell? ⟨g, q + 9, none⟩ = some (.int .i64 c2) ∧ u.cell? ⟨g, q + 10, none⟩ = some (.int .i64 c3) ∧ u.cell? ⟨g, q + 11, none⟩ = some (.string c4) ∧ Below u0.heap.size u0 u) (by kernel_rfl) Hs.out (fun hHeld => ?_)
    refine wpAnyH_take (i := 0) (oi := { dst := some 25, op := _, type := _, pos := _, after := _, guard := _ }) (v := ?v2_0) rfl (by kernel_rfl) (by kernel_rfl) (by kernel_rfl) (fun _ _ _ h => h) (Or.inl ⟨by rfl, ?hy2_0⟩) hHeld ?_
    case hy2_0 => (intro w hSw; (try dsimp only at hSw); go_simp; try with_reducible rfl)
    simp only [Act.put, List.setIfInBounds_toArray, List.set_cons_zero, List.set_cons_succ]
    refine wpAnyH_take (i := 1) (oi := { dst := some 26, op := _, type := _, pos := _, after := _, guard := _ }) (v := ?v2_1) rfl (by kernel_rfl) (by kernel_rfl) (by kernel_rfl) (fun _ _ _ h => h) (Or.inl ⟨by rfl, ?hy2_1⟩) hHeld ?_
    case hy2_1 => (intro w hSw; (try dsimp only at hSw); go_simp; try with_reducible rfl)
    simp only [Act.put, List.setIfInBounds_toArray, List.set_cons_zero, List.set_cons_succ]
    refine wpAnyH_take (i := 2) (oi := { dst := some 27, op := _, type := _, pos := _, after := _, guard := _ }) (v := ?v2_2) rfl (by kernel_rfl) (by kernel_rfl) (by kernel_rfl) (fun _ _ _ h => h) (Or.inl ⟨by rfl, ?hy2_2⟩) hHeld ?_
    case hy2_2 => (intro w hSw; (try dsimp only at hSw); go_simp; try with_reducible rfl)
    simp only [Act.put, List.setIfInBounds_toArray, List.set_cons_zero, List.set_cons_succ]
    refine wpAnyH_take (i := 3) (oi := { dst := some 28, op := _, type := _, pos := _, after := _, guard := _ }) (v := ?v2_3) rfl (by kernel_rfl) (by kernel_rfl) (by kernel_rfl) (fun _ _ _ h => h) (Or.inl ⟨by rfl, ?hy2_3⟩) hHeld ?_
    case hy2_3 => (intro w hSw; (try dsimp only at hSw); go_simp; try with_reducible rfl)
    simp only [Act.put, List.setIfInBounds_toArray, List.set_cons_zero, List.set_cons_succ]
    refine wpAnyH_take (i := 4) (oi := { dst := some 29, op := _, type := _, pos := _, after := _, guard := _ }) (v := ?v2_4) rfl (by kernel_rfl) (by kernel_rfl) (by kernel_rfl) (fun _ _ _ h => h) (Or.inl ⟨by rfl, ?hy2_4⟩) hHeld ?_
    case hy2_4 => (intro w hSw; (try dsimp only at hSw); go_simp; try with_reducible rfl)
    simp only [Act.put, List.setIfInBounds_toArray, List.set_cons_zero, List.set_cons_succ]
    refine wpAnyH_take (i := 5) (oi := { dst := some 30, op := _, type := _, pos := _, after := _, guard := _ }) (v := ?v2_5) rfl (by kernel_rfl) (by kernel_rfl) (by kernel_rfl) (fun _ _ _ h => h) (Or.inl ⟨by rfl, ?hy2_5⟩) hHeld ?_
    case hy2_5 => (intro w hSw; (try dsimp only at hSw); go_simp; try with_reducible rfl)
    simp only [Act.put, List.setIfInBounds_toArray, List.set_cons_zero, List.set_cons_succ]
    refine wpAnyH_ready (rs := [6]) (by kernel_rfl) (by simp) ?_
    refine AllReadyH.cons (o := { dst := some 31, op := _, type := _, pos := _, after := _, guard := _ }) rfl (fun K hK => ?_) AllReadyH.nil
    go_simp
    go_at_call 10
    refine (XP0.out _ (by assumption)).mono ?_
    rintro ee0 v0 ⟨rfl, hs0⟩
    refine hK.out _ _ hs0 (fun hHeld => ?_)
    clear hK K
    refine wpAnyH_take (i := 7) (oi := { dst := some 9, op := _, type := _, pos := _, after := _, guard := _ }) (v := ?v2_7) rfl (by kernel_rfl) (by kernel_rfl) (by kernel_rfl) (fun _ _ _ h => h) (Or.inl ⟨by rfl, ?hy2_7⟩) hHeld ?_
    case hy2_7 => (intro w hSw; (try dsimp only at hSw); go_simp; try with_reducible rfl)
    simp only [Act.put, List.setIfInBounds_toArray, List.set_cons_zero, List.set_cons_succ]
    refine wpAnyH_done (by kernel_rfl) ?_ _
    have B4 := Lib.hid (below_on B3.out hs0.2.2.2.2.2.2.2.2.2.2.2.2)
    have RA4 := Lib.hid (row_on RA3.out hs0.2.2.2.2.2.2.2.2.2.2.2.2)
    have RB4 := Lib.hid (row_on RB3.out hs0.2.2.2.2.2.2.2.2.2.2.2.2)
    clear q0 q1 q2 q3 q4 q5 q6 q7 q8 q9 q10 q11 Hs XP0 RA3 RB3 B3
    obtain ⟨q0, q1, q2, q3, q4, q5, q6, q7, q8, q9, q10, q11, _⟩ := hs0
    obtain ⟨x0, x1, x2, x3⟩ := row_cd RA4.out
    obtain ⟨y0, y1, y2, y3⟩ := row_cd RB4.out
    rcases hw with rfl | ⟨rfl, rfl⟩ | ⟨rfl, rfl, rfl⟩
    · skip
      have Hs := Lib.hid (show v0.drew.cell? ⟨g, q, none⟩ = some (.int .i64 a1) ∧ v0.drew.cell? ⟨g, q + 1, none⟩ = some (.int .i64 a2) ∧ v0.drew.cell? ⟨g, q + 2, none⟩ = some (.int .i64 a3) ∧ v0.drew.cell? ⟨g, q + 3, none⟩ = some (.string a4) ∧ v0.drew.cell? ⟨g, q + 4, none⟩ = some (.int .i64 b1) ∧ v0.drew.cell? ⟨g, q + 5, none⟩ = some (.int .i64 b2) ∧ v0.drew.cell? ⟨g, q + 6, none⟩ = some (.int .i64 b3) ∧ v0.drew.cell? ⟨g, q + 7, none⟩ = some (.string b4) ∧ v0.drew.cell? ⟨g, q + 8, none⟩ = some (.int .i64 c1) ∧ v0.drew.cell? ⟨g, q + 9, none⟩ = some (.int .i64 c2) ∧ v0.drew.cell? ⟨g, q + 10, none⟩ = some (.int .i64 c3) ∧ v0.drew.cell? ⟨g, q + 11, none⟩ = some (.string c4) ∧ Below v0.heap.size v0 v0.drew from ⟨q0, q1, q2, q3, q4, q5, q6, q7, q8, q9, q10, q11, below_dn (Below.refl _ _) 1⟩)
      go_wp2_with fail
      refine wp_region_held_drew (S := fun u => u.cell? ⟨g, q, none⟩ = some (.int .i64 a1) ∧ u.cell? ⟨g, q + 1, none⟩ = some (.int .i64 a2) ∧ u.cell? ⟨g, q + 2, none⟩ = some (.int .i64 a3) ∧ u.cell? ⟨g, q + 3, none⟩ = some (.string a4) ∧ u.cell? ⟨g, q + 4, none⟩ = some (.int .i64 b1) ∧ u.cell? ⟨g, q + 5, none⟩ = some (.int .i64 b2) ∧ u.cell? ⟨g, q + 6, none⟩ = some (.int .i64 b3) ∧ u.cell? ⟨g, q + 7, none⟩ = some (.string b4) ∧ u.cell? ⟨g, q + 8, none⟩ = some (.int .i64 c1) ∧ u.cell? ⟨g, q + 9, none⟩ = some (.int .i64 c2) ∧ u.cell? ⟨g, q + 10, none⟩ = some (.int .i64 c3) ∧ u.cell? ⟨g, q + 11, none⟩ = some (.string c4) ∧ Below v0.heap.size v0 u) (by kernel_rfl) Hs.out (fun hHeld => ?_)
      refine wpAnyH_take (i := 0) (oi := { dst := some 65, op := _, type := _, pos := _, after := _, guard := _ }) (v := ?v3_0) rfl (by kernel_rfl) (by kernel_rfl) (by kernel_rfl) (fun _ _ _ h => h) (Or.inl ⟨by rfl, ?hy3_0⟩) hHeld ?_
      case hy3_0 => (intro w hSw; (try dsimp only at hSw); go_simp; try with_reducible rfl)
      simp only [Act.put, List.setIfInBounds_toArray, List.set_cons_zero, List.set_cons_succ]
      refine wpAnyH_take (i := 1) (oi := { dst := some 66, op := _, type := _, pos := _, after := _, guard := _ }) (v := ?v3_1) rfl (by kernel_rfl) (by kernel_rfl) (by kernel_rfl) (fun _ _ _ h => h) (Or.inl ⟨by rfl, ?hy3_1⟩) hHeld ?_
      case hy3_1 => (intro w hSw; (try dsimp only at hSw); go_simp; try with_reducible rfl)
      simp only [Act.put, List.setIfInBounds_toArray, List.set_cons_zero, List.set_cons_succ]
      refine wpAnyH_take (i := 2) (oi := { dst := some 67, op := _, type := _, pos := _, after := _, guard := _ }) (v := ?v3_2) rfl (by kernel_rfl) (by kernel_rfl) (by kernel_rfl) (fun _ _ _ h => h) (Or.inl ⟨by rfl, ?hy3_2⟩) hHeld ?_
      case hy3_2 => (intro w hSw; (try dsimp only at hSw); go_simp; try with_reducible rfl)
      simp only [Act.put, List.setIfInBounds_toArray, List.set_cons_zero, List.set_cons_succ]
      refine wpAnyH_take (i := 3) (oi := { dst := some 68, op := _, type := _, pos := _, after := _, guard := _ }) (v := undef) rfl (by kernel_rfl) (by kernel_rfl) (by kernel_rfl) (fun _ _ _ h => h) (Or.inr ⟨by rfl, rfl⟩) hHeld ?_
      simp only [Act.put, List.setIfInBounds_toArray, List.set_cons_zero, List.set_cons_succ]
      refine wpAnyH_take (i := 4) (oi := { dst := some 69, op := _, type := _, pos := _, after := _, guard := _ }) (v := undef) rfl (by kernel_rfl) (by kernel_rfl) (by kernel_rfl) (fun _ _ _ h => h) (Or.inr ⟨by rfl, rfl⟩) hHeld ?_
      simp only [Act.put, List.setIfInBounds_toArray, List.set_cons_zero, List.set_cons_succ]
      refine wpAnyH_take (i := 5) (oi := { dst := some 70, op := _, type := _, pos := _, after := _, guard := _ }) (v := undef) rfl (by kernel_rfl) (by kernel_rfl) (by kernel_rfl) (fun _ _ _ h => h) (Or.inr ⟨by rfl, rfl⟩) hHeld ?_
      simp only [Act.put, List.setIfInBounds_toArray, List.set_cons_zero, List.set_cons_succ]
      refine wpAnyH_take (i := 6) (oi := { dst := some 71, op := _, type := _, pos := _, after := _, guard := _ }) (v := undef) rfl (by kernel_rfl) (by kernel_rfl) (by kernel_rfl) (fun _ _ _ h => h) (Or.inr ⟨by rfl, rfl⟩) hHeld ?_
      simp only [Act.put, List.setIfInBounds_toArray, List.set_cons_zero, List.set_cons_succ]
      refine wpAnyH_take (i := 7) (oi := { dst := some 72, op := _, type := _, pos := _, after := _, guard := _ }) (v := undef) rfl (by kernel_rfl) (by kernel_rfl) (by kernel_rfl) (fun _ _ _ h => h) (Or.inr ⟨by rfl, rfl⟩) hHeld ?_
      simp only [Act.put, List.setIfInBounds_toArray, List.set_cons_zero, List.set_cons_succ]
      refine wpAnyH_take (i := 8) (oi := { dst := some 73, op := _, type := _, pos := _, after := _, guard := _ }) (v := undef) rfl (by kernel_rfl) (by kernel_rfl) (by kernel_rfl) (fun _ _ _ h => h) (Or.inr ⟨by rfl, rfl⟩) hHeld ?_
      simp only [Act.put, List.setIfInBounds_toArray, List.set_cons_zero, List.set_cons_succ]
      refine wpAnyH_take (i := 9) (oi := { dst := some 74, op := _, type := _, pos := _, after := _, guard := _ }) (v := undef) rfl (by kernel_rfl) (by kernel_rfl) (by kernel_rfl) (fun _ _ _ h => h) (Or.inr ⟨by rfl, rfl⟩) hHeld ?_
      simp only [Act.put, List.setIfInBounds_toArray, List.set_cons_zero, List.set_cons_succ]
      refine wpAnyH_take (i := 10) (oi := { dst := some 75, op := _, type := _, pos := _, after := _, guard := _ }) (v := undef) rfl (by kernel_rfl) (by kernel_rfl) (by kernel_rfl) (fun _ _ _ h => h) (Or.inr ⟨by rfl, rfl⟩) hHeld ?_
      simp only [Act.put, List.setIfInBounds_toArray, List.set_cons_zero, List.set_cons_succ]
      refine wpAnyH_take (i := 11) (oi := { dst := some 76, op := _, type := _, pos := _, after := _, guard := _ }) (v := ?v3_11) rfl (by kernel_rfl) (by kernel_rfl) (by kernel_rfl) (fun _ _ _ h => h) (Or.inl ⟨by rfl, ?hy3_11⟩) hHeld ?_
      case hy3_11 => (intro w hSw; (try dsimp only at hSw); go_simp; try with_reducible rfl)
      simp only [Act.put, List.setIfInBounds_toArray, List.set_cons_zero, List.set_cons_succ]
      refine wpAnyH_take (i := 12) (oi := { dst := some 77, op := _, type := _, pos := _, after := _, guard := _ }) (v := ?v3_12) rfl (by kernel_rfl) (by kernel_rfl) (by kernel_rfl) (fun _ _ _ h => h) (Or.inl ⟨by rfl, ?hy3_12⟩) hHeld ?_
      case hy3_12 => (intro w hSw; (try dsimp only at hSw); go_simp; try with_reducible rfl)
      simp only [Act.put, List.setIfInBounds_toArray, List.set_cons_zero, List.set_cons_succ]
      refine wpAnyH_take (i := 13) (oi := { dst := some 78, op := _, type := _, pos := _, after := _, guard := _ }) (v := undef) rfl (by kernel_rfl) (by kernel_rfl) (by kernel_rfl) (fun _ _ _ h => h) (Or.inr ⟨by rfl, rfl⟩) hHeld ?_
      simp only [Act.put, List.setIfInBounds_toArray, List.set_cons_zero, List.set_cons_succ]
      refine wpAnyH_take (i := 14) (oi := { dst := some 79, op := _, type := _, pos := _, after := _, guard := _ }) (v := undef) rfl (by kernel_rfl) (by kernel_rfl) (by kernel_rfl) (fun _ _ _ h => h) (Or.inr ⟨by rfl, rfl⟩) hHeld ?_
      simp only [Act.put, List.setIfInBounds_toArray, List.set_cons_zero, List.set_cons_succ]
      refine wpAnyH_take (i := 15) (oi := { dst := some 80, op := _, type := _, pos := _, after := _, guard := _ }) (v := undef) rfl (by kernel_rfl) (by kernel_rfl) (by kernel_rfl) (fun _ _ _ h => h) (Or.inr ⟨by rfl, rfl⟩) hHeld ?_
      simp only [Act.put, List.setIfInBounds_toArray, List.set_cons_zero, List.set_cons_succ]
      refine wpAnyH_take (i := 16) (oi := { dst := some 81, op := _, type := _, pos := _, after := _, guard := _ }) (v := undef) rfl (by kernel_rfl) (by kernel_rfl) (by kernel_rfl) (fun _ _ _ h => h) (Or.inr ⟨by rfl, rfl⟩) hHeld ?_
      simp only [Act.put, List.setIfInBounds_toArray, List.set_cons_zero, List.set_cons_succ]
      refine wpAnyH_take (i := 17) (oi := { dst := some 82, op := _, type := _, pos := _, after := _, guard := _ }) (v := undef) rfl (by kernel_rfl) (by kernel_rfl) (by kernel_rfl) (fun _ _ _ h => h) (Or.inr ⟨by rfl, rfl⟩) hHeld ?_
      simp only [Act.put, List.setIfInBounds_toArray, List.set_cons_zero, List.set_cons_succ]
      refine wpAnyH_take (i := 18) (oi := { dst := some 83, op := _, type := _, pos := _, after := _, guard := _ }) (v := undef) rfl (by kernel_rfl) (by kernel_rfl) (by kernel_rfl) (fun _ _ _ h => h) (Or.inr ⟨by rfl, rfl⟩) hHeld ?_
      simp only [Act.put, List.setIfInBounds_toArray, List.set_cons_zero, List.set_cons_succ]
      refine wpAnyH_take (i := 19) (oi := { dst := some 84, op := _, type := _, pos := _, after := _, guard := _ }) (v := undef) rfl (by kernel_rfl) (by kernel_rfl) (by kernel_rfl) (fun _ _ _ h => h) (Or.inr ⟨by rfl, rfl⟩) hHeld ?_
      simp only [Act.put, List.setIfInBounds_toArray, List.set_cons_zero, List.set_cons_succ]
      refine wpAnyH_take (i := 20) (oi := { dst := some 85, op := _, type := _, pos := _, after := _, guard := _ }) (v := ?v3_20) rfl (by kernel_rfl) (by kernel_rfl) (by kernel_rfl) (fun _ _ _ h => h) (Or.inl ⟨by rfl, ?hy3_20⟩) hHeld ?_
      case hy3_20 => (intro w hSw; (try dsimp only at hSw); go_simp; try with_reducible rfl)
      simp only [Act.put, List.setIfInBounds_toArray, List.set_cons_zero, List.set_cons_succ]
      refine wpAnyH_take (i := 21) (oi := { dst := some 6, op := _, type := _, pos := _, after := _, guard := _ }) (v := ?v3_21) rfl (by kernel_rfl) (by kernel_rfl) (by kernel_rfl) (fun _ _ _ h => h) (Or.inl ⟨by rfl, ?hy3_21⟩) hHeld ?_
      case hy3_21 => (intro w hSw; (try dsimp only at hSw); go_simp; try with_reducible rfl)
      simp only [Act.put, List.setIfInBounds_toArray, List.set_cons_zero, List.set_cons_succ]
      refine wpAnyH_done (by kernel_rfl) ?_ _
      go_wp2_with fail
      go_ret
      exact ⟨rfl, below_on B4.out Hs.out.2.2.2.2.2.2.2.2.2.2.2.2⟩
    · skip
      have Hs := Lib.hid (show v0.drew.cell? ⟨g, q, none⟩ = some (.int .i64 a1) ∧ v0.drew.cell? ⟨g, q + 1, none⟩ = some (.int .i64 a2) ∧ v0.drew.cell? ⟨g, q + 2, none⟩ = some (.int .i64 a3) ∧ v0.drew.cell? ⟨g, q + 3, none⟩ = some (.string a4) ∧ v0.drew.cell? ⟨g, q + 4, none⟩ = some (.int .i64 b1) ∧ v0.drew.cell? ⟨g, q + 5, none⟩ = some (.int .i64 b2) ∧ v0.drew.cell? ⟨g, q + 6, none⟩ = some (.int .i64 b3) ∧ v0.drew.cell? ⟨g, q + 7, none⟩ = some (.string b4) ∧ v0.drew.cell? ⟨g, q + 8, none⟩ = some (.int .i64 c1) ∧ v0.drew.cell? ⟨g, q + 9, none⟩ = some (.int .i64 c2) ∧ v0.drew.cell? ⟨g, q + 10, none⟩ = some (.int .i64 c3) ∧ v0.drew.cell? ⟨g, q + 11, none⟩ = some (.string c4) ∧ Below v0.heap.size v0 v0.drew from ⟨q0, q1, q2, q3, q4, q5, q6, q7, q8, q9, q10, q11, below_dn (Below.refl _ _) 1⟩)
      go_wp2_with fail
      refine wp_region_held_drew (S := fun u => u.cell? ⟨g, q, none⟩ = some (.int .i64 a1) ∧ u.cell? ⟨g, q + 1, none⟩ = some (.int .i64 a2) ∧ u.cell? ⟨g, q + 2, none⟩ = some (.int .i64 a3) ∧ u.cell? ⟨g, q + 3, none⟩ = some (.string a4) ∧ u.cell? ⟨g, q + 4, none⟩ = some (.int .i64 b1) ∧ u.cell? ⟨g, q + 5, none⟩ = some (.int .i64 b2) ∧ u.cell? ⟨g, q + 6, none⟩ = some (.int .i64 b3) ∧ u.cell? ⟨g, q + 7, none⟩ = some (.string b4) ∧ u.cell? ⟨g, q + 8, none⟩ = some (.int .i64 c1) ∧ u.cell? ⟨g, q + 9, none⟩ = some (.int .i64 c2) ∧ u.cell? ⟨g, q + 10, none⟩ = some (.int .i64 c3) ∧ u.cell? ⟨g, q + 11, none⟩ = some (.string c4) ∧ Below v0.heap.size v0 u) (by kernel_rfl) Hs.out (fun hHeld => ?_)
      refine wpAnyH_take (i := 0) (oi := { dst := some 65, op := _, type := _, pos := _, after := _, guard := _ }) (v := ?v4_0) rfl (by kernel_rfl) (by kernel_rfl) (by kernel_rfl) (fun _ _ _ h => h) (Or.inl ⟨by rfl, ?hy4_0⟩) hHeld ?_
      case hy4_0 => (intro w hSw; (try dsimp only at hSw); go_simp; try with_reducible rfl)
      simp only [Act.put, List.setIfInBounds_toArray, List.set_cons_zero, List.set_cons_succ]
      refine wpAnyH_take (i := 1) (oi := { dst := some 66, op := _, type := _, pos := _, after := _, guard := _ }) (v := ?v4_1) rfl (by kernel_rfl) (by kernel_rfl) (by kernel_rfl) (fun _ _ _ h => h) (Or.inl ⟨by rfl, ?hy4_1⟩) hHeld ?_
      case hy4_1 => (intro w hSw; (try dsimp only at hSw); go_simp; try with_reducible rfl)
      simp only [Act.put, List.setIfInBounds_toArray, List.set_cons_zero, List.set_cons_succ]
      refine wpAnyH_take (i := 2) (oi := { dst := some 67, op := _, type := _, pos := _, after := _, guard := _ }) (v := ?v4_2) rfl (by kernel_rfl) (by kernel_rfl) (by kernel_rfl) (fun _ _ _ h => h) (Or.inl ⟨by rfl, ?hy4_2⟩) hHeld ?_
      case hy4_2 => (intro w hSw; (try dsimp only at hSw); go_simp; try with_reducible rfl)
      simp only [Act.put, List.setIfInBounds_toArray, List.set_cons_zero, List.set_cons_succ]
      refine wpAnyH_take (i := 3) (oi := { dst := some 68, op := _, type := _, pos := _, after := _, guard := _ }) (v := undef) rfl (by kernel_rfl) (by kernel_rfl) (by kernel_rfl) (fun _ _ _ h => h) (Or.inr ⟨by rfl, rfl⟩) hHeld ?_
      simp only [Act.put, List.setIfInBounds_toArray, List.set_cons_zero, List.set_cons_succ]
      refine wpAnyH_take (i := 4) (oi := { dst := some 69, op := _, type := _, pos := _, after := _, guard := _ }) (v := undef) rfl (by kernel_rfl) (by kernel_rfl) (by kernel_rfl) (fun _ _ _ h => h) (Or.inr ⟨by rfl, rfl⟩) hHeld ?_
      simp only [Act.put, List.setIfInBounds_toArray, List.set_cons_zero, List.set_cons_succ]
      refine wpAnyH_take (i := 5) (oi := { dst := some 70, op := _, type := _, pos := _, after := _, guard := _ }) (v := undef) rfl (by kernel_rfl) (by kernel_rfl) (by kernel_rfl) (fun _ _ _ h => h) (Or.inr ⟨by rfl, rfl⟩) hHeld ?_
      simp only [Act.put, List.setIfInBounds_toArray, List.set_cons_zero, List.set_cons_succ]
      refine wpAnyH_take (i := 6) (oi := { dst := some 71, op := _, type := _, pos := _, after := _, guard := _ }) (v := undef) rfl (by kernel_rfl) (by kernel_rfl) (by kernel_rfl) (fun _ _ _ h => h) (Or.inr ⟨by rfl, rfl⟩) hHeld ?_
      simp only [Act.put, List.setIfInBounds_toArray, List.set_cons_zero, List.set_cons_succ]
      refine wpAnyH_take (i := 7) (oi := { dst := some 72, op := _, type := _, pos := _, after := _, guard := _ }) (v := undef) rfl (by kernel_rfl) (by kernel_rfl) (by kernel_rfl) (fun _ _ _ h => h) (Or.inr ⟨by rfl, rfl⟩) hHeld ?_
      simp only [Act.put, List.setIfInBounds_toArray, List.set_cons_zero, List.set_cons_succ]
      refine wpAnyH_take (i := 8) (oi := { dst := some 73, op := _, type := _, pos := _, after := _, guard := _ }) (v := undef) rfl (by kernel_rfl) (by kernel_rfl) (by kernel_rfl) (fun _ _ _ h => h) (Or.inr ⟨by rfl, rfl⟩) hHeld ?_
      simp only [Act.put, List.setIfInBounds_toArray, List.set_cons_zero, List.set_cons_succ]
      refine wpAnyH_take (i := 9) (oi := { dst := some 74, op := _, type := _, pos := _, after := _, guard := _ }) (v := undef) rfl (by kernel_rfl) (by kernel_rfl) (by kernel_rfl) (fun _ _ _ h => h) (Or.inr ⟨by rfl, rfl⟩) hHeld ?_
      simp only [Act.put, List.setIfInBounds_toArray, List.set_cons_zero, List.set_cons_succ]
      refine wpAnyH_take (i := 10) (oi := { dst := some 75, op := _, type := _, pos := _, after := _, guard := _ }) (v := undef) rfl (by kernel_rfl) (by kernel_rfl) (by kernel_rfl) (fun _ _ _ h => h) (Or.inr ⟨by rfl, rfl⟩) hHeld ?_
      simp only [Act.put, List.setIfInBounds_toArray, List.set_cons_zero, List.set_cons_succ]
      refine wpAnyH_take (i := 11) (oi := { dst := some 76, op := _, type := _, pos := _, after := _, guard := _ }) (v := ?v4_11) rfl (by kernel_rfl) (by kernel_rfl) (by kernel_rfl) (fun _ _ _ h => h) (Or.inl ⟨by rfl, ?hy4_11⟩) hHeld ?_
      case hy4_11 => (intro w hSw; (try dsimp only at hSw); go_simp; try with_reducible rfl)
      simp only [Act.put, List.setIfInBounds_toArray, List.set_cons_zero, List.set_cons_succ]
      refine wpAnyH_take (i := 12) (oi := { dst := some 77, op := _, type := _, pos := _, after := _, guard := _ }) (v := ?v4_12) rfl (by kernel_rfl) (by kernel_rfl) (by kernel_rfl) (fun _ _ _ h => h) (Or.inl ⟨by rfl, ?hy4_12⟩) hHeld ?_
      case hy4_12 => (intro w hSw; (try dsimp only at hSw); go_simp; try with_reducible rfl)
      simp only [Act.put, List.setIfInBounds_toArray, List.set_cons_zero, List.set_cons_succ]
      refine wpAnyH_take (i := 13) (oi := { dst := some 78, op := _, type := _, pos := _, after := _, guard := _ }) (v := undef) rfl (by kernel_rfl) (by kernel_rfl) (by kernel_rfl) (fun _ _ _ h => h) (Or.inr ⟨by rfl, rfl⟩) hHeld ?_
      simp only [Act.put, List.setIfInBounds_toArray, List.set_cons_zero, List.set_cons_succ]
      refine wpAnyH_take (i := 14) (oi := { dst := some 79, op := _, type := _, pos := _, after := _, guard := _ }) (v := undef) rfl (by kernel_rfl) (by kernel_rfl) (by kernel_rfl) (fun _ _ _ h => h) (Or.inr ⟨by rfl, rfl⟩) hHeld ?_
      simp only [Act.put, List.setIfInBounds_toArray, List.set_cons_zero, List.set_cons_succ]
      refine wpAnyH_take (i := 15) (oi := { dst := some 80, op := _, type := _, pos := _, after := _, guard := _ }) (v := undef) rfl (by kernel_rfl) (by kernel_rfl) (by kernel_rfl) (fun _ _ _ h => h) (Or.inr ⟨by rfl, rfl⟩) hHeld ?_
      simp only [Act.put, List.setIfInBounds_toArray, List.set_cons_zero, List.set_cons_succ]
      refine wpAnyH_take (i := 16) (oi := { dst := some 81, op := _, type := _, pos := _, after := _, guard := _ }) (v := undef) rfl (by kernel_rfl) (by kernel_rfl) (by kernel_rfl) (fun _ _ _ h => h) (Or.inr ⟨by rfl, rfl⟩) hHeld ?_
      simp only [Act.put, List.setIfInBounds_toArray, List.set_cons_zero, List.set_cons_succ]
      refine wpAnyH_take (i := 17) (oi := { dst := some 82, op := _, type := _, pos := _, after := _, guard := _ }) (v := undef) rfl (by kernel_rfl) (by kernel_rfl) (by kernel_rfl) (fun _ _ _ h => h) (Or.inr ⟨by rfl, rfl⟩) hHeld ?_
      simp only [Act.put, List.setIfInBounds_toArray, List.set_cons_zero, List.set_cons_succ]
      refine wpAnyH_take (i := 18) (oi := { dst := some 83, op := _, type := _, pos := _, after := _, guard := _ }) (v := undef) rfl (by kernel_rfl) (by kernel_rfl) (by kernel_rfl) (fun _ _ _ h => h) (Or.inr ⟨by rfl, rfl⟩) hHeld ?_
      simp only [Act.put, List.setIfInBounds_toArray, List.set_cons_zero, List.set_cons_succ]
      refine wpAnyH_take (i := 19) (oi := { dst := some 84, op := _, type := _, pos := _, after := _, guard := _ }) (v := undef) rfl (by kernel_rfl) (by kernel_rfl) (by kernel_rfl) (fun _ _ _ h => h) (Or.inr ⟨by rfl, rfl⟩) hHeld ?_
      simp only [Act.put, List.setIfInBounds_toArray, List.set_cons_zero, List.set_cons_succ]
      refine wpAnyH_take (i := 20) (oi := { dst := some 85, op := _, type := _, pos := _, after := _, guard := _ }) (v := ?v4_20) rfl (by kernel_rfl) (by kernel_rfl) (by kernel_rfl) (fun _ _ _ h => h) (Or.inl ⟨by rfl, ?hy4_20⟩) hHeld ?_
      case hy4_20 => (intro w hSw; (try dsimp only at hSw); go_simp; try with_reducible rfl)
      simp only [Act.put, List.setIfInBounds_toArray, List.set_cons_zero, List.set_cons_succ]
      refine wpAnyH_take (i := 21) (oi := { dst := some 6, op := _, type := _, pos := _, after := _, guard := _ }) (v := ?v4_21) rfl (by kernel_rfl) (by kernel_rfl) (by kernel_rfl) (fun _ _ _ h => h) (Or.inl ⟨by rfl, ?hy4_21⟩) hHeld ?_
      case hy4_21 => (intro w hSw; (try dsimp only at hSw); go_simp; try with_reducible rfl)
      simp only [Act.put, List.setIfInBounds_toArray, List.set_cons_zero, List.set_cons_succ]
      refine wpAnyH_done (by kernel_rfl) ?_ _
      go_wp2_with fail
      go_ret
      exact ⟨rfl, below_on B4.out Hs.out.2.2.2.2.2.2.2.2.2.2.2.2⟩
    · skip
      have Hs := Lib.hid (show v0.drew.cell? ⟨g, q, none⟩ = some (.int .i64 a1) ∧ v0.drew.cell? ⟨g, q + 1, none⟩ = some (.int .i64 a2) ∧ v0.drew.cell? ⟨g, q + 2, none⟩ = some (.int .i64 a3) ∧ v0.drew.cell? ⟨g, q + 3, none⟩ = some (.string a4) ∧ v0.drew.cell? ⟨g, q + 4, none⟩ = some (.int .i64 b1) ∧ v0.drew.cell? ⟨g, q + 5, none⟩ = some (.int .i64 b2) ∧ v0.drew.cell? ⟨g, q + 6, none⟩ = some (.int .i64 b3) ∧ v0.drew.cell? ⟨g, q + 7, none⟩ = some (.string b4) ∧ v0.drew.cell? ⟨g, q + 8, none⟩ = some (.int .i64 c1) ∧ v0.drew.cell? ⟨g, q + 9, none⟩ = some (.int .i64 c2) ∧ v0.drew.cell? ⟨g, q + 10, none⟩ = some (.int .i64 c3) ∧ v0.drew.cell? ⟨g, q + 11, none⟩ = some (.string c4) ∧ Below v0.heap.size v0 v0.drew from ⟨q0, q1, q2, q3, q4, q5, q6, q7, q8, q9, q10, q11, below_dn (Below.refl _ _) 1⟩)
      go_wp2_with fail
      refine wp_region_held_drew (S := fun u => u.cell? ⟨g, q, none⟩ = some (.int .i64 a1) ∧ u.cell? ⟨g, q + 1, none⟩ = some (.int .i64 a2) ∧ u.cell? ⟨g, q + 2, none⟩ = some (.int .i64 a3) ∧ u.cell? ⟨g, q + 3, none⟩ = some (.string a4) ∧ u.cell? ⟨g, q + 4, none⟩ = some (.int .i64 b1) ∧ u.cell? ⟨g, q + 5, none⟩ = some (.int .i64 b2) ∧ u.cell? ⟨g, q + 6, none⟩ = some (.int .i64 b3) ∧ u.cell? ⟨g, q + 7, none⟩ = some (.string b4) ∧ u.cell? ⟨g, q + 8, none⟩ = some (.int .i64 c1) ∧ u.cell? ⟨g, q + 9, none⟩ = some (.int .i64 c2) ∧ u.cell? ⟨g, q + 10, none⟩ = some (.int .i64 c3) ∧ u.cell? ⟨g, q + 11, none⟩ = some (.string c4) ∧ Below v0.heap.size v0 u) (by kernel_rfl) Hs.out (fun hHeld => ?_)
      refine wpAnyH_take (i := 0) (oi := { dst := some 65, op := _, type := _, pos := _, after := _, guard := _ }) (v := ?v5_0) rfl (by kernel_rfl) (by kernel_rfl) (by kernel_rfl) (fun _ _ _ h => h) (Or.inl ⟨by rfl, ?hy5_0⟩) hHeld ?_
      case hy5_0 => (intro w hSw; (try dsimp only at hSw); go_simp; try with_reducible rfl)
      simp only [Act.put, List.setIfInBounds_toArray, List.set_cons_zero, List.set_cons_succ]
      refine wpAnyH_take (i := 1) (oi := { dst := some 66, op := _, type := _, pos := _, after := _, guard := _ }) (v := ?v5_1) rfl (by kernel_rfl) (by kernel_rfl) (by kernel_rfl) (fun _ _ _ h => h) (Or.inl ⟨by rfl, ?hy5_1⟩) hHeld ?_
      case hy5_1 => (intro w hSw; (try dsimp only at hSw); go_simp; try with_reducible rfl)
      simp only [Act.put, List.setIfInBounds_toArray, List.set_cons_zero, List.set_cons_succ]
      refine wpAnyH_take (i := 2) (oi := { dst := some 67, op := _, type := _, pos := _, after := _, guard := _ }) (v := ?v5_2) rfl (by kernel_rfl) (by kernel_rfl) (by kernel_rfl) (fun _ _ _ h => h) (Or.inl ⟨by rfl, ?hy5_2⟩) hHeld ?_
      case hy5_2 => (intro w hSw; (try dsimp only at hSw); go_simp; try with_reducible rfl)
      simp only [Act.put, List.setIfInBounds_toArray, List.set_cons_zero, List.set_cons_succ]
      refine wpAnyH_take (i := 3) (oi := { dst := some 68, op := _, type := _, pos := _, after := _, guard := _ }) (v := undef) rfl (by kernel_rfl) (by kernel_rfl) (by kernel_rfl) (fun _ _ _ h => h) (Or.inr ⟨by rfl, rfl⟩) hHeld ?_
      simp only [Act.put, List.setIfInBounds_toArray, List.set_cons_zero, List.set_cons_succ]
      refine wpAnyH_take (i := 4) (oi := { dst := some 69, op := _, type := _, pos := _, after := _, guard := _ }) (v := undef) rfl (by kernel_rfl) (by kernel_rfl) (by kernel_rfl) (fun _ _ _ h => h) (Or.inr ⟨by rfl, rfl⟩) hHeld ?_
      simp only [Act.put, List.setIfInBounds_toArray, List.set_cons_zero, List.set_cons_succ]
      refine wpAnyH_take (i := 5) (oi := { dst := some 70, op := _, type := _, pos := _, after := _, guard := _ }) (v := undef) rfl (by kernel_rfl) (by kernel_rfl) (by kernel_rfl) (fun _ _ _ h => h) (Or.inr ⟨by rfl, rfl⟩) hHeld ?_
      simp only [Act.put, List.setIfInBounds_toArray, List.set_cons_zero, List.set_cons_succ]
      refine wpAnyH_take (i := 6) (oi := { dst := some 71, op := _, type := _, pos := _, after := _, guard := _ }) (v := undef) rfl (by kernel_rfl) (by kernel_rfl) (by kernel_rfl) (fun _ _ _ h => h) (Or.inr ⟨by rfl, rfl⟩) hHeld ?_
      simp only [Act.put, List.setIfInBounds_toArray, List.set_cons_zero, List.set_cons_succ]
      refine wpAnyH_take (i := 7) (oi := { dst := some 72, op := _, type := _, pos := _, after := _, guard := _ }) (v := undef) rfl (by kernel_rfl) (by kernel_rfl) (by kernel_rfl) (fun _ _ _ h => h) (Or.inr ⟨by rfl, rfl⟩) hHeld ?_
      simp only [Act.put, List.setIfInBounds_toArray, List.set_cons_zero, List.set_cons_succ]
      refine wpAnyH_take (i := 8) (oi := { dst := some 73, op := _, type := _, pos := _, after := _, guard := _ }) (v := undef) rfl (by kernel_rfl) (by kernel_rfl) (by kernel_rfl) (fun _ _ _ h => h) (Or.inr ⟨by rfl, rfl⟩) hHeld ?_
      simp only [Act.put, List.setIfInBounds_toArray, List.set_cons_zero, List.set_cons_succ]
      refine wpAnyH_take (i := 9) (oi := { dst := some 74, op := _, type := _, pos := _, after := _, guard := _ }) (v := undef) rfl (by kernel_rfl) (by kernel_rfl) (by kernel_rfl) (fun _ _ _ h => h) (Or.inr ⟨by rfl, rfl⟩) hHeld ?_
      simp only [Act.put, List.setIfInBounds_toArray, List.set_cons_zero, List.set_cons_succ]
      refine wpAnyH_take (i := 10) (oi := { dst := some 75, op := _, type := _, pos := _, after := _, guard := _ }) (v := undef) rfl (by kernel_rfl) (by kernel_rfl) (by kernel_rfl) (fun _ _ _ h => h) (Or.inr ⟨by rfl, rfl⟩) hHeld ?_
      simp only [Act.put, List.setIfInBounds_toArray, List.set_cons_zero, List.set_cons_succ]
      refine wpAnyH_take (i := 11) (oi := { dst := some 76, op := _, type := _, pos := _, after := _, guard := _ }) (v := ?v5_11) rfl (by kernel_rfl) (by kernel_rfl) (by kernel_rfl) (fun _ _ _ h => h) (Or.inl ⟨by rfl, ?hy5_11⟩) hHeld ?_
      case hy5_11 => (intro w hSw; (try dsimp only at hSw); go_simp; try with_reducible rfl)
      simp only [Act.put, List.setIfInBounds_toArray, List.set_cons_zero, List.set_cons_succ]
      refine wpAnyH_take (i := 12) (oi := { dst := some 77, op := _, type := _, pos := _, after := _, guard := _ }) (v := ?v5_12) rfl (by kernel_rfl) (by kernel_rfl) (by kernel_rfl) (fun _ _ _ h => h) (Or.inl ⟨by rfl, ?hy5_12⟩) hHeld ?_
      case hy5_12 => (intro w hSw; (try dsimp only at hSw); go_simp; try with_reducible rfl)
      simp only [Act.put, List.setIfInBounds_toArray, List.set_cons_zero, List.set_cons_succ]
      refine wpAnyH_take (i := 13) (oi := { dst := some 78, op := _, type := _, pos := _, after := _, guard := _ }) (v := undef) rfl (by kernel_rfl) (by kernel_rfl) (by kernel_rfl) (fun _ _ _ h => h) (Or.inr ⟨by rfl, rfl⟩) hHeld ?_
      simp only [Act.put, List.setIfInBounds_toArray, List.set_cons_zero, List.set_cons_succ]
      refine wpAnyH_take (i := 14) (oi := { dst := some 79, op := _, type := _, pos := _, after := _, guard := _ }) (v := undef) rfl (by kernel_rfl) (by kernel_rfl) (by kernel_rfl) (fun _ _ _ h => h) (Or.inr ⟨by rfl, rfl⟩) hHeld ?_
      simp only [Act.put, List.setIfInBounds_toArray, List.set_cons_zero, List.set_cons_succ]
      refine wpAnyH_take (i := 15) (oi := { dst := some 80, op := _, type := _, pos := _, after := _, guard := _ }) (v := undef) rfl (by kernel_rfl) (by kernel_rfl) (by kernel_rfl) (fun _ _ _ h => h) (Or.inr ⟨by rfl, rfl⟩) hHeld ?_
      simp only [Act.put, List.setIfInBounds_toArray, List.set_cons_zero, List.set_cons_succ]
      refine wpAnyH_take (i := 16) (oi := { dst := some 81, op := _, type := _, pos := _, after := _, guard := _ }) (v := undef) rfl (by kernel_rfl) (by kernel_rfl) (by kernel_rfl) (fun _ _ _ h => h) (Or.inr ⟨by rfl, rfl⟩) hHeld ?_
      simp only [Act.put, List.setIfInBounds_toArray, List.set_cons_zero, List.set_cons_succ]
      refine wpAnyH_take (i := 17) (oi := { dst := some 82, op := _, type := _, pos := _, after := _, guard := _ }) (v := undef) rfl (by kernel_rfl) (by kernel_rfl) (by kernel_rfl) (fun _ _ _ h => h) (Or.inr ⟨by rfl, rfl⟩) hHeld ?_
      simp only [Act.put, List.setIfInBounds_toArray, List.set_cons_zero, List.set_cons_succ]
      refine wpAnyH_take (i := 18) (oi := { dst := some 83, op := _, type := _, pos := _, after := _, guard := _ }) (v := undef) rfl (by kernel_rfl) (by kernel_rfl) (by kernel_rfl) (fun _ _ _ h => h) (Or.inr ⟨by rfl, rfl⟩) hHeld ?_
      simp only [Act.put, List.setIfInBounds_toArray, List.set_cons_zero, List.set_cons_succ]
      refine wpAnyH_take (i := 19) (oi := { dst := some 84, op := _, type := _, pos := _, after := _, guard := _ }) (v := undef) rfl (by kernel_rfl) (by kernel_rfl) (by kernel_rfl) (fun _ _ _ h => h) (Or.inr ⟨by rfl, rfl⟩) hHeld ?_
      simp only [Act.put, List.setIfInBounds_toArray, List.set_cons_zero, List.set_cons_succ]
      refine wpAnyH_take (i := 20) (oi := { dst := some 85, op := _, type := _, pos := _, after := _, guard := _ }) (v := ?v5_20) rfl (by kernel_rfl) (by kernel_rfl) (by kernel_rfl) (fun _ _ _ h => h) (Or.inl ⟨by rfl, ?hy5_20⟩) hHeld ?_
      case hy5_20 => (intro w hSw; (try dsimp only at hSw); go_simp; try with_reducible rfl)
      simp only [Act.put, List.setIfInBounds_toArray, List.set_cons_zero, List.set_cons_succ]
      refine wpAnyH_take (i := 21) (oi := { dst := some 6, op := _, type := _, pos := _, after := _, guard := _ }) (v := ?v5_21) rfl (by kernel_rfl) (by kernel_rfl) (by kernel_rfl) (fun _ _ _ h => h) (Or.inl ⟨by rfl, ?hy5_21⟩) hHeld ?_
      case hy5_21 => (intro w hSw; (try dsimp only at hSw); go_simp; try with_reducible rfl)
      simp only [Act.put, List.setIfInBounds_toArray, List.set_cons_zero, List.set_cons_succ]
      refine wpAnyH_done (by kernel_rfl) ?_ _
      go_wp2_with fail
      go_ret
      exact ⟨rfl, below_on B4.out Hs.out.2.2.2.2.2.2.2.2.2.2.2.2⟩
set_option maxHeartbeats 4000000 in
set_option maxRecDepth 100000 in
theorem l20t_fe (M : PP) (a1 a2 a3 b1 b2 b3 c1 c2 c3 : Int) (a4 b4 c4 : ByteArray) (W : World) (p1 p2 p3 : Bool) (e1 : (a3 == b3) = p1) (e2 : (a1 == b1) = p2) (e3 : (a2 == b2) = p3)
    (hw : (p1 = true ∧ p2 = true ∧ p3 = true))
    (HX : ∀ u, Calls Try.prog 10 #[cdv (⟨a1, a2, a3, a4⟩ : Cd), cdv (⟨b1, b2, b3, b4⟩ : Cd)] u fun e w' => e = .returned (.bool false) ∧ Below u.heap.size u w')
    (HY : ∀ u, Calls Try.prog 10 #[cdv (⟨b1, b2, b3, b4⟩ : Cd), cdv (⟨a1, a2, a3, a4⟩ : Cd)] u fun e w' => e = .returned (.bool false) ∧ Below u.heap.size u w')
    : Calls Try.prog 4 #[cdv (⟨a1, a2, a3, a4⟩ : Cd), cdv (⟨b1, b2, b3, b4⟩ : Cd), cdv (⟨c1, c2, c3, c4⟩ : Cd)] W fun e w' => e = .returned (.bool true) ∧ Below W.heap.size W w' := by
  · skip
    have HA := Lib.hid (fun u => c20awake_any M u)
    have HF := Lib.hid (fun v l u h1 h2 => fwd_any v l u h1 h2)
    clear M
    have RA := Lib.hid (row_al (row_al (heap_alloc_new W (Obj.cells #[.int .i64 a1, .int .i64 a2, .int .i64 a3, .string a4] 24)) (Obj.cells #[.int .i64 b1, .int .i64 b2, .int .i64 b3, .string b4] 24)) (Obj.cells #[.int .i64 c1, .int .i64 c2, .int .i64 c3, .string c4] 24))
    have RB := Lib.hid (row_al (row_new1 W (Obj.cells #[.int .i64 a1, .int .i64 a2, .int .i64 a3, .string a4] 24) (Obj.cells #[.int .i64 b1, .int .i64 b2, .int .i64 b3, .string b4] 24)) (Obj.cells #[.int .i64 c1, .int .i64 c2, .int .i64 c3, .string c4] 24))
    have RC := Lib.hid (rw_new2 W (Obj.cells #[.int .i64 a1, .int .i64 a2, .int .i64 a3, .string a4] 24) (Obj.cells #[.int .i64 b1, .int .i64 b2, .int .i64 b3, .string b4] 24) (Obj.cells #[.int .i64 c1, .int .i64 c2, .int .i64 c3, .string c4] 24))
    have B0 : Hid (Below W.heap.size W (((W.alloc (Obj.cells #[.int .i64 a1, .int .i64 a2, .int .i64 a3, .string a4] 24)).alloc (Obj.cells #[.int .i64 b1, .int .i64 b2, .int .i64 b3, .string b4] 24)).alloc (Obj.cells #[.int .i64 c1, .int .i64 c2, .int .i64 c3, .string c4] 24))) := Lib.hid ((((Below.refl _ _).alloc (Nat.le_refl _) _).alloc (by simp) _).alloc (by simp; omega) _)
    go_enter Try.func4, Try.ntmps4
    go_wp2_with fail
    refine (HA.out _).mono ?_
    rintro e w1 ⟨rfl, hb1⟩
    have B1 := Lib.hid (below_on B0.out hb1)
    have RA1 := Lib.hid (row_on RA.out hb1)
    have RB1 := Lib.hid (row_on RB.out hb1)
    have RC1 := Lib.hid (row_on RC.out hb1)
    clear hb1 RA RB RC B0
    obtain ⟨x0, x1, x2, x3⟩ := row_cd RA1.out
    obtain ⟨y0, y1, y2, y3⟩ := row_cd RB1.out
    obtain ⟨z0, z1, z2, z3⟩ := row_cd RC1.out
    go_wp2_with fail
    have RL := Lib.hid (heap_alloc_new w1 (Obj.cells #[.int .i64 a1, .int .i64 a2, .int .i64 a3, .string a4, .int .i64 b1, .int .i64 b2, .int .i64 b3, .string b4, .int .i64 c1, .int .i64 c2, .int .i64 c3, .string c4] 24))
    refine (HF.out _ _ _ (by simp) (cs_three (x := (⟨a1, a2, a3, a4⟩ : Cd)) (y := (⟨b1, b2, b3, b4⟩ : Cd)) (z := (⟨c1, c2, c3, c4⟩ : Cd)) RL.out)).mono ?_
    rintro e w2 ⟨v, rfl, hv, hb2⟩
    obtain ⟨A, cap, hA, hc1, hc2, hit⟩ := hv.cs
    obtain ⟨g, q, rfl, i0⟩ := hit 0 _ rfl
    obtain ⟨g1, s1, f1, i1⟩ := hit 1 _ rfl
    obtain ⟨g2, s2, f2, i2⟩ := hit 2 _ rfl
    obtain ⟨rfl, rfl⟩ : g = g1 ∧ q = s1 := by cases f1; exact ⟨rfl, rfl⟩
    obtain ⟨rfl, rfl⟩ : g = g2 ∧ q = s2 := by cases f2; exact ⟨rfl, rfl⟩
    subst hA
    have B2 := Lib.hid (below_on (B1.out.alloc B1.out.size _) hb2)
    have RA2 := Lib.hid (row_on (row_al RA1.out _) hb2)
    have RB2 := Lib.hid (row_on (row_al RB1.out _) hb2)
    clear hb2 hv hit f1 f2 RL RA1 RB1 RC1 B1 x0 x1 x2 x3 y0 y1 y2 y3 z0 z1 z2 z3 hc1 hc2
    obtain ⟨q0, q1, q2, q3⟩ := i0
    obtain ⟨q4, q5, q6, q7⟩ := i1
    obtain ⟨q8, q9, q10, q11⟩ := i2
    have Hs := Lib.hid (show w2.drew.cell? ⟨g, q, none⟩ = some (.int .i64 a1) ∧ w2.drew.cell? ⟨g, q + 1, none⟩ = some (.int .i64 a2) ∧ w2.drew.cell? ⟨g, q + 2, none⟩ = some (.int .i64 a3) ∧ w2.drew.cell? ⟨g, q + 3, none⟩ = some (.string a4) ∧ w2.drew.cell? ⟨g, q + 4, none⟩ = some (.int .i64 b1) ∧ w2.drew.cell? ⟨g, q + 5, none⟩ = some (.int .i64 b2) ∧ w2.drew.cell? ⟨g, q + 6, none⟩ = some (.int .i64 b3) ∧ w2.drew.cell? ⟨g, q + 7, none⟩ = some (.string b4) ∧ w2.drew.cell? ⟨g, q + 8, none⟩ = some (.int .i64 c1) ∧ w2.drew.cell? ⟨g, q + 9, none⟩ = some (.int .i64 c2) ∧ w2.drew.cell? ⟨g, q + 10, none⟩ = some (.int .i64 c3) ∧ w2.drew.cell? ⟨g, q + 11, none⟩ = some (.string c4) ∧ Below w2.heap.size w2 w2.drew from ⟨q0, q1, q2, q3, q4, q5, q6, q7, q8, q9, q10, q11, below_dn (Below.refl _ _) 1⟩)
    have XP0 := Lib.hid (fun u (hu : u.cell? ⟨g, q, none⟩ = some (.int .i64 a1) ∧ u.cell? ⟨g, q + 1, none⟩ = some (.int .i64 a2) ∧ u.cell? ⟨g, q + 2, none⟩ = some (.int .i64 a3) ∧ u.cell? ⟨g, q + 3, none⟩ = some (.string a4) ∧ u.cell? ⟨g, q + 4, none⟩ = some (.int .i64 b1) ∧ u.cell? ⟨g, q + 5, none⟩ = some (.int .i64 b2) ∧ u.cell? ⟨g, q + 6, none⟩ = some (.int .i64 b3) ∧ u.cell? ⟨g, q + 7, none⟩ = some (.string b4) ∧ u.cell? ⟨g, q + 8, none⟩ = some (.int .i64 c1) ∧ u.cell? ⟨g, q + 9, none⟩ = some (.int .i64 c2) ∧ u.cell? ⟨g, q + 10, none⟩ = some (.int .i64 c3) ∧ u.cell? ⟨g, q + 11, none⟩ = some (.string c4) ∧ Below w2.heap.size w2 u) => (HX u).mono (R' := fun e u' => e = .returned (.bool false) ∧ (u'.cell? ⟨g, q, none⟩ = some (.int .i64 a1) ∧ u'.cell? ⟨g, q + 1, none⟩ = some (.int .i64 a2) ∧ u'.cell? ⟨g, q + 2, none⟩ = some (.int .i64 a3) ∧ u'.cell? ⟨g, q + 3, none⟩ = some (.string a4) ∧ u'.cell? ⟨g, q + 4, none⟩ = some (.int .i64 b1) ∧ u'.cell? ⟨g, q + 5, none⟩ = some (.int .i64 b2) ∧ u'.cell? ⟨g, q + 6, none⟩ = some (.int .i64 b3) ∧ u'.cell? ⟨g, q + 7, none⟩ = some (.string b4) ∧ u'.cell? ⟨g, q + 8, none⟩ = some (.int .i64 c1) ∧ u'.cell? ⟨g, q + 9, none⟩ = some (.int .i64 c2) ∧ u'.cell? ⟨g, q + 10, none⟩ = some (.int .i64 c3) ∧ u'.cell? ⟨g, q + 11, none⟩ = some (.string c4) ∧ Below w2.heap.size w2 u')) fun e u' ⟨he, hq⟩ => ⟨he, ⟨cell_below hu.1 hq, cell_below hu.2.1 hq, cell_below hu.2.2.1 hq, cell_below hu.2.2.2.1 hq, cell_below hu.2.2.2.2.1 hq, cell_below hu.2.2.2.2.2.1 hq, cell_below hu.2.2.2.2.2.2.1 hq, cell_below hu.2.2.2.2.2.2.2.1 hq, cell_below hu.2.2.2.2.2.2.2.2.1 hq, cell_below hu.2.2.2.2.2.2.2.2.2.1 hq, cell_below hu.2.2.2.2.2.2.2.2.2.2.1 hq, cell_below hu.2.2.2.2.2.2.2.2.2.2.2.1 hq, below_on hu.2.2.2.2.2.2.2.2.2.2.2.2 hq⟩⟩)
    go_wp2_with fail
    refine wp_region_held_drew (S := fun u => u.cell? ⟨g, q, none⟩ = some (.int .i64 a1) ∧ u.cell? ⟨g, q + 1, none⟩ = some (.int .i64 a2) ∧ u.cell? ⟨g, q + 2, none⟩ = some (.int .i64 a3) ∧ u.cell? ⟨g, q + 3, none⟩ = some (.string a4) ∧ u.cell? ⟨g, q + 4, none⟩ = some (.int .i64 b1) ∧ u.cell? ⟨g, q + 5, none⟩ = some (.int .i64 b2) ∧ u.cell? ⟨g, q + 6, none⟩ = some (.int .i64 b3) ∧ u.cell? ⟨g, q + 7, none⟩ = some (.string b4) ∧ u.cell? ⟨g, q + 8, none⟩ = some (.int .i64 c1) ∧ u.cell? ⟨g, q + 9, none⟩ = some (.int .i64 c2) ∧ u.cell? ⟨g, q + 10, none⟩ = some (.int .i64 c3) ∧ u.cell? ⟨g, q + 11, none⟩ = some (.string c4) ∧ Below w2.heap.size w2 u) (by kernel_rfl) Hs.out (fun hHeld => ?_)
    refine wpAnyH_take (i := 0) (oi := { dst := some 18, op := _, type := _, pos := _, after := _, guard := _ }) (v := ?v6_0) rfl (by kernel_rfl) (by kernel_rfl) (by kernel_rfl) (fun _ _ _ h => h) (Or.inl ⟨by rfl, ?hy6_0⟩) hHeld ?_
    case hy6_0 => (intro w hSw; (try dsimp only at hSw); go_simp; try with_reducible rfl)
    simp only [Act.put, List.setIfInBounds_toArray, List.set_cons_zero, List.set_cons_succ]
    refine wpAnyH_take (i := 1) (oi := { dst := some 19, op := _, type := _, pos := _, after := _, guard := _ }) (v := ?v6_1) rfl (by kernel_rfl) (by kernel_rfl) (by kernel_rfl) (fun _ _ _ h => h) (Or.inl ⟨by rfl, ?hy6_1⟩) hHeld ?_
    case hy6_1 => (intro w hSw; (try dsimp only at hSw); go_simp; try with_reducible rfl)
    simp only [Act.put, List.setIfInBounds_toArray, List.set_cons_zero, List.set_cons_succ]
    refine wpAnyH_take (i := 2) (oi := { dst := some 20, op := _, type := _, pos := _, after := _, guard := _ }) (v := ?v6_2) rfl (by kernel_rfl) (by kernel_rfl) (by kernel_rfl) (fun _ _ _ h => h) (Or.inl ⟨by rfl, ?hy6_2⟩) hHeld ?_
    case hy6_2 => (intro w hSw; (try dsimp only at hSw); go_simp; try with_reducible rfl)
    simp only [Act.put, List.setIfInBounds_toArray, List.set_cons_zero, List.set_cons_succ]
    refine wpAnyH_take (i := 3) (oi := { dst := some 21, op := _, type := _, pos := _, after := _, guard := _ }) (v := ?v6_3) rfl (by kernel_rfl) (by kernel_rfl) (by kernel_rfl) (fun _ _ _ h => h) (Or.inl ⟨by rfl, ?hy6_3⟩) hHeld ?_
    case hy6_3 => (intro w hSw; (try dsimp only at hSw); go_simp; try with_reducible rfl)
    simp only [Act.put, List.setIfInBounds_toArray, List.set_cons_zero, List.set_cons_succ]
    refine wpAnyH_take (i := 4) (oi := { dst := some 22, op := _, type := _, pos := _, after := _, guard := _ }) (v := ?v6_4) rfl (by kernel_rfl) (by kernel_rfl) (by kernel_rfl) (fun _ _ _ h => h) (Or.inl ⟨by rfl, ?hy6_4⟩) hHeld ?_
    case hy6_4 => (intro w hSw; (try dsimp only at hSw); go_simp; try with_reducible rfl)
    simp only [Act.put, List.setIfInBounds_toArray, List.set_cons_zero, List.set_cons_succ]
    refine wpAnyH_take (i := 5) (oi := { dst := some 23, op := _, type := _, pos := _, after := _, guard := _ }) (v := ?v6_5) rfl (by kernel_rfl) (by kernel_rfl) (by kernel_rfl) (fun _ _ _ h => h) (Or.inl ⟨by rfl, ?hy6_5⟩) hHeld ?_
    case hy6_5 => (intro w hSw; (try dsimp only at hSw); go_simp; try with_reducible rfl)
    simp only [Act.put, List.setIfInBounds_toArray, List.set_cons_zero, List.set_cons_succ]
    refine wpAnyH_ready (rs := [6]) (by kernel_rfl) (by simp) ?_
    refine AllReadyH.cons (o := { dst := some 24, op := _, type := _, pos := _, after := _, guard := _ }) rfl (fun K hK => ?_) AllReadyH.nil
    go_simp
    go_at_call 10
    refine (XP0.out _ (by assumption)).mono ?_
    rintro ee0 u0 ⟨rfl, hs0⟩
    refine hK.out _ _ hs0 (fun hHeld => ?_)
    clear hK K
    refine wpAnyH_take (i := 7) (oi := { dst := some 8, op := _, type := _, pos := _, after := _, guard := _ }) (v := ?v6_7) rfl (by kernel_rfl) (by kernel_rfl) (by kernel_rfl) (fun _ _ _ h => h) (Or.inl ⟨by rfl, ?hy6_7⟩) hHeld ?_
    case hy6_7 => (intro w hSw; (try dsimp only at hSw); go_simp; try with_reducible rfl)
    simp only [Act.put, List.setIfInBounds_toArray, List.set_cons_zero, List.set_cons_succ]
    refine wpAnyH_done (by kernel_rfl) ?_ _
    have B3 := Lib.hid (below_on B2.out hs0.2.2.2.2.2.2.2.2.2.2.2.2)
    have RA3 := Lib.hid (row_on RA2.out hs0.2.2.2.2.2.2.2.2.2.2.2.2)
    have RB3 := Lib.hid (row_on RB2.out hs0.2.2.2.2.2.2.2.2.2.2.2.2)
    clear q0 q1 q2 q3 q4 q5 q6 q7 q8 q9 q10 q11 Hs XP0 RA2 RB2 B2
    obtain ⟨q0, q1, q2, q3, q4, q5, q6, q7, q8, q9, q10, q11, _⟩ := hs0
    have Hs := Lib.hid (show u0.drew.cell? ⟨g, q, none⟩ = some (.int .i64 a1) ∧ u0.drew.cell? ⟨g, q + 1, none⟩ = some (.int .i64 a2) ∧ u0.drew.cell? ⟨g, q + 2, none⟩ = some (.int .i64 a3) ∧ u0.drew.cell? ⟨g, q + 3, none⟩ = some (.string a4) ∧ u0.drew.cell? ⟨g, q + 4, none⟩ = some (.int .i64 b1) ∧ u0.drew.cell? ⟨g, q + 5, none⟩ = some (.int .i64 b2) ∧ u0.drew.cell? ⟨g, q + 6, none⟩ = some (.int .i64 b3) ∧ u0.drew.cell? ⟨g, q + 7, none⟩ = some (.string b4) ∧ u0.drew.cell? ⟨g, q + 8, none⟩ = some (.int .i64 c1) ∧ u0.drew.cell? ⟨g, q + 9, none⟩ = some (.int .i64 c2) ∧ u0.drew.cell? ⟨g, q + 10, none⟩ = some (.int .i64 c3) ∧ u0.drew.cell? ⟨g, q + 11, none⟩ = some (.string c4) ∧ Below u0.heap.size u0 u0.drew from ⟨q0, q1, q2, q3, q4, q5, q6, q7, q8, q9, q10, q11, below_dn (Below.refl _ _) 1⟩)
    have XP0 := Lib.hid (fun u (hu : u.cell? ⟨g, q, none⟩ = some (.int .i64 a1) ∧ u.cell? ⟨g, q + 1, none⟩ = some (.int .i64 a2) ∧ u.cell? ⟨g, q + 2, none⟩ = some (.int .i64 a3) ∧ u.cell? ⟨g, q + 3, none⟩ = some (.string a4) ∧ u.cell? ⟨g, q + 4, none⟩ = some (.int .i64 b1) ∧ u.cell? ⟨g, q + 5, none⟩ = some (.int .i64 b2) ∧ u.cell? ⟨g, q + 6, none⟩ = some (.int .i64 b3) ∧ u.cell? ⟨g, q + 7, none⟩ = some (.string b4) ∧ u.cell? ⟨g, q + 8, none⟩ = some (.int .i64 c1) ∧ u.cell? ⟨g, q + 9, none⟩ = some (.int .i64 c2) ∧ u.cell? ⟨g, q + 10, none⟩ = some (.int .i64 c3) ∧ u.cell? ⟨g, q + 11, none⟩ = some (.string c4) ∧ Below u0.heap.size u0 u) => (HY u).mono (R' := fun e u' => e = .returned (.bool false) ∧ (u'.cell? ⟨g, q, none⟩ = some (.int .i64 a1) ∧ u'.cell? ⟨g, q + 1, none⟩ = some (.int .i64 a2) ∧ u'.cell? ⟨g, q + 2, none⟩ = some (.int .i64 a3) ∧ u'.cell? ⟨g, q + 3, none⟩ = some (.string a4) ∧ u'.cell? ⟨g, q + 4, none⟩ = some (.int .i64 b1) ∧ u'.cell? ⟨g, q + 5, none⟩ = some (.int .i64 b2) ∧ u'.cell? ⟨g, q + 6, none⟩ = some (.int .i64 b3) ∧ u'.cell? ⟨g, q + 7, none⟩ = some (.string b4) ∧ u'.cell? ⟨g, q + 8, none⟩ = some (.int .i64 c1) ∧ u'.cell? ⟨g, q + 9, none⟩ = some (.int .i64 c2) ∧ u'.cell? ⟨g, q + 10, none⟩ = some (.int .i64 c3) ∧ u'.cell? ⟨g, q + 11, none⟩ = some (.string c4) ∧ Below u0.heap.size u0 u')) fun e u' ⟨he, hq⟩ => ⟨he, ⟨cell_below hu.1 hq, cell_below hu.2.1 hq, cell_below hu.2.2.1 hq, cell_below hu.2.2.2.1 hq, cell_below hu.2.2.2.2.1 hq, cell_below hu.2.2.2.2.2.1 hq, cell_below hu.2.2.2.2.2.2.1 hq, cell_below hu.2.2.2.2.2.2.2.1 hq, cell_below hu.2.2.2.2.2.2.2.2.1 hq, cell_below hu.2.2.2.2.2.2.2.2.2.1 hq, cell_below hu.2.2.2.2.2.2.2.2.2.2.1 hq, cell_below hu.2.2.2.2.2.2.2.2.2.2.2.1 hq, below_on hu.2.2.2.2.2.2.2.2.2.2.2.2 hq⟩⟩)
    go_wp2_with fail
    refine wp_region_held_drew (S := fun u => u.cell? ⟨g, q, none⟩ = some (.int .i64 a1) ∧ u.cell? ⟨g, q + 1, none⟩ = some (.int .i64 a2) ∧ u.cell? ⟨g, q + 2, none⟩ = some (.int .i64 a3) ∧ u.cell? ⟨g, q + 3, none⟩ = some (.string a4) ∧ u.cell? ⟨g, q + 4, none⟩ = some (.int .i64 b1) ∧ u.cell? ⟨g, q + 5, none⟩ = some (.int .i64 b2) ∧ u.cell? ⟨g, q + 6, none⟩ = some (.int .i64 b3) ∧ u.cell? ⟨g, q + 7, none⟩ = some (.string b4) ∧ u.cell? ⟨g, q + 8, none⟩ = some (.int .i64 c1) ∧ u.cell? ⟨g, q + 9, none⟩ = some (.int .i64 c2) ∧ u.cell? ⟨g, q + 10, none⟩ = some (.int .i64 c3) ∧ u.cell? ⟨g, q + 11, none⟩ = some (.string c4) ∧ Below u0.heap.size u0 u) (by kernel_rfl) Hs.out (fun hHeld => ?_)
    refine wpAnyH_take (i := 0) (oi := { dst := some 25, op := _, type := _, pos := _, after := _, guard := _ }) (v := ?v7_0) rfl (by kernel_rfl) (by kernel_rfl) (by kernel_rfl) (fun _ _ _ h => h) (Or.inl ⟨by rfl, ?hy7_0⟩) hHeld ?_
    case hy7_0 => (intro w hSw; (try dsimp only at hSw); go_simp; try with_reducible rfl)
    simp only [Act.put, List.setIfInBounds_toArray, List.set_cons_zero, List.set_cons_succ]
    refine wpAnyH_take (i := 1) (oi := { dst := some 26, op := _, type := _, pos := _, after := _, guard := _ }) (v := ?v7_1) rfl (by kernel_rfl) (by kernel_rfl) (by kernel_rfl) (fun _ _ _ h => h) (Or.inl ⟨by rfl, ?hy7_1⟩) hHeld ?_
    case hy7_1 => (intro w hSw; (try dsimp only at hSw); go_simp; try with_reducible rfl)
    simp only [Act.put, List.setIfInBounds_toArray, List.set_cons_zero, List.set_cons_succ]
    refine wpAnyH_take (i := 2) (oi := { dst := some 27, op := _, type := _, pos := _, after := _, guard := _ }) (v := ?v7_2) rfl (by kernel_rfl) (by kernel_rfl) (by kernel_rfl) (fun _ _ _ h => h) (Or.inl ⟨by rfl, ?hy7_2⟩) hHeld ?_
    case hy7_2 => (intro w hSw; (try dsimp only at hSw); go_simp; try with_reducible rfl)
    simp only [Act.put, List.setIfInBounds_toArray, List.set_cons_zero, List.set_cons_succ]
    refine wpAnyH_take (i := 3) (oi := { dst := some 28, op := _, type := _, pos := _, after := _, guard := _ }) (v := ?v7_3) rfl (by kernel_rfl) (by kernel_rfl) (by kernel_rfl) (fun _ _ _ h => h) (Or.inl ⟨by rfl, ?hy7_3⟩) hHeld ?_
    case hy7_3 => (intro w hSw; (try dsimp only at hSw); go_simp; try with_reducible rfl)
    simp only [Act.put, List.setIfInBounds_toArray, List.set_cons_zero, List.set_cons_succ]
    refine wpAnyH_take (i := 4) (oi := { dst := some 29, op := _, type := _, pos := _, after := _, guard := _ }) (v := ?v7_4) rfl (by kernel_rfl) (by kernel_rfl) (by kernel_rfl) (fun _ _ _ h => h) (Or.inl ⟨by rfl, ?hy7_4⟩) hHeld ?_
    case hy7_4 => (intro w hSw; (try dsimp only at hSw); go_simp; try with_reducible rfl)
    simp only [Act.put, List.setIfInBounds_toArray, List.set_cons_zero, List.set_cons_succ]
    refine wpAnyH_take (i := 5) (oi := { dst := some 30, op := _, type := _, pos := _, after := _, guard := _ }) (v := ?v7_5) rfl (by kernel_rfl) (by kernel_rfl) (by kernel_rfl) (fun _ _ _ h => h) (Or.inl ⟨by rfl, ?hy7_5⟩) hHeld ?_
    case hy7_5 => (intro w hSw; (try dsimp only at hSw); go_simp; try with_reducible rfl)
    simp only [Act.put, List.setIfInBounds_toArray, List.set_cons_zero, List.set_cons_succ]
    refine wpAnyH_ready (rs := [6]) (by kernel_rfl) (by simp) ?_
    refine AllReadyH.cons (o := { dst := some 31, op := _, type := _, pos := _, after := _, guard := _ }) rfl (fun K hK => ?_) AllReadyH.nil
    go_simp
    go_at_call 10
    refine (XP0.out _ (by assumption)).mono ?_
    rintro ee0 v0 ⟨rfl, hs0⟩
    refine hK.out _ _ hs0 (fun hHeld => ?_)
    clear hK K
    refine wpAnyH_take (i := 7) (oi := { dst := some 9, op := _, type := _, pos := _, after := _, guard := _ }) (v := ?v7_7) rfl (by kernel_rfl) (by kernel_rfl) (by kernel_rfl) (fun _ _ _ h => h) (Or.inl ⟨by rfl, ?hy7_7⟩) hHeld ?_
    case hy7_7 => (intro w hSw; (try dsimp only at hSw); go_simp; try with_reducible rfl)
    simp only [Act.put, List.setIfInBounds_toArray, List.set_cons_zero, List.set_cons_succ]
    refine wpAnyH_done (by kernel_rfl) ?_ _
    have B4 := Lib.hid (below_on B3.out hs0.2.2.2.2.2.2.2.2.2.2.2.2)
    have RA4 := Lib.hid (row_on RA3.out hs0.2.2.2.2.2.2.2.2.2.2.2.2)
    have RB4 := Lib.hid (row_on RB3.out hs0.2.2.2.2.2.2.2.2.2.2.2.2)
    clear q0 q1 q2 q3 q4 q5 q6 q7 q8 q9 q10 q11 Hs XP0 RA3 RB3 B3
    obtain ⟨q0, q1, q2, q3, q4, q5, q6, q7, q8, q9, q10, q11, _⟩ := hs0
    obtain ⟨x0, x1, x2, x3⟩ := row_cd RA4.out
    obtain ⟨y0, y1, y2, y3⟩ := row_cd RB4.out
    obtain ⟨rfl, rfl, rfl⟩ := hw
    have Hs := Lib.hid (show v0.drew.cell? ⟨g, q, none⟩ = some (.int .i64 a1) ∧ v0.drew.cell? ⟨g, q + 1, none⟩ = some (.int .i64 a2) ∧ v0.drew.cell? ⟨g, q + 2, none⟩ = some (.int .i64 a3) ∧ v0.drew.cell? ⟨g, q + 3, none⟩ = some (.string a4) ∧ v0.drew.cell? ⟨g, q + 4, none⟩ = some (.int .i64 b1) ∧ v0.drew.cell? ⟨g, q + 5, none⟩ = some (.int .i64 b2) ∧ v0.drew.cell? ⟨g, q + 6, none⟩ = some (.int .i64 b3) ∧ v0.drew.cell? ⟨g, q + 7, none⟩ = some (.string b4) ∧ v0.drew.cell? ⟨g, q + 8, none⟩ = some (.int .i64 c1) ∧ v0.drew.cell? ⟨g, q + 9, none⟩ = some (.int .i64 c2) ∧ v0.drew.cell? ⟨g, q + 10, none⟩ = some (.int .i64 c3) ∧ v0.drew.cell? ⟨g, q + 11, none⟩ = some (.string c4) ∧ Below v0.heap.size v0 v0.drew from ⟨q0, q1, q2, q3, q4, q5, q6, q7, q8, q9, q10, q11, below_dn (Below.refl _ _) 1⟩)
    go_wp2_with fail
    refine wp_region_held_drew (S := fun u => u.cell? ⟨g, q, none⟩ = some (.int .i64 a1) ∧ u.cell? ⟨g, q + 1, none⟩ = some (.int .i64 a2) ∧ u.cell? ⟨g, q + 2, none⟩ = some (.int .i64 a3) ∧ u.cell? ⟨g, q + 3, none⟩ = some (.string a4) ∧ u.cell? ⟨g, q + 4, none⟩ = some (.int .i64 b1) ∧ u.cell? ⟨g, q + 5, none⟩ = some (.int .i64 b2) ∧ u.cell? ⟨g, q + 6, none⟩ = some (.int .i64 b3) ∧ u.cell? ⟨g, q + 7, none⟩ = some (.string b4) ∧ u.cell? ⟨g, q + 8, none⟩ = some (.int .i64 c1) ∧ u.cell? ⟨g, q + 9, none⟩ = some (.int .i64 c2) ∧ u.cell? ⟨g, q + 10, none⟩ = some (.int .i64 c3) ∧ u.cell? ⟨g, q + 11, none⟩ = some (.string c4) ∧ Below v0.heap.size v0 u) (by kernel_rfl) Hs.out (fun hHeld => ?_)
    refine wpAnyH_take (i := 0) (oi := { dst := some 65, op := _, type := _, pos := _, after := _, guard := _ }) (v := ?v8_0) rfl (by kernel_rfl) (by kernel_rfl) (by kernel_rfl) (fun _ _ _ h => h) (Or.inl ⟨by rfl, ?hy8_0⟩) hHeld ?_
    case hy8_0 => (intro w hSw; (try dsimp only at hSw); go_simp; try with_reducible rfl)
    simp only [Act.put, List.setIfInBounds_toArray, List.set_cons_zero, List.set_cons_succ]
    refine wpAnyH_take (i := 1) (oi := { dst := some 66, op := _, type := _, pos := _, after := _, guard := _ }) (v := ?v8_1) rfl (by kernel_rfl) (by kernel_rfl) (by kernel_rfl) (fun _ _ _ h => h) (Or.inl ⟨by rfl, ?hy8_1⟩) hHeld ?_
    case hy8_1 => (intro w hSw; (try dsimp only at hSw); go_simp; try with_reducible rfl)
    simp only [Act.put, List.setIfInBounds_toArray, List.set_cons_zero, List.set_cons_succ]
    refine wpAnyH_take (i := 2) (oi := { dst := some 67, op := _, type := _, pos := _, after := _, guard := _ }) (v := ?v8_2) rfl (by kernel_rfl) (by kernel_rfl) (by kernel_rfl) (fun _ _ _ h => h) (Or.inl ⟨by rfl, ?hy8_2⟩) hHeld ?_
    case hy8_2 => (intro w hSw; (try dsimp only at hSw); go_simp; try with_reducible rfl)
    simp only [Act.put, List.setIfInBounds_toArray, List.set_cons_zero, List.set_cons_succ]
    refine wpAnyH_take (i := 3) (oi := { dst := some 68, op := _, type := _, pos := _, after := _, guard := _ }) (v := undef) rfl (by kernel_rfl) (by kernel_rfl) (by kernel_rfl) (fun _ _ _ h => h) (Or.inr ⟨by rfl, rfl⟩) hHeld ?_
    simp only [Act.put, List.setIfInBounds_toArray, List.set_cons_zero, List.set_cons_succ]
    refine wpAnyH_take (i := 4) (oi := { dst := some 69, op := _, type := _, pos := _, after := _, guard := _ }) (v := undef) rfl (by kernel_rfl) (by kernel_rfl) (by kernel_rfl) (fun _ _ _ h => h) (Or.inr ⟨by rfl, rfl⟩) hHeld ?_
    simp only [Act.put, List.setIfInBounds_toArray, List.set_cons_zero, List.set_cons_succ]
    refine wpAnyH_take (i := 5) (oi := { dst := some 70, op := _, type := _, pos := _, after := _, guard := _ }) (v := undef) rfl (by kernel_rfl) (by kernel_rfl) (by kernel_rfl) (fun _ _ _ h => h) (Or.inr ⟨by rfl, rfl⟩) hHeld ?_
    simp only [Act.put, List.setIfInBounds_toArray, List.set_cons_zero, List.set_cons_succ]
    refine wpAnyH_take (i := 6) (oi := { dst := some 71, op := _, type := _, pos := _, after := _, guard := _ }) (v := undef) rfl (by kernel_rfl) (by kernel_rfl) (by kernel_rfl) (fun _ _ _ h => h) (Or.inr ⟨by rfl, rfl⟩) hHeld ?_
    simp only [Act.put, List.setIfInBounds_toArray, List.set_cons_zero, List.set_cons_succ]
    refine wpAnyH_take (i := 7) (oi := { dst := some 72, op := _, type := _, pos := _, after := _, guard := _ }) (v := undef) rfl (by kernel_rfl) (by kernel_rfl) (by kernel_rfl) (fun _ _ _ h => h) (Or.inr ⟨by rfl, rfl⟩) hHeld ?_
    simp only [Act.put, List.setIfInBounds_toArray, List.set_cons_zero, List.set_cons_succ]
    refine wpAnyH_take (i := 8) (oi := { dst := some 73, op := _, type := _, pos := _, after := _, guard := _ }) (v := undef) rfl (by kernel_rfl) (by kernel_rfl) (by kernel_rfl) (fun _ _ _ h => h) (Or.inr ⟨by rfl, rfl⟩) hHeld ?_
    simp only [Act.put, List.setIfInBounds_toArray, List.set_cons_zero, List.set_cons_succ]
    refine wpAnyH_take (i := 9) (oi := { dst := some 74, op := _, type := _, pos := _, after := _, guard := _ }) (v := undef) rfl (by kernel_rfl) (by kernel_rfl) (by kernel_rfl) (fun _ _ _ h => h) (Or.inr ⟨by rfl, rfl⟩) hHeld ?_
    simp only [Act.put, List.setIfInBounds_toArray, List.set_cons_zero, List.set_cons_succ]
    refine wpAnyH_take (i := 10) (oi := { dst := some 75, op := _, type := _, pos := _, after := _, guard := _ }) (v := undef) rfl (by kernel_rfl) (by kernel_rfl) (by kernel_rfl) (fun _ _ _ h => h) (Or.inr ⟨by rfl, rfl⟩) hHeld ?_
    simp only [Act.put, List.setIfInBounds_toArray, List.set_cons_zero, List.set_cons_succ]
    refine wpAnyH_take (i := 11) (oi := { dst := some 76, op := _, type := _, pos := _, after := _, guard := _ }) (v := ?v8_11) rfl (by kernel_rfl) (by kernel_rfl) (by kernel_rfl) (fun _ _ _ h => h) (Or.inl ⟨by rfl, ?hy8_11⟩) hHeld ?_
    case hy8_11 => (intro w hSw; (try dsimp only at hSw); go_simp; try with_reducible rfl)
    simp only [Act.put, List.setIfInBounds_toArray, List.set_cons_zero, List.set_cons_succ]
    refine wpAnyH_take (i := 12) (oi := { dst := some 77, op := _, type := _, pos := _, after := _, guard := _ }) (v := ?v8_12) rfl (by kernel_rfl) (by kernel_rfl) (by kernel_rfl) (fun _ _ _ h => h) (Or.inl ⟨by rfl, ?hy8_12⟩) hHeld ?_
    case hy8_12 => (intro w hSw; (try dsimp only at hSw); go_simp; try with_reducible rfl)
    simp only [Act.put, List.setIfInBounds_toArray, List.set_cons_zero, List.set_cons_succ]
    refine wpAnyH_take (i := 13) (oi := { dst := some 78, op := _, type := _, pos := _, after := _, guard := _ }) (v := undef) rfl (by kernel_rfl) (by kernel_rfl) (by kernel_rfl) (fun _ _ _ h => h) (Or.inr ⟨by rfl, rfl⟩) hHeld ?_
    simp only [Act.put, List.setIfInBounds_toArray, List.set_cons_zero, List.set_cons_succ]
    refine wpAnyH_take (i := 14) (oi := { dst := some 79, op := _, type := _, pos := _, after := _, guard := _ }) (v := undef) rfl (by kernel_rfl) (by kernel_rfl) (by kernel_rfl) (fun _ _ _ h => h) (Or.inr ⟨by rfl, rfl⟩) hHeld ?_
    simp only [Act.put, List.setIfInBounds_toArray, List.set_cons_zero, List.set_cons_succ]
    refine wpAnyH_take (i := 15) (oi := { dst := some 80, op := _, type := _, pos := _, after := _, guard := _ }) (v := undef) rfl (by kernel_rfl) (by kernel_rfl) (by kernel_rfl) (fun _ _ _ h => h) (Or.inr ⟨by rfl, rfl⟩) hHeld ?_
    simp only [Act.put, List.setIfInBounds_toArray, List.set_cons_zero, List.set_cons_succ]
    refine wpAnyH_take (i := 16) (oi := { dst := some 81, op := _, type := _, pos := _, after := _, guard := _ }) (v := undef) rfl (by kernel_rfl) (by kernel_rfl) (by kernel_rfl) (fun _ _ _ h => h) (Or.inr ⟨by rfl, rfl⟩) hHeld ?_
    simp only [Act.put, List.setIfInBounds_toArray, List.set_cons_zero, List.set_cons_succ]
    refine wpAnyH_take (i := 17) (oi := { dst := some 82, op := _, type := _, pos := _, after := _, guard := _ }) (v := undef) rfl (by kernel_rfl) (by kernel_rfl) (by kernel_rfl) (fun _ _ _ h => h) (Or.inr ⟨by rfl, rfl⟩) hHeld ?_
    simp only [Act.put, List.setIfInBounds_toArray, List.set_cons_zero, List.set_cons_succ]
    refine wpAnyH_take (i := 18) (oi := { dst := some 83, op := _, type := _, pos := _, after := _, guard := _ }) (v := undef) rfl (by kernel_rfl) (by kernel_rfl) (by kernel_rfl) (fun _ _ _ h => h) (Or.inr ⟨by rfl, rfl⟩) hHeld ?_
    simp only [Act.put, List.setIfInBounds_toArray, List.set_cons_zero, List.set_cons_succ]
    refine wpAnyH_take (i := 19) (oi := { dst := some 84, op := _, type := _, pos := _, after := _, guard := _ }) (v := undef) rfl (by kernel_rfl) (by kernel_rfl) (by kernel_rfl) (fun _ _ _ h => h) (Or.inr ⟨by rfl, rfl⟩) hHeld ?_
    simp only [Act.put, List.setIfInBounds_toArray, List.set_cons_zero, List.set_cons_succ]
    refine wpAnyH_take (i := 20) (oi := { dst := some 85, op := _, type := _, pos := _, after := _, guard := _ }) (v := ?v8_20) rfl (by kernel_rfl) (by kernel_rfl) (by kernel_rfl) (fun _ _ _ h => h) (Or.inl ⟨by rfl, ?hy8_20⟩) hHeld ?_
    case hy8_20 => (intro w hSw; (try dsimp only at hSw); go_simp; try with_reducible rfl)
    simp only [Act.put, List.setIfInBounds_toArray, List.set_cons_zero, List.set_cons_succ]
    refine wpAnyH_take (i := 21) (oi := { dst := some 6, op := _, type := _, pos := _, after := _, guard := _ }) (v := ?v8_21) rfl (by kernel_rfl) (by kernel_rfl) (by kernel_rfl) (fun _ _ _ h => h) (Or.inl ⟨by rfl, ?hy8_21⟩) hHeld ?_
    case hy8_21 => (intro w hSw; (try dsimp only at hSw); go_simp; try with_reducible rfl)
    simp only [Act.put, List.setIfInBounds_toArray, List.set_cons_zero, List.set_cons_succ]
    refine wpAnyH_done (by kernel_rfl) ?_ _
    go_wp2_with fail
    go_ret
    exact ⟨rfl, below_on B4.out Hs.out.2.2.2.2.2.2.2.2.2.2.2.2⟩
set_option maxHeartbeats 4000000 in
set_option maxRecDepth 100000 in
theorem l20t_z (M : PP) (a1 a2 a3 b1 b2 b3 c1 c2 c3 : Int) (a4 b4 c4 : ByteArray) (W : World) (p1 p2 p3 : Bool) (e1 : (a3 == b3) = p1) (e2 : (a1 == b1) = p2) (e3 : (a2 == b2) = p3)
    (hw : (p1 = false) ∨ (p1 = true ∧ p2 = false) ∨ (p1 = true ∧ p2 = true ∧ p3 = false))
    (HX : ∀ u, Calls Try.prog 10 #[cdv (⟨a1, a2, a3, a4⟩ : Cd), cdv (⟨b1, b2, b3, b4⟩ : Cd)] u fun e w' => e = .returned (.bool true) ∧ Below u.heap.size u w')
    (HY : ∀ u, Calls Try.prog 10 #[cdv (⟨b1, b2, b3, b4⟩ : Cd), cdv (⟨a1, a2, a3, a4⟩ : Cd)] u fun e w' => e = .returned (.bool false) ∧ Below u.heap.size u w')
    (HZ : ∀ u, Calls Try.prog 10 #[cdv (⟨b1, b2, b3, b4⟩ : Cd), cdv (⟨c1, c2, c3, c4⟩ : Cd)] u fun e w' => e = .returned (.bool false) ∧ Below u.heap.size u w')
    : Calls Try.prog 4 #[cdv (⟨a1, a2, a3, a4⟩ : Cd), cdv (⟨b1, b2, b3, b4⟩ : Cd), cdv (⟨c1, c2, c3, c4⟩ : Cd)] W fun e w' => e = .returned (.bool true) ∧ Below W.heap.size W w' := by
  · skip
    have HA := Lib.hid (fun u => c20awake_any M u)
    have HF := Lib.hid (fun v l u h1 h2 => fwd_any v l u h1 h2)
    clear M
    have RA := Lib.hid (row_al (row_al (heap_alloc_new W (Obj.cells #[.int .i64 a1, .int .i64 a2, .int .i64 a3, .string a4] 24)) (Obj.cells #[.int .i64 b1, .int .i64 b2, .int .i64 b3, .string b4] 24)) (Obj.cells #[.int .i64 c1, .int .i64 c2, .int .i64 c3, .string c4] 24))
    have RB := Lib.hid (row_al (row_new1 W (Obj.cells #[.int .i64 a1, .int .i64 a2, .int .i64 a3, .string a4] 24) (Obj.cells #[.int .i64 b1, .int .i64 b2, .int .i64 b3, .string b4] 24)) (Obj.cells #[.int .i64 c1, .int .i64 c2, .int .i64 c3, .string c4] 24))
    have RC := Lib.hid (rw_new2 W (Obj.cells #[.int .i64 a1, .int .i64 a2, .int .i64 a3, .string a4] 24) (Obj.cells #[.int .i64 b1, .int .i64 b2, .int .i64 b3, .string b4] 24) (Obj.cells #[.int .i64 c1, .int .i64 c2, .int .i64 c3, .string c4] 24))
    have B0 : Hid (Below W.heap.size W (((W.alloc (Obj.cells #[.int .i64 a1, .int .i64 a2, .int .i64 a3, .string a4] 24)).alloc (Obj.cells #[.int .i64 b1, .int .i64 b2, .int .i64 b3, .string b4] 24)).alloc (Obj.cells #[.int .i64 c1, .int .i64 c2, .int .i64 c3, .string c4] 24))) := Lib.hid ((((Below.refl _ _).alloc (Nat.le_refl _) _).alloc (by simp) _).alloc (by simp; omega) _)
    go_enter Try.func4, Try.ntmps4
    go_wp2_with fail
    refine (HA.out _).mono ?_
    rintro e w1 ⟨rfl, hb1⟩
    have B1 := Lib.hid (below_on B0.out hb1)
    have RA1 := Lib.hid (row_on RA.out hb1)
    have RB1 := Lib.hid (row_on RB.out hb1)
    have RC1 := Lib.hid (row_on RC.out hb1)
    clear hb1 RA RB RC B0
    obtain ⟨x0, x1, x2, x3⟩ := row_cd RA1.out
    obtain ⟨y0, y1, y2, y3⟩ := row_cd RB1.out
    obtain ⟨z0, z1, z2, z3⟩ := row_cd RC1.out
    go_wp2_with fail
    have RL := Lib.hid (heap_alloc_new w1 (Obj.cells #[.int .i64 a1, .int .i64 a2, .int .i64 a3, .string a4, .int .i64 b1, .int .i64 b2, .int .i64 b3, .string b4, .int .i64 c1, .int .i64 c2, .int .i64 c3, .string c4] 24))
    refine (HF.out _ _ _ (by simp) (cs_three (x := (⟨a1, a2, a3, a4⟩ : Cd)) (y := (⟨b1, b2, b3, b4⟩ : Cd)) (z := (⟨c1, c2, c3, c4⟩ : Cd)) RL.out)).mono ?_
    rintro e w2 ⟨v, rfl, hv, hb2⟩
    obtain ⟨A, cap, hA, hc1, hc2, hit⟩ := hv.cs
    obtain ⟨g, q, rfl, i0⟩ := hit 0 _ rfl
    obtain ⟨g1, s1, f1, i1⟩ := hit 1 _ rfl
    obtain ⟨g2, s2, f2, i2⟩ := hit 2 _ rfl
    obtain ⟨rfl, rfl⟩ : g = g1 ∧ q = s1 := by cases f1; exact ⟨rfl, rfl⟩
    obtain ⟨rfl, rfl⟩ : g = g2 ∧ q = s2 := by cases f2; exact ⟨rfl, rfl⟩
    subst hA
    have B2 := Lib.hid (below_on (B1.out.alloc B1.out.size _) hb2)
    have RA2 := Lib.hid (row_on (row_al RA1.out _) hb2)
    have RB2 := Lib.hid (row_on (row_al RB1.out _) hb2)
    clear hb2 hv hit f1 f2 RL RA1 RB1 RC1 B1 x0 x1 x2 x3 y0 y1 y2 y3 z0 z1 z2 z3 hc1 hc2
    obtain ⟨q0, q1, q2, q3⟩ := i0
    obtain ⟨q4, q5, q6, q7⟩ := i1
    obtain ⟨q8, q9, q10, q11⟩ := i2
    have Hs := Lib.hid (show w2.drew.cell? ⟨g, q, none⟩ = some (.int .i64 a1) ∧ w2.drew.cell? ⟨g, q + 1, none⟩ = some (.int .i64 a2) ∧ w2.drew.cell? ⟨g, q + 2, none⟩ = some (.int .i64 a3) ∧ w2.drew.cell? ⟨g, q + 3, none⟩ = some (.string a4) ∧ w2.drew.cell? ⟨g, q + 4, none⟩ = some (.int .i64 b1) ∧ w2.drew.cell? ⟨g, q + 5, none⟩ = some (.int .i64 b2) ∧ w2.drew.cell? ⟨g, q + 6, none⟩ = some (.int .i64 b3) ∧ w2.drew.cell? ⟨g, q + 7, none⟩ = some (.string b4) ∧ w2.drew.cell? ⟨g, q + 8, none⟩ = some (.int .i64 c1) ∧ w2.drew.cell? ⟨g, q + 9, none⟩ = some (.int .i64 c2) ∧ w2.drew.cell? ⟨g, q + 10, none⟩ = some (.int .i64 c3) ∧ w2.drew.cell? ⟨g, q + 11, none⟩ = some (.string c4) ∧ Below w2.heap.size w2 w2.drew from ⟨q0, q1, q2, q3, q4, q5, q6, q7, q8, q9, q10, q11, below_dn (Below.refl _ _) 1⟩)
    have XP0 := Lib.hid (fun u (hu : u.cell? ⟨g, q, none⟩ = some (.int .i64 a1) ∧ u.cell? ⟨g, q + 1, none⟩ = some (.int .i64 a2) ∧ u.cell? ⟨g, q + 2, none⟩ = some (.int .i64 a3) ∧ u.cell? ⟨g, q + 3, none⟩ = some (.string a4) ∧ u.cell? ⟨g, q + 4, none⟩ = some (.int .i64 b1) ∧ u.cell? ⟨g, q + 5, none⟩ = some (.int .i64 b2) ∧ u.cell? ⟨g, q + 6, none⟩ = some (.int .i64 b3) ∧ u.cell? ⟨g, q + 7, none⟩ = some (.string b4) ∧ u.cell? ⟨g, q + 8, none⟩ = some (.int .i64 c1) ∧ u.cell? ⟨g, q + 9, none⟩ = some (.int .i64 c2) ∧ u.cell? ⟨g, q + 10, none⟩ = some (.int .i64 c3) ∧ u.cell? ⟨g, q + 11, none⟩ = some (.string c4) ∧ Below w2.heap.size w2 u) => (HX u).mono (R' := fun e u' => e = .returned (.bool true) ∧ (u'.cell? ⟨g, q, none⟩ = some (.int .i64 a1) ∧ u'.cell? ⟨g, q + 1, none⟩ = some (.int .i64 a2) ∧ u'.cell? ⟨g, q + 2, none⟩ = some (.int .i64 a3) ∧ u'.cell? ⟨g, q + 3, none⟩ = some (.string a4) ∧ u'.cell? ⟨g, q + 4, none⟩ = some (.int .i64 b1) ∧ u'.cell? ⟨g, q + 5, none⟩ = some (.int .i64 b2) ∧ u'.cell? ⟨g, q + 6, none⟩ = some (.int .i64 b3) ∧ u'.cell? ⟨g, q + 7, none⟩ = some (.string b4) ∧ u'.cell? ⟨g, q + 8, none⟩ = some (.int .i64 c1) ∧ u'.cell? ⟨g, q + 9, none⟩ = some (.int .i64 c2) ∧ u'.cell? ⟨g, q + 10, none⟩ = some (.int .i64 c3) ∧ u'.cell? ⟨g, q + 11, none⟩ = some (.string c4) ∧ Below w2.heap.size w2 u')) fun e u' ⟨he, hq⟩ => ⟨he, ⟨cell_below hu.1 hq, cell_below hu.2.1 hq, cell_below hu.2.2.1 hq, cell_below hu.2.2.2.1 hq, cell_below hu.2.2.2.2.1 hq, cell_below hu.2.2.2.2.2.1 hq, cell_below hu.2.2.2.2.2.2.1 hq, cell_below hu.2.2.2.2.2.2.2.1 hq, cell_below hu.2.2.2.2.2.2.2.2.1 hq, cell_below hu.2.2.2.2.2.2.2.2.2.1 hq, cell_below hu.2.2.2.2.2.2.2.2.2.2.1 hq, cell_below hu.2.2.2.2.2.2.2.2.2.2.2.1 hq, below_on hu.2.2.2.2.2.2.2.2.2.2.2.2 hq⟩⟩)
    go_wp2_with fail
    refine wp_region_held_drew (S := fun u => u.cell? ⟨g, q, none⟩ = some (.int .i64 a1) ∧ u.cell? ⟨g, q + 1, none⟩ = some (.int .i64 a2) ∧ u.cell? ⟨g, q + 2, none⟩ = some (.int .i64 a3) ∧ u.cell? ⟨g, q + 3, none⟩ = some (.string a4) ∧ u.cell? ⟨g, q + 4, none⟩ = some (.int .i64 b1) ∧ u.cell? ⟨g, q + 5, none⟩ = some (.int .i64 b2) ∧ u.cell? ⟨g, q + 6, none⟩ = some (.int .i64 b3) ∧ u.cell? ⟨g, q + 7, none⟩ = some (.string b4) ∧ u.cell? ⟨g, q + 8, none⟩ = some (.int .i64 c1) ∧ u.cell? ⟨g, q + 9, none⟩ = some (.int .i64 c2) ∧ u.cell? ⟨g, q + 10, none⟩ = some (.int .i64 c3) ∧ u.cell? ⟨g, q + 11, none⟩ = some (.string c4) ∧ Below w2.heap.size w2 u) (by kernel_rfl) Hs.out (fun hHeld => ?_)
    refine wpAnyH_take (i := 0) (oi := { dst := some 18, op := _, type := _, pos := _, after := _, guard := _ }) (v := ?v9_0) rfl (by kernel_rfl) (by kernel_rfl) (by kernel_rfl) (fun _ _ _ h => h) (Or.inl ⟨by rfl, ?hy9_0⟩) hHeld ?_
    case hy9_0 => (intro w hSw; (try dsimp only at hSw); go_simp; try with_reducible rfl)
    simp only [Act.put, List.setIfInBounds_toArray, List.set_cons_zero, List.set_cons_succ]
    refine wpAnyH_take (i := 1) (oi := { dst := some 19, op := _, type := _, pos := _, after := _, guard := _ }) (v := ?v9_1) rfl (by kernel_rfl) (by kernel_rfl) (by kernel_rfl) (fun _ _ _ h => h) (Or.inl ⟨by rfl, ?hy9_1⟩) hHeld ?_
    case hy9_1 => (intro w hSw; (try dsimp only at hSw); go_simp; try with_reducible rfl)
    simp only [Act.put, List.setIfInBounds_toArray, List.set_cons_zero, List.set_cons_succ]
    refine wpAnyH_take (i := 2) (oi := { dst := some 20, op := _, type := _, pos := _, after := _, guard := _ }) (v := ?v9_2) rfl (by kernel_rfl) (by kernel_rfl) (by kernel_rfl) (fun _ _ _ h => h) (Or.inl ⟨by rfl, ?hy9_2⟩) hHeld ?_
    case hy9_2 => (intro w hSw; (try dsimp only at hSw); go_simp; try with_reducible rfl)
    simp only [Act.put, List.setIfInBounds_toArray, List.set_cons_zero, List.set_cons_succ]
    refine wpAnyH_take (i := 3) (oi := { dst := some 21, op := _, type := _, pos := _, after := _, guard := _ }) (v := ?v9_3) rfl (by kernel_rfl) (by kernel_rfl) (by kernel_rfl) (fun _ _ _ h => h) (Or.inl ⟨by rfl, ?hy9_3⟩) hHeld ?_
    case hy9_3 => (intro w hSw; (try dsimp only at hSw); go_simp; try with_reducible rfl)
    simp only [Act.put, List.setIfInBounds_toArray, List.set_cons_zero, List.set_cons_succ]
    refine wpAnyH_take (i := 4) (oi := { dst := some 22, op := _, type := _, pos := _, after := _, guard := _ }) (v := ?v9_4) rfl (by kernel_rfl) (by kernel_rfl) (by kernel_rfl) (fun _ _ _ h => h) (Or.inl ⟨by rfl, ?hy9_4⟩) hHeld ?_
    case hy9_4 => (intro w hSw; (try dsimp only at hSw); go_simp; try with_reducible rfl)
    simp only [Act.put, List.setIfInBounds_toArray, List.set_cons_zero, List.set_cons_succ]
    refine wpAnyH_take (i := 5) (oi := { dst := some 23, op := _, type := _, pos := _, after := _, guard := _ }) (v := ?v9_5) rfl (by kernel_rfl) (by kernel_rfl) (by kernel_rfl) (fun _ _ _ h => h) (Or.inl ⟨by rfl, ?hy9_5⟩) hHeld ?_
    case hy9_5 => (intro w hSw; (try dsimp only at hSw); go_simp; try with_reducible rfl)
    simp only [Act.put, List.setIfInBounds_toArray, List.set_cons_zero, List.set_cons_succ]
    refine wpAnyH_ready (rs := [6]) (by kernel_rfl) (by simp) ?_
    refine AllReadyH.cons (o := { dst := some 24, op := _, type := _, pos := _, after := _, guard := _ }) rfl (fun K hK => ?_) AllReadyH.nil
    go_simp
    go_at_call 10
    refine (XP0.out _ (by assumption)).mono ?_
    rintro ee0 u0 ⟨rfl, hs0⟩
    refine hK.out _ _ hs0 (fun hHeld => ?_)
    clear hK K
    refine wpAnyH_take (i := 7) (oi := { dst := some 8, op := _, type := _, pos := _, after := _, guard := _ }) (v := ?v9_7) rfl (by kernel_rfl) (by kernel_rfl) (by kernel_rfl) (fun _ _ _ h => h) (Or.inl ⟨by rfl, ?hy9_7⟩) hHeld ?_
    case hy9_7 => (intro w hSw; (try dsimp only at hSw); go_simp; try with_reducible rfl)
    simp only [Act.put, List.setIfInBounds_toArray, List.set_cons_zero, List.set_cons_succ]
    refine wpAnyH_done (by kernel_rfl) ?_ _
    have B3 := Lib.hid (below_on B2.out hs0.2.2.2.2.2.2.2.2.2.2.2.2)
    have RA3 := Lib.hid (row_on RA2.out hs0.2.2.2.2.2.2.2.2.2.2.2.2)
    have RB3 := Lib.hid (row_on RB2.out hs0.2.2.2.2.2.2.2.2.2.2.2.2)
    clear q0 q1 q2 q3 q4 q5 q6 q7 q8 q9 q10 q11 Hs XP0 RA2 RB2 B2
    obtain ⟨q0, q1, q2, q3, q4, q5, q6, q7, q8, q9, q10, q11, _⟩ := hs0
    have Hs := Lib.hid (show u0.drew.cell? ⟨g, q, none⟩ = some (.int .i64 a1) ∧ u0.drew.cell? ⟨g, q + 1, none⟩ = some (.int .i64 a2) ∧ u0.drew.cell? ⟨g, q + 2, none⟩ = some (.int .i64 a3) ∧ u0.drew.cell? ⟨g, q + 3, none⟩ = some (.string a4) ∧ u0.drew.cell? ⟨g, q + 4, none⟩ = some (.int .i64 b1) ∧ u0.drew.cell? ⟨g, q + 5, none⟩ = some (.int .i64 b2) ∧ u0.drew.cell? ⟨g, q + 6, none⟩ = some (.int .i64 b3) ∧ u0.drew.cell? ⟨g, q + 7, none⟩ = some (.string b4) ∧ u0.drew.cell? ⟨g, q + 8, none⟩ = some (.int .i64 c1) ∧ u0.drew.cell? ⟨g, q + 9, none⟩ = some (.int .i64 c2) ∧ u0.drew.cell? ⟨g, q + 10, none⟩ = some (.int .i64 c3) ∧ u0.drew.cell? ⟨g, q + 11, none⟩ = some (.string c4) ∧ Below u0.heap.size u0 u0.drew from ⟨q0, q1, q2, q3, q4, q5, q6, q7, q8, q9, q10, q11, below_dn (Below.refl _ _) 1⟩)
    have XP0 := Lib.hid (fun u (hu : u.cell? ⟨g, q, none⟩ = some (.int .i64 a1) ∧ u.cell? ⟨g, q + 1, none⟩ = some (.int .i64 a2) ∧ u.cell? ⟨g, q + 2, none⟩ = some (.int .i64 a3) ∧ u.cell? ⟨g, q + 3, none⟩ = some (.string a4) ∧ u.cell? ⟨g, q + 4, none⟩ = some (.int .i64 b1) ∧ u.cell? ⟨g, q + 5, none⟩ = some (.int .i64 b2) ∧ u.cell? ⟨g, q + 6, none⟩ = some (.int .i64 b3) ∧ u.cell? ⟨g, q + 7, none⟩ = some (.string b4) ∧ u.cell? ⟨g, q + 8, none⟩ = some (.int .i64 c1) ∧ u.cell? ⟨g, q + 9, none⟩ = some (.int .i64 c2) ∧ u.cell? ⟨g, q + 10, none⟩ = some (.int .i64 c3) ∧ u.cell? ⟨g, q + 11, none⟩ = some (.string c4) ∧ Below u0.heap.size u0 u) => (HY u).mono (R' := fun e u' => e = .returned (.bool false) ∧ (u'.cell? ⟨g, q, none⟩ = some (.int .i64 a1) ∧ u'.cell? ⟨g, q + 1, none⟩ = some (.int .i64 a2) ∧ u'.cell? ⟨g, q + 2, none⟩ = some (.int .i64 a3) ∧ u'.cell? ⟨g, q + 3, none⟩ = some (.string a4) ∧ u'.cell? ⟨g, q + 4, none⟩ = some (.int .i64 b1) ∧ u'.cell? ⟨g, q + 5, none⟩ = some (.int .i64 b2) ∧ u'.cell? ⟨g, q + 6, none⟩ = some (.int .i64 b3) ∧ u'.cell? ⟨g, q + 7, none⟩ = some (.string b4) ∧ u'.cell? ⟨g, q + 8, none⟩ = some (.int .i64 c1) ∧ u'.cell? ⟨g, q + 9, none⟩ = some (.int .i64 c2) ∧ u'.cell? ⟨g, q + 10, none⟩ = some (.int .i64 c3) ∧ u'.cell? ⟨g, q + 11, none⟩ = some (.string c4) ∧ Below u0.heap.size u0 u')) fun e u' ⟨he, hq⟩ => ⟨he, ⟨cell_below hu.1 hq, cell_below hu.2.1 hq, cell_below hu.2.2.1 hq, cell_below hu.2.2.2.1 hq, cell_below hu.2.2.2.2.1 hq, cell_below hu.2.2.2.2.2.1 hq, cell_below hu.2.2.2.2.2.2.1 hq, cell_below hu.2.2.2.2.2.2.2.1 hq, cell_below hu.2.2.2.2.2.2.2.2.1 hq, cell_below hu.2.2.2.2.2.2.2.2.2.1 hq, cell_below hu.2.2.2.2.2.2.2.2.2.2.1 hq, cell_below hu.2.2.2.2.2.2.2.2.2.2.2.1 hq, below_on hu.2.2.2.2.2.2.2.2.2.2.2.2 hq⟩⟩)
    go_wp2_with fail
    refine wp_region_held_drew (S := fun u => u.cell? ⟨g, q, none⟩ = some (.int .i64 a1) ∧ u.cell? ⟨g, q + 1, none⟩ = some (.int .i64 a2) ∧ u.cell? ⟨g, q + 2, none⟩ = some (.int .i64 a3) ∧ u.cell? ⟨g, q + 3, none⟩ = some (.string a4) ∧ u.cell? ⟨g, q + 4, none⟩ = some (.int .i64 b1) ∧ u.cell? ⟨g, q + 5, none⟩ = some (.int .i64 b2) ∧ u.cell? ⟨g, q + 6, none⟩ = some (.int .i64 b3) ∧ u.cell? ⟨g, q + 7, none⟩ = some (.string b4) ∧ u.cell? ⟨g, q + 8, none⟩ = some (.int .i64 c1) ∧ u.cell? ⟨g, q + 9, none⟩ = some (.int .i64 c2) ∧ u.cell? ⟨g, q + 10, none⟩ = some (.int .i64 c3) ∧ u.cell? ⟨g, q + 11, none⟩ = some (.string c4) ∧ Below u0.heap.size u0 u) (by kernel_rfl) Hs.out (fun hHeld => ?_)
    refine wpAnyH_take (i := 0) (oi := { dst := some 25, op := _, type := _, pos := _, after := _, guard := _ }) (v := ?v10_0) rfl (by kernel_rfl) (by kernel_rfl) (by kernel_rfl) (fun _ _ _ h => h) (Or.inl ⟨by rfl, ?hy10_0⟩) hHeld ?_
    case hy10_0 => (intro w hSw; (try dsimp only at hSw); go_simp; try with_reducible rfl)
    simp only [Act.put, List.setIfInBounds_toArray, List.set_cons_zero, List.set_cons_succ]
    refine wpAnyH_take (i := 1) (oi := { dst := some 26, op := _, type := _, pos := _, after := _, guard := _ }) (v := ?v10_1) rfl (by kernel_rfl) (by kernel_rfl) (by kernel_rfl) (fun _ _ _ h => h) (Or.inl ⟨by rfl, ?hy10_1⟩) hHeld ?_
    case hy10_1 => (intro w hSw; (try dsimp only at hSw); go_simp; try with_reducible rfl)
    simp only [Act.put, List.setIfInBounds_toArray, List.set_cons_zero, List.set_cons_succ]
    refine wpAnyH_take (i := 2) (oi := { dst := some 27, op := _, type := _, pos := _, after := _, guard := _ }) (v := ?v10_2) rfl (by kernel_rfl) (by kernel_rfl) (by kernel_rfl) (fun _ _ _ h => h) (Or.inl ⟨by rfl, ?hy10_2⟩) hHeld ?_
    case hy10_2 => (intro w hSw; (try dsimp only at hSw); go_simp; try with_reducible rfl)
    simp only [Act.put, List.setIfInBounds_toArray, List.set_cons_zero, List.set_cons_succ]
    refine wpAnyH_take (i := 3) (oi := { dst := some 28, op := _, type := _, pos := _, after := _, guard := _ }) (v := ?v10_3) rfl (by kernel_rfl) (by kernel_rfl) (by kernel_rfl) (fun _ _ _ h => h) (Or.inl ⟨by rfl, ?hy10_3⟩) hHeld ?_
    case hy10_3 => (intro w hSw; (try dsimp only at hSw); go_simp; try with_reducible rfl)
    simp only [Act.put, List.setIfInBounds_toArray, List.set_cons_zero, List.set_cons_succ]
    refine wpAnyH_take (i := 4) (oi := { dst := some 29, op := _, type := _, pos := _, after := _, guard := _ }) (v := ?v10_4) rfl (by kernel_rfl) (by kernel_rfl) (by kernel_rfl) (fun _ _ _ h => h) (Or.inl ⟨by rfl, ?hy10_4⟩) hHeld ?_
    case hy10_4 => (intro w hSw; (try dsimp only at hSw); go_simp; try with_reducible rfl)
    simp only [Act.put, List.setIfInBounds_toArray, List.set_cons_zero, List.set_cons_succ]
    refine wpAnyH_take (i := 5) (oi := { dst := some 30, op := _, type := _, pos := _, after := _, guard := _ }) (v := ?v10_5) rfl (by kernel_rfl) (by kernel_rfl) (by kernel_rfl) (fun _ _ _ h => h) (Or.inl ⟨by rfl, ?hy10_5⟩) hHeld ?_
    case hy10_5 => (intro w hSw; (try dsimp only at hSw); go_simp; try with_reducible rfl)
    simp only [Act.put, List.setIfInBounds_toArray, List.set_cons_zero, List.set_cons_succ]
    refine wpAnyH_ready (rs := [6]) (by kernel_rfl) (by simp) ?_
    refine AllReadyH.cons (o := { dst := some 31, op := _, type := _, pos := _, after := _, guard := _ }) rfl (fun K hK => ?_) AllReadyH.nil
    go_simp
    go_at_call 10
    refine (XP0.out _ (by assumption)).mono ?_
    rintro ee0 v0 ⟨rfl, hs0⟩
    refine hK.out _ _ hs0 (fun hHeld => ?_)
    clear hK K
    refine wpAnyH_take (i := 7) (oi := { dst := some 9, op := _, type := _, pos := _, after := _, guard := _ }) (v := ?v10_7) rfl (by kernel_rfl) (by kernel_rfl) (by kernel_rfl) (fun _ _ _ h => h) (Or.inl ⟨by rfl, ?hy10_7⟩) hHeld ?_
    case hy10_7 => (intro w hSw; (try dsimp only at hSw); go_simp; try with_reducible rfl)
    simp only [Act.put, List.setIfInBounds_toArray, List.set_cons_zero, List.set_cons_succ]
    refine wpAnyH_done (by kernel_rfl) ?_ _
    have B4 := Lib.hid (below_on B3.out hs0.2.2.2.2.2.2.2.2.2.2.2.2)
    have RA4 := Lib.hid (row_on RA3.out hs0.2.2.2.2.2.2.2.2.2.2.2.2)
    have RB4 := Lib.hid (row_on RB3.out hs0.2.2.2.2.2.2.2.2.2.2.2.2)
    clear q0 q1 q2 q3 q4 q5 q6 q7 q8 q9 q10 q11 Hs XP0 RA3 RB3 B3
    obtain ⟨q0, q1, q2, q3, q4, q5, q6, q7, q8, q9, q10, q11, _⟩ := hs0
    obtain ⟨x0, x1, x2, x3⟩ := row_cd RA4.out
    obtain ⟨y0, y1, y2, y3⟩ := row_cd RB4.out
    rcases hw with rfl | ⟨rfl, rfl⟩ | ⟨rfl, rfl, rfl⟩
    · skip
      have Hs := Lib.hid (show v0.drew.cell? ⟨g, q, none⟩ = some (.int .i64 a1) ∧ v0.drew.cell? ⟨g, q + 1, none⟩ = some (.int .i64 a2) ∧ v0.drew.cell? ⟨g, q + 2, none⟩ = some (.int .i64 a3) ∧ v0.drew.cell? ⟨g, q + 3, none⟩ = some (.string a4) ∧ v0.drew.cell? ⟨g, q + 4, none⟩ = some (.int .i64 b1) ∧ v0.drew.cell? ⟨g, q + 5, none⟩ = some (.int .i64 b2) ∧ v0.drew.cell? ⟨g, q + 6, none⟩ = some (.int .i64 b3) ∧ v0.drew.cell? ⟨g, q + 7, none⟩ = some (.string b4) ∧ v0.drew.cell? ⟨g, q + 8, none⟩ = some (.int .i64 c1) ∧ v0.drew.cell? ⟨g, q + 9, none⟩ = some (.int .i64 c2) ∧ v0.drew.cell? ⟨g, q + 10, none⟩ = some (.int .i64 c3) ∧ v0.drew.cell? ⟨g, q + 11, none⟩ = some (.string c4) ∧ Below v0.heap.size v0 v0.drew from ⟨q0, q1, q2, q3, q4, q5, q6, q7, q8, q9, q10, q11, below_dn (Below.refl _ _) 1⟩)
      have XP0 := Lib.hid (fun u (hu : u.cell? ⟨g, q, none⟩ = some (.int .i64 a1) ∧ u.cell? ⟨g, q + 1, none⟩ = some (.int .i64 a2) ∧ u.cell? ⟨g, q + 2, none⟩ = some (.int .i64 a3) ∧ u.cell? ⟨g, q + 3, none⟩ = some (.string a4) ∧ u.cell? ⟨g, q + 4, none⟩ = some (.int .i64 b1) ∧ u.cell? ⟨g, q + 5, none⟩ = some (.int .i64 b2) ∧ u.cell? ⟨g, q + 6, none⟩ = some (.int .i64 b3) ∧ u.cell? ⟨g, q + 7, none⟩ = some (.string b4) ∧ u.cell? ⟨g, q + 8, none⟩ = some (.int .i64 c1) ∧ u.cell? ⟨g, q + 9, none⟩ = some (.int .i64 c2) ∧ u.cell? ⟨g, q + 10, none⟩ = some (.int .i64 c3) ∧ u.cell? ⟨g, q + 11, none⟩ = some (.string c4) ∧ Below v0.heap.size v0 u) => (HZ u).mono (R' := fun e u' => e = .returned (.bool false) ∧ (u'.cell? ⟨g, q, none⟩ = some (.int .i64 a1) ∧ u'.cell? ⟨g, q + 1, none⟩ = some (.int .i64 a2) ∧ u'.cell? ⟨g, q + 2, none⟩ = some (.int .i64 a3) ∧ u'.cell? ⟨g, q + 3, none⟩ = some (.string a4) ∧ u'.cell? ⟨g, q + 4, none⟩ = some (.int .i64 b1) ∧ u'.cell? ⟨g, q + 5, none⟩ = some (.int .i64 b2) ∧ u'.cell? ⟨g, q + 6, none⟩ = some (.int .i64 b3) ∧ u'.cell? ⟨g, q + 7, none⟩ = some (.string b4) ∧ u'.cell? ⟨g, q + 8, none⟩ = some (.int .i64 c1) ∧ u'.cell? ⟨g, q + 9, none⟩ = some (.int .i64 c2) ∧ u'.cell? ⟨g, q + 10, none⟩ = some (.int .i64 c3) ∧ u'.cell? ⟨g, q + 11, none⟩ = some (.string c4) ∧ Below v0.heap.size v0 u')) fun e u' ⟨he, hq⟩ => ⟨he, ⟨cell_below hu.1 hq, cell_below hu.2.1 hq, cell_below hu.2.2.1 hq, cell_below hu.2.2.2.1 hq, cell_below hu.2.2.2.2.1 hq, cell_below hu.2.2.2.2.2.1 hq, cell_below hu.2.2.2.2.2.2.1 hq, cell_below hu.2.2.2.2.2.2.2.1 hq, cell_below hu.2.2.2.2.2.2.2.2.1 hq, cell_below hu.2.2.2.2.2.2.2.2.2.1 hq, cell_below hu.2.2.2.2.2.2.2.2.2.2.1 hq, cell_below hu.2.2.2.2.2.2.2.2.2.2.2.1 hq, below_on hu.2.2.2.2.2.2.2.2.2.2.2.2 hq⟩⟩)
      go_wp2_with fail
      refine wp_region_held_drew (S := fun u => u.cell? ⟨g, q, none⟩ = some (.int .i64 a1) ∧ u.cell? ⟨g, q + 1, none⟩ = some (.int .i64 a2) ∧ u.cell? ⟨g, q + 2, none⟩ = some (.int .i64 a3) ∧ u.cell? ⟨g, q + 3, none⟩ = some (.string a4) ∧ u.cell? ⟨g, q + 4, none⟩ = some (.int .i64 b1) ∧ u.cell? ⟨g, q + 5, none⟩ = some (.int .i64 b2) ∧ u.cell? ⟨g, q + 6, none⟩ = some (.int .i64 b3) ∧ u.cell? ⟨g, q + 7, none⟩ = some (.string b4) ∧ u.cell? ⟨g, q + 8, none⟩ = some (.int .i64 c1) ∧ u.cell? ⟨g, q + 9, none⟩ = some (.int .i64 c2) ∧ u.cell? ⟨g, q + 10, none⟩ = some (.int .i64 c3) ∧ u.cell? ⟨g, q + 11, none⟩ = some (.string c4) ∧ Below v0.heap.size v0 u) (by kernel_rfl) Hs.out (fun hHeld => ?_)
      refine wpAnyH_take (i := 0) (oi := { dst := some 65, op := _, type := _, pos := _, after := _, guard := _ }) (v := ?v11_0) rfl (by kernel_rfl) (by kernel_rfl) (by kernel_rfl) (fun _ _ _ h => h) (Or.inl ⟨by rfl, ?hy11_0⟩) hHeld ?_
      case hy11_0 => (intro w hSw; (try dsimp only at hSw); go_simp; try with_reducible rfl)
      simp only [Act.put, List.setIfInBounds_toArray, List.set_cons_zero, List.set_cons_succ]
      refine wpAnyH_take (i := 1) (oi := { dst := some 66, op := _, type := _, pos := _, after := _, guard := _ }) (v := ?v11_1) rfl (by kernel_rfl) (by kernel_rfl) (by kernel_rfl) (fun _ _ _ h => h) (Or.inl ⟨by rfl, ?hy11_1⟩) hHeld ?_
      case hy11_1 => (intro w hSw; (try dsimp only at hSw); go_simp; try with_reducible rfl)
      simp only [Act.put, List.setIfInBounds_toArray, List.set_cons_zero, List.set_cons_succ]
      refine wpAnyH_take (i := 2) (oi := { dst := some 67, op := _, type := _, pos := _, after := _, guard := _ }) (v := ?v11_2) rfl (by kernel_rfl) (by kernel_rfl) (by kernel_rfl) (fun _ _ _ h => h) (Or.inl ⟨by rfl, ?hy11_2⟩) hHeld ?_
      case hy11_2 => (intro w hSw; (try dsimp only at hSw); go_simp; try with_reducible rfl)
      simp only [Act.put, List.setIfInBounds_toArray, List.set_cons_zero, List.set_cons_succ]
      refine wpAnyH_take (i := 3) (oi := { dst := some 68, op := _, type := _, pos := _, after := _, guard := _ }) (v := ?v11_3) rfl (by kernel_rfl) (by kernel_rfl) (by kernel_rfl) (fun _ _ _ h => h) (Or.inl ⟨by rfl, ?hy11_3⟩) hHeld ?_
      case hy11_3 => (intro w hSw; (try dsimp only at hSw); go_simp; try with_reducible rfl)
      simp only [Act.put, List.setIfInBounds_toArray, List.set_cons_zero, List.set_cons_succ]
      refine wpAnyH_take (i := 4) (oi := { dst := some 69, op := _, type := _, pos := _, after := _, guard := _ }) (v := ?v11_4) rfl (by kernel_rfl) (by kernel_rfl) (by kernel_rfl) (fun _ _ _ h => h) (Or.inl ⟨by rfl, ?hy11_4⟩) hHeld ?_
      case hy11_4 => (intro w hSw; (try dsimp only at hSw); go_simp; try with_reducible rfl)
      simp only [Act.put, List.setIfInBounds_toArray, List.set_cons_zero, List.set_cons_succ]
      refine wpAnyH_take (i := 5) (oi := { dst := some 70, op := _, type := _, pos := _, after := _, guard := _ }) (v := ?v11_5) rfl (by kernel_rfl) (by kernel_rfl) (by kernel_rfl) (fun _ _ _ h => h) (Or.inl ⟨by rfl, ?hy11_5⟩) hHeld ?_
      case hy11_5 => (intro w hSw; (try dsimp only at hSw); go_simp; try with_reducible rfl)
      simp only [Act.put, List.setIfInBounds_toArray, List.set_cons_zero, List.set_cons_succ]
      refine wpAnyH_take (i := 6) (oi := { dst := some 71, op := _, type := _, pos := _, after := _, guard := _ }) (v := ?v11_6) rfl (by kernel_rfl) (by kernel_rfl) (by kernel_rfl) (fun _ _ _ h => h) (Or.inl ⟨by rfl, ?hy11_6⟩) hHeld ?_
      case hy11_6 => (intro w hSw; (try dsimp only at hSw); go_simp; try with_reducible rfl)
      simp only [Act.put, List.setIfInBounds_toArray, List.set_cons_zero, List.set_cons_succ]
      refine wpAnyH_take (i := 7) (oi := { dst := some 72, op := _, type := _, pos := _, after := _, guard := _ }) (v := ?v11_7) rfl (by kernel_rfl) (by kernel_rfl) (by kernel_rfl) (fun _ _ _ h => h) (Or.inl ⟨by rfl, ?hy11_7⟩) hHeld ?_
      case hy11_7 => (intro w hSw; (try dsimp only at hSw); go_simp; try with_reducible rfl)
      simp only [Act.put, List.setIfInBounds_toArray, List.set_cons_zero, List.set_cons_succ]
      refine wpAnyH_take (i := 8) (oi := { dst := some 73, op := _, type := _, pos := _, after := _, guard := _ }) (v := ?v11_8) rfl (by kernel_rfl) (by kernel_rfl) (by kernel_rfl) (fun _ _ _ h => h) (Or.inl ⟨by rfl, ?hy11_8⟩) hHeld ?_
      case hy11_8 => (intro w hSw; (try dsimp only at hSw); go_simp; try with_reducible rfl)
      simp only [Act.put, List.setIfInBounds_toArray, List.set_cons_zero, List.set_cons_succ]
      refine wpAnyH_ready (rs := [9]) (by kernel_rfl) (by simp) ?_
      refine AllReadyH.cons (o := { dst := some 74, op := _, type := _, pos := _, after := _, guard := _ }) rfl (fun K hK => ?_) AllReadyH.nil
      go_simp
      go_at_call 10
      refine (XP0.out _ (by assumption)).mono ?_
      rintro ee0 t0 ⟨rfl, hs0⟩
      refine hK.out _ _ hs0 (fun hHeld => ?_)
      clear hK K
      refine wpAnyH_take (i := 10) (oi := { dst := some 75, op := _, type := _, pos := _, after := _, guard := _ }) (v := ?v11_10) rfl (by kernel_rfl) (by kernel_rfl) (by kernel_rfl) (fun _ _ _ h => h) (Or.inl ⟨by rfl, ?hy11_10⟩) hHeld ?_
      case hy11_10 => (intro w hSw; (try dsimp only at hSw); go_simp; try with_reducible rfl)
      simp only [Act.put, List.setIfInBounds_toArray, List.set_cons_zero, List.set_cons_succ]
      refine wpAnyH_take (i := 11) (oi := { dst := some 76, op := _, type := _, pos := _, after := _, guard := _ }) (v := ?v11_11) rfl (by kernel_rfl) (by kernel_rfl) (by kernel_rfl) (fun _ _ _ h => h) (Or.inl ⟨by rfl, ?hy11_11⟩) hHeld ?_
      case hy11_11 => (intro w hSw; (try dsimp only at hSw); go_simp; try with_reducible rfl)
      simp only [Act.put, List.setIfInBounds_toArray, List.set_cons_zero, List.set_cons_succ]
      refine wpAnyH_take (i := 12) (oi := { dst := some 77, op := _, type := _, pos := _, after := _, guard := _ }) (v := ?v11_12) rfl (by kernel_rfl) (by kernel_rfl) (by kernel_rfl) (fun _ _ _ h => h) (Or.inl ⟨by rfl, ?hy11_12⟩) hHeld ?_
      case hy11_12 => (intro w hSw; (try dsimp only at hSw); go_simp; try with_reducible rfl)
      simp only [Act.put, List.setIfInBounds_toArray, List.set_cons_zero, List.set_cons_succ]
      refine wpAnyH_take (i := 13) (oi := { dst := some 78, op := _, type := _, pos := _, after := _, guard := _ }) (v := undef) rfl (by kernel_rfl) (by kernel_rfl) (by kernel_rfl) (fun _ _ _ h => h) (Or.inr ⟨by rfl, rfl⟩) hHeld ?_
      simp only [Act.put, List.setIfInBounds_toArray, List.set_cons_zero, List.set_cons_succ]
      refine wpAnyH_take (i := 14) (oi := { dst := some 79, op := _, type := _, pos := _, after := _, guard := _ }) (v := undef) rfl (by kernel_rfl) (by kernel_rfl) (by kernel_rfl) (fun _ _ _ h => h) (Or.inr ⟨by rfl, rfl⟩) hHeld ?_
      simp only [Act.put, List.setIfInBounds_toArray, List.set_cons_zero, List.set_cons_succ]
      refine wpAnyH_take (i := 15) (oi := { dst := some 80, op := _, type := _, pos := _, after := _, guard := _ }) (v := undef) rfl (by kernel_rfl) (by kernel_rfl) (by kernel_rfl) (fun _ _ _ h => h) (Or.inr ⟨by rfl, rfl⟩) hHeld ?_
      simp only [Act.put, List.setIfInBounds_toArray, List.set_cons_zero, List.set_cons_succ]
      refine wpAnyH_take (i := 16) (oi := { dst := some 81, op := _, type := _, pos := _, after := _, guard := _ }) (v := undef) rfl (by kernel_rfl) (by kernel_rfl) (by kernel_rfl) (fun _ _ _ h => h) (Or.inr ⟨by rfl, rfl⟩) hHeld ?_
      simp only [Act.put, List.setIfInBounds_toArray, List.set_cons_zero, List.set_cons_succ]
      refine wpAnyH_take (i := 17) (oi := { dst := some 82, op := _, type := _, pos := _, after := _, guard := _ }) (v := undef) rfl (by kernel_rfl) (by kernel_rfl) (by kernel_rfl) (fun _ _ _ h => h) (Or.inr ⟨by rfl, rfl⟩) hHeld ?_
      simp only [Act.put, List.setIfInBounds_toArray, List.set_cons_zero, List.set_cons_succ]
      refine wpAnyH_take (i := 18) (oi := { dst := some 83, op := _, type := _, pos := _, after := _, guard := _ }) (v := undef) rfl (by kernel_rfl) (by kernel_rfl) (by kernel_rfl) (fun _ _ _ h => h) (Or.inr ⟨by rfl, rfl⟩) hHeld ?_
      simp only [Act.put, List.setIfInBounds_toArray, List.set_cons_zero, List.set_cons_succ]
      refine wpAnyH_take (i := 19) (oi := { dst := some 84, op := _, type := _, pos := _, after := _, guard := _ }) (v := undef) rfl (by kernel_rfl) (by kernel_rfl) (by kernel_rfl) (fun _ _ _ h => h) (Or.inr ⟨by rfl, rfl⟩) hHeld ?_
      simp only [Act.put, List.setIfInBounds_toArray, List.set_cons_zero, List.set_cons_succ]
      refine wpAnyH_take (i := 20) (oi := { dst := some 85, op := _, type := _, pos := _, after := _, guard := _ }) (v := ?v11_20) rfl (by kernel_rfl) (by kernel_rfl) (by kernel_rfl) (fun _ _ _ h => h) (Or.inl ⟨by rfl, ?hy11_20⟩) hHeld ?_
      case hy11_20 => (intro w hSw; (try dsimp only at hSw); go_simp; try with_reducible rfl)
      simp only [Act.put, List.setIfInBounds_toArray, List.set_cons_zero, List.set_cons_succ]
      refine wpAnyH_take (i := 21) (oi := { dst := some 6, op := _, type := _, pos := _, after := _, guard := _ }) (v := ?v11_21) rfl (by kernel_rfl) (by kernel_rfl) (by kernel_rfl) (fun _ _ _ h => h) (Or.inl ⟨by rfl, ?hy11_21⟩) hHeld ?_
      case hy11_21 => (intro w hSw; (try dsimp only at hSw); go_simp; try with_reducible rfl)
      simp only [Act.put, List.setIfInBounds_toArray, List.set_cons_zero, List.set_cons_succ]
      refine wpAnyH_done (by kernel_rfl) ?_ _
      go_wp2_with fail
      go_ret
      exact ⟨rfl, below_on B4.out hs0.2.2.2.2.2.2.2.2.2.2.2.2⟩
    · skip
      have Hs := Lib.hid (show v0.drew.cell? ⟨g, q, none⟩ = some (.int .i64 a1) ∧ v0.drew.cell? ⟨g, q + 1, none⟩ = some (.int .i64 a2) ∧ v0.drew.cell? ⟨g, q + 2, none⟩ = some (.int .i64 a3) ∧ v0.drew.cell? ⟨g, q + 3, none⟩ = some (.string a4) ∧ v0.drew.cell? ⟨g, q + 4, none⟩ = some (.int .i64 b1) ∧ v0.drew.cell? ⟨g, q + 5, none⟩ = some (.int .i64 b2) ∧ v0.drew.cell? ⟨g, q + 6, none⟩ = some (.int .i64 b3) ∧ v0.drew.cell? ⟨g, q + 7, none⟩ = some (.string b4) ∧ v0.drew.cell? ⟨g, q + 8, none⟩ = some (.int .i64 c1) ∧ v0.drew.cell? ⟨g, q + 9, none⟩ = some (.int .i64 c2) ∧ v0.drew.cell? ⟨g, q + 10, none⟩ = some (.int .i64 c3) ∧ v0.drew.cell? ⟨g, q + 11, none⟩ = some (.string c4) ∧ Below v0.heap.size v0 v0.drew from ⟨q0, q1, q2, q3, q4, q5, q6, q7, q8, q9, q10, q11, below_dn (Below.refl _ _) 1⟩)
      have XP0 := Lib.hid (fun u (hu : u.cell? ⟨g, q, none⟩ = some (.int .i64 a1) ∧ u.cell? ⟨g, q + 1, none⟩ = some (.int .i64 a2) ∧ u.cell? ⟨g, q + 2, none⟩ = some (.int .i64 a3) ∧ u.cell? ⟨g, q + 3, none⟩ = some (.string a4) ∧ u.cell? ⟨g, q + 4, none⟩ = some (.int .i64 b1) ∧ u.cell? ⟨g, q + 5, none⟩ = some (.int .i64 b2) ∧ u.cell? ⟨g, q + 6, none⟩ = some (.int .i64 b3) ∧ u.cell? ⟨g, q + 7, none⟩ = some (.string b4) ∧ u.cell? ⟨g, q + 8, none⟩ = some (.int .i64 c1) ∧ u.cell? ⟨g, q + 9, none⟩ = some (.int .i64 c2) ∧ u.cell? ⟨g, q + 10, none⟩ = some (.int .i64 c3) ∧ u.cell? ⟨g, q + 11, none⟩ = some (.string c4) ∧ Below v0.heap.size v0 u) => (HZ u).mono (R' := fun e u' => e = .returned (.bool false) ∧ (u'.cell? ⟨g, q, none⟩ = some (.int .i64 a1) ∧ u'.cell? ⟨g, q + 1, none⟩ = some (.int .i64 a2) ∧ u'.cell? ⟨g, q + 2, none⟩ = some (.int .i64 a3) ∧ u'.cell? ⟨g, q + 3, none⟩ = some (.string a4) ∧ u'.cell? ⟨g, q + 4, none⟩ = some (.int .i64 b1) ∧ u'.cell? ⟨g, q + 5, none⟩ = some (.int .i64 b2) ∧ u'.cell? ⟨g, q + 6, none⟩ = some (.int .i64 b3) ∧ u'.cell? ⟨g, q + 7, none⟩ = some (.string b4) ∧ u'.cell? ⟨g, q + 8, none⟩ = some (.int .i64 c1) ∧ u'.cell? ⟨g, q + 9, none⟩ = some (.int .i64 c2) ∧ u'.cell? ⟨g, q + 10, none⟩ = some (.int .i64 c3) ∧ u'.cell? ⟨g, q + 11, none⟩ = some (.string c4) ∧ Below v0.heap.size v0 u')) fun e u' ⟨he, hq⟩ => ⟨he, ⟨cell_below hu.1 hq, cell_below hu.2.1 hq, cell_below hu.2.2.1 hq, cell_below hu.2.2.2.1 hq, cell_below hu.2.2.2.2.1 hq, cell_below hu.2.2.2.2.2.1 hq, cell_below hu.2.2.2.2.2.2.1 hq, cell_below hu.2.2.2.2.2.2.2.1 hq, cell_below hu.2.2.2.2.2.2.2.2.1 hq, cell_below hu.2.2.2.2.2.2.2.2.2.1 hq, cell_below hu.2.2.2.2.2.2.2.2.2.2.1 hq, cell_below hu.2.2.2.2.2.2.2.2.2.2.2.1 hq, below_on hu.2.2.2.2.2.2.2.2.2.2.2.2 hq⟩⟩)
      go_wp2_with fail
      refine wp_region_held_drew (S := fun u => u.cell? ⟨g, q, none⟩ = some (.int .i64 a1) ∧ u.cell? ⟨g, q + 1, none⟩ = some (.int .i64 a2) ∧ u.cell? ⟨g, q + 2, none⟩ = some (.int .i64 a3) ∧ u.cell? ⟨g, q + 3, none⟩ = some (.string a4) ∧ u.cell? ⟨g, q + 4, none⟩ = some (.int .i64 b1) ∧ u.cell? ⟨g, q + 5, none⟩ = some (.int .i64 b2) ∧ u.cell? ⟨g, q + 6, none⟩ = some (.int .i64 b3) ∧ u.cell? ⟨g, q + 7, none⟩ = some (.string b4) ∧ u.cell? ⟨g, q + 8, none⟩ = some (.int .i64 c1) ∧ u.cell? ⟨g, q + 9, none⟩ = some (.int .i64 c2) ∧ u.cell? ⟨g, q + 10, none⟩ = some (.int .i64 c3) ∧ u.cell? ⟨g, q + 11, none⟩ = some (.string c4) ∧ Below v0.heap.size v0 u) (by kernel_rfl) Hs.out (fun hHeld => ?_)
      refine wpAnyH_take (i := 0) (oi := { dst := some 65, op := _, type := _, pos := _, after := _, guard := _ }) (v := ?v12_0) rfl (by kernel_rfl) (by kernel_rfl) (by kernel_rfl) (fun _ _ _ h => h) (Or.inl ⟨by rfl, ?hy12_0⟩) hHeld ?_
      case hy12_0 => (intro w hSw; (try dsimp only at hSw); go_simp; try with_reducible rfl)
      simp only [Act.put, List.setIfInBounds_toArray, List.set_cons_zero, List.set_cons_succ]
      refine wpAnyH_take (i := 1) (oi := { dst := some 66, op := _, type := _, pos := _, after := _, guard := _ }) (v := ?v12_1) rfl (by kernel_rfl) (by kernel_rfl) (by kernel_rfl) (fun _ _ _ h => h) (Or.inl ⟨by rfl, ?hy12_1⟩) hHeld ?_
      case hy12_1 => (intro w hSw; (try dsimp only at hSw); go_simp; try with_reducible rfl)
      simp only [Act.put, List.setIfInBounds_toArray, List.set_cons_zero, List.set_cons_succ]
      refine wpAnyH_take (i := 2) (oi := { dst := some 67, op := _, type := _, pos := _, after := _, guard := _ }) (v := ?v12_2) rfl (by kernel_rfl) (by kernel_rfl) (by kernel_rfl) (fun _ _ _ h => h) (Or.inl ⟨by rfl, ?hy12_2⟩) hHeld ?_
      case hy12_2 => (intro w hSw; (try dsimp only at hSw); go_simp; try with_reducible rfl)
      simp only [Act.put, List.setIfInBounds_toArray, List.set_cons_zero, List.set_cons_succ]
      refine wpAnyH_take (i := 3) (oi := { dst := some 68, op := _, type := _, pos := _, after := _, guard := _ }) (v := ?v12_3) rfl (by kernel_rfl) (by kernel_rfl) (by kernel_rfl) (fun _ _ _ h => h) (Or.inl ⟨by rfl, ?hy12_3⟩) hHeld ?_
      case hy12_3 => (intro w hSw; (try dsimp only at hSw); go_simp; try with_reducible rfl)
      simp only [Act.put, List.setIfInBounds_toArray, List.set_cons_zero, List.set_cons_succ]
      refine wpAnyH_take (i := 4) (oi := { dst := some 69, op := _, type := _, pos := _, after := _, guard := _ }) (v := ?v12_4) rfl (by kernel_rfl) (by kernel_rfl) (by kernel_rfl) (fun _ _ _ h => h) (Or.inl ⟨by rfl, ?hy12_4⟩) hHeld ?_
      case hy12_4 => (intro w hSw; (try dsimp only at hSw); go_simp; try with_reducible rfl)
      simp only [Act.put, List.setIfInBounds_toArray, List.set_cons_zero, List.set_cons_succ]
      refine wpAnyH_take (i := 5) (oi := { dst := some 70, op := _, type := _, pos := _, after := _, guard := _ }) (v := ?v12_5) rfl (by kernel_rfl) (by kernel_rfl) (by kernel_rfl) (fun _ _ _ h => h) (Or.inl ⟨by rfl, ?hy12_5⟩) hHeld ?_
      case hy12_5 => (intro w hSw; (try dsimp only at hSw); go_simp; try with_reducible rfl)
      simp only [Act.put, List.setIfInBounds_toArray, List.set_cons_zero, List.set_cons_succ]
      refine wpAnyH_take (i := 6) (oi := { dst := some 71, op := _, type := _, pos := _, after := _, guard := _ }) (v := ?v12_6) rfl (by kernel_rfl) (by kernel_rfl) (by kernel_rfl) (fun _ _ _ h => h) (Or.inl ⟨by rfl, ?hy12_6⟩) hHeld ?_
      case hy12_6 => (intro w hSw; (try dsimp only at hSw); go_simp; try with_reducible rfl)
      simp only [Act.put, List.setIfInBounds_toArray, List.set_cons_zero, List.set_cons_succ]
      refine wpAnyH_take (i := 7) (oi := { dst := some 72, op := _, type := _, pos := _, after := _, guard := _ }) (v := ?v12_7) rfl (by kernel_rfl) (by kernel_rfl) (by kernel_rfl) (fun _ _ _ h => h) (Or.inl ⟨by rfl, ?hy12_7⟩) hHeld ?_
      case hy12_7 => (intro w hSw; (try dsimp only at hSw); go_simp; try with_reducible rfl)
      simp only [Act.put, List.setIfInBounds_toArray, List.set_cons_zero, List.set_cons_succ]
      refine wpAnyH_take (i := 8) (oi := { dst := some 73, op := _, type := _, pos := _, after := _, guard := _ }) (v := ?v12_8) rfl (by kernel_rfl) (by kernel_rfl) (by kernel_rfl) (fun _ _ _ h => h) (Or.inl ⟨by rfl, ?hy12_8⟩) hHeld ?_
      case hy12_8 => (intro w hSw; (try dsimp only at hSw); go_simp; try with_reducible rfl)
      simp only [Act.put, List.setIfInBounds_toArray, List.set_cons_zero, List.set_cons_succ]
      refine wpAnyH_ready (rs := [9]) (by kernel_rfl) (by simp) ?_
      refine AllReadyH.cons (o := { dst := some 74, op := _, type := _, pos := _, after := _, guard := _ }) rfl (fun K hK => ?_) AllReadyH.nil
      go_simp
      go_at_call 10
      refine (XP0.out _ (by assumption)).mono ?_
      rintro ee0 t0 ⟨rfl, hs0⟩
      refine hK.out _ _ hs0 (fun hHeld => ?_)
      clear hK K
      refine wpAnyH_take (i := 10) (oi := { dst := some 75, op := _, type := _, pos := _, after := _, guard := _ }) (v := ?v12_10) rfl (by kernel_rfl) (by kernel_rfl) (by kernel_rfl) (fun _ _ _ h => h) (Or.inl ⟨by rfl, ?hy12_10⟩) hHeld ?_
      case hy12_10 => (intro w hSw; (try dsimp only at hSw); go_simp; try with_reducible rfl)
      simp only [Act.put, List.setIfInBounds_toArray, List.set_cons_zero, List.set_cons_succ]
      refine wpAnyH_take (i := 11) (oi := { dst := some 76, op := _, type := _, pos := _, after := _, guard := _ }) (v := ?v12_11) rfl (by kernel_rfl) (by kernel_rfl) (by kernel_rfl) (fun _ _ _ h => h) (Or.inl ⟨by rfl, ?hy12_11⟩) hHeld ?_
      case hy12_11 => (intro w hSw; (try dsimp only at hSw); go_simp; try with_reducible rfl)
      simp only [Act.put, List.setIfInBounds_toArray, List.set_cons_zero, List.set_cons_succ]
      refine wpAnyH_take (i := 12) (oi := { dst := some 77, op := _, type := _, pos := _, after := _, guard := _ }) (v := ?v12_12) rfl (by kernel_rfl) (by kernel_rfl) (by kernel_rfl) (fun _ _ _ h => h) (Or.inl ⟨by rfl, ?hy12_12⟩) hHeld ?_
      case hy12_12 => (intro w hSw; (try dsimp only at hSw); go_simp; try with_reducible rfl)
      simp only [Act.put, List.setIfInBounds_toArray, List.set_cons_zero, List.set_cons_succ]
      refine wpAnyH_take (i := 13) (oi := { dst := some 78, op := _, type := _, pos := _, after := _, guard := _ }) (v := undef) rfl (by kernel_rfl) (by kernel_rfl) (by kernel_rfl) (fun _ _ _ h => h) (Or.inr ⟨by rfl, rfl⟩) hHeld ?_
      simp only [Act.put, List.setIfInBounds_toArray, List.set_cons_zero, List.set_cons_succ]
      refine wpAnyH_take (i := 14) (oi := { dst := some 79, op := _, type := _, pos := _, after := _, guard := _ }) (v := undef) rfl (by kernel_rfl) (by kernel_rfl) (by kernel_rfl) (fun _ _ _ h => h) (Or.inr ⟨by rfl, rfl⟩) hHeld ?_
      simp only [Act.put, List.setIfInBounds_toArray, List.set_cons_zero, List.set_cons_succ]
      refine wpAnyH_take (i := 15) (oi := { dst := some 80, op := _, type := _, pos := _, after := _, guard := _ }) (v := undef) rfl (by kernel_rfl) (by kernel_rfl) (by kernel_rfl) (fun _ _ _ h => h) (Or.inr ⟨by rfl, rfl⟩) hHeld ?_
      simp only [Act.put, List.setIfInBounds_toArray, List.set_cons_zero, List.set_cons_succ]
      refine wpAnyH_take (i := 16) (oi := { dst := some 81, op := _, type := _, pos := _, after := _, guard := _ }) (v := undef) rfl (by kernel_rfl) (by kernel_rfl) (by kernel_rfl) (fun _ _ _ h => h) (Or.inr ⟨by rfl, rfl⟩) hHeld ?_
      simp only [Act.put, List.setIfInBounds_toArray, List.set_cons_zero, List.set_cons_succ]
      refine wpAnyH_take (i := 17) (oi := { dst := some 82, op := _, type := _, pos := _, after := _, guard := _ }) (v := undef) rfl (by kernel_rfl) (by kernel_rfl) (by kernel_rfl) (fun _ _ _ h => h) (Or.inr ⟨by rfl, rfl⟩) hHeld ?_
      simp only [Act.put, List.setIfInBounds_toArray, List.set_cons_zero, List.set_cons_succ]
      refine wpAnyH_take (i := 18) (oi := { dst := some 83, op := _, type := _, pos := _, after := _, guard := _ }) (v := undef) rfl (by kernel_rfl) (by kernel_rfl) (by kernel_rfl) (fun _ _ _ h => h) (Or.inr ⟨by rfl, rfl⟩) hHeld ?_
      simp only [Act.put, List.setIfInBounds_toArray, List.set_cons_zero, List.set_cons_succ]
      refine wpAnyH_take (i := 19) (oi := { dst := some 84, op := _, type := _, pos := _, after := _, guard := _ }) (v := undef) rfl (by kernel_rfl) (by kernel_rfl) (by kernel_rfl) (fun _ _ _ h => h) (Or.inr ⟨by rfl, rfl⟩) hHeld ?_
      simp only [Act.put, List.setIfInBounds_toArray, List.set_cons_zero, List.set_cons_succ]
      refine wpAnyH_take (i := 20) (oi := { dst := some 85, op := _, type := _, pos := _, after := _, guard := _ }) (v := ?v12_20) rfl (by kernel_rfl) (by kernel_rfl) (by kernel_rfl) (fun _ _ _ h => h) (Or.inl ⟨by rfl, ?hy12_20⟩) hHeld ?_
      case hy12_20 => (intro w hSw; (try dsimp only at hSw); go_simp; try with_reducible rfl)
      simp only [Act.put, List.setIfInBounds_toArray, List.set_cons_zero, List.set_cons_succ]
      refine wpAnyH_take (i := 21) (oi := { dst := some 6, op := _, type := _, pos := _, after := _, guard := _ }) (v := ?v12_21) rfl (by kernel_rfl) (by kernel_rfl) (by kernel_rfl) (fun _ _ _ h => h) (Or.inl ⟨by rfl, ?hy12_21⟩) hHeld ?_
      case hy12_21 => (intro w hSw; (try dsimp only at hSw); go_simp; try with_reducible rfl)
      simp only [Act.put, List.setIfInBounds_toArray, List.set_cons_zero, List.set_cons_succ]
      refine wpAnyH_done (by kernel_rfl) ?_ _
      go_wp2_with fail
      go_ret
      exact ⟨rfl, below_on B4.out hs0.2.2.2.2.2.2.2.2.2.2.2.2⟩
    · skip
      have Hs := Lib.hid (show v0.drew.cell? ⟨g, q, none⟩ = some (.int .i64 a1) ∧ v0.drew.cell? ⟨g, q + 1, none⟩ = some (.int .i64 a2) ∧ v0.drew.cell? ⟨g, q + 2, none⟩ = some (.int .i64 a3) ∧ v0.drew.cell? ⟨g, q + 3, none⟩ = some (.string a4) ∧ v0.drew.cell? ⟨g, q + 4, none⟩ = some (.int .i64 b1) ∧ v0.drew.cell? ⟨g, q + 5, none⟩ = some (.int .i64 b2) ∧ v0.drew.cell? ⟨g, q + 6, none⟩ = some (.int .i64 b3) ∧ v0.drew.cell? ⟨g, q + 7, none⟩ = some (.string b4) ∧ v0.drew.cell? ⟨g, q + 8, none⟩ = some (.int .i64 c1) ∧ v0.drew.cell? ⟨g, q + 9, none⟩ = some (.int .i64 c2) ∧ v0.drew.cell? ⟨g, q + 10, none⟩ = some (.int .i64 c3) ∧ v0.drew.cell? ⟨g, q + 11, none⟩ = some (.string c4) ∧ Below v0.heap.size v0 v0.drew from ⟨q0, q1, q2, q3, q4, q5, q6, q7, q8, q9, q10, q11, below_dn (Below.refl _ _) 1⟩)
      have XP0 := Lib.hid (fun u (hu : u.cell? ⟨g, q, none⟩ = some (.int .i64 a1) ∧ u.cell? ⟨g, q + 1, none⟩ = some (.int .i64 a2) ∧ u.cell? ⟨g, q + 2, none⟩ = some (.int .i64 a3) ∧ u.cell? ⟨g, q + 3, none⟩ = some (.string a4) ∧ u.cell? ⟨g, q + 4, none⟩ = some (.int .i64 b1) ∧ u.cell? ⟨g, q + 5, none⟩ = some (.int .i64 b2) ∧ u.cell? ⟨g, q + 6, none⟩ = some (.int .i64 b3) ∧ u.cell? ⟨g, q + 7, none⟩ = some (.string b4) ∧ u.cell? ⟨g, q + 8, none⟩ = some (.int .i64 c1) ∧ u.cell? ⟨g, q + 9, none⟩ = some (.int .i64 c2) ∧ u.cell? ⟨g, q + 10, none⟩ = some (.int .i64 c3) ∧ u.cell? ⟨g, q + 11, none⟩ = some (.string c4) ∧ Below v0.heap.size v0 u) => (HZ u).mono (R' := fun e u' => e = .returned (.bool false) ∧ (u'.cell? ⟨g, q, none⟩ = some (.int .i64 a1) ∧ u'.cell? ⟨g, q + 1, none⟩ = some (.int .i64 a2) ∧ u'.cell? ⟨g, q + 2, none⟩ = some (.int .i64 a3) ∧ u'.cell? ⟨g, q + 3, none⟩ = some (.string a4) ∧ u'.cell? ⟨g, q + 4, none⟩ = some (.int .i64 b1) ∧ u'.cell? ⟨g, q + 5, none⟩ = some (.int .i64 b2) ∧ u'.cell? ⟨g, q + 6, none⟩ = some (.int .i64 b3) ∧ u'.cell? ⟨g, q + 7, none⟩ = some (.string b4) ∧ u'.cell? ⟨g, q + 8, none⟩ = some (.int .i64 c1) ∧ u'.cell? ⟨g, q + 9, none⟩ = some (.int .i64 c2) ∧ u'.cell? ⟨g, q + 10, none⟩ = some (.int .i64 c3) ∧ u'.cell? ⟨g, q + 11, none⟩ = some (.string c4) ∧ Below v0.heap.size v0 u')) fun e u' ⟨he, hq⟩ => ⟨he, ⟨cell_below hu.1 hq, cell_below hu.2.1 hq, cell_below hu.2.2.1 hq, cell_below hu.2.2.2.1 hq, cell_below hu.2.2.2.2.1 hq, cell_below hu.2.2.2.2.2.1 hq, cell_below hu.2.2.2.2.2.2.1 hq, cell_below hu.2.2.2.2.2.2.2.1 hq, cell_below hu.2.2.2.2.2.2.2.2.1 hq, cell_below hu.2.2.2.2.2.2.2.2.2.1 hq, cell_below hu.2.2.2.2.2.2.2.2.2.2.1 hq, cell_below hu.2.2.2.2.2.2.2.2.2.2.2.1 hq, below_on hu.2.2.2.2.2.2.2.2.2.2.2.2 hq⟩⟩)
      go_wp2_with fail
      refine wp_region_held_drew (S := fun u => u.cell? ⟨g, q, none⟩ = some (.int .i64 a1) ∧ u.cell? ⟨g, q + 1, none⟩ = some (.int .i64 a2) ∧ u.cell? ⟨g, q + 2, none⟩ = some (.int .i64 a3) ∧ u.cell? ⟨g, q + 3, none⟩ = some (.string a4) ∧ u.cell? ⟨g, q + 4, none⟩ = some (.int .i64 b1) ∧ u.cell? ⟨g, q + 5, none⟩ = some (.int .i64 b2) ∧ u.cell? ⟨g, q + 6, none⟩ = some (.int .i64 b3) ∧ u.cell? ⟨g, q + 7, none⟩ = some (.string b4) ∧ u.cell? ⟨g, q + 8, none⟩ = some (.int .i64 c1) ∧ u.cell? ⟨g, q + 9, none⟩ = some (.int .i64 c2) ∧ u.cell? ⟨g, q + 10, none⟩ = some (.int .i64 c3) ∧ u.cell? ⟨g, q + 11, none⟩ = some (.string c4) ∧ Below v0.heap.size v0 u) (by kernel_rfl) Hs.out (fun hHeld => ?_)
      refine wpAnyH_take (i := 0) (oi := { dst := some 65, op := _, type := _, pos := _, after := _, guard := _ }) (v := ?v13_0) rfl (by kernel_rfl) (by kernel_rfl) (by kernel_rfl) (fun _ _ _ h => h) (Or.inl ⟨by rfl, ?hy13_0⟩) hHeld ?_
      case hy13_0 => (intro w hSw; (try dsimp only at hSw); go_simp; try with_reducible rfl)
      simp only [Act.put, List.setIfInBounds_toArray, List.set_cons_zero, List.set_cons_succ]
      refine wpAnyH_take (i := 1) (oi := { dst := some 66, op := _, type := _, pos := _, after := _, guard := _ }) (v := ?v13_1) rfl (by kernel_rfl) (by kernel_rfl) (by kernel_rfl) (fun _ _ _ h => h) (Or.inl ⟨by rfl, ?hy13_1⟩) hHeld ?_
      case hy13_1 => (intro w hSw; (try dsimp only at hSw); go_simp; try with_reducible rfl)
      simp only [Act.put, List.setIfInBounds_toArray, List.set_cons_zero, List.set_cons_succ]
      refine wpAnyH_take (i := 2) (oi := { dst := some 67, op := _, type := _, pos := _, after := _, guard := _ }) (v := ?v13_2) rfl (by kernel_rfl) (by kernel_rfl) (by kernel_rfl) (fun _ _ _ h => h) (Or.inl ⟨by rfl, ?hy13_2⟩) hHeld ?_
      case hy13_2 => (intro w hSw; (try dsimp only at hSw); go_simp; try with_reducible rfl)
      simp only [Act.put, List.setIfInBounds_toArray, List.set_cons_zero, List.set_cons_succ]
      refine wpAnyH_take (i := 3) (oi := { dst := some 68, op := _, type := _, pos := _, after := _, guard := _ }) (v := ?v13_3) rfl (by kernel_rfl) (by kernel_rfl) (by kernel_rfl) (fun _ _ _ h => h) (Or.inl ⟨by rfl, ?hy13_3⟩) hHeld ?_
      case hy13_3 => (intro w hSw; (try dsimp only at hSw); go_simp; try with_reducible rfl)
      simp only [Act.put, List.setIfInBounds_toArray, List.set_cons_zero, List.set_cons_succ]
      refine wpAnyH_take (i := 4) (oi := { dst := some 69, op := _, type := _, pos := _, after := _, guard := _ }) (v := ?v13_4) rfl (by kernel_rfl) (by kernel_rfl) (by kernel_rfl) (fun _ _ _ h => h) (Or.inl ⟨by rfl, ?hy13_4⟩) hHeld ?_
      case hy13_4 => (intro w hSw; (try dsimp only at hSw); go_simp; try with_reducible rfl)
      simp only [Act.put, List.setIfInBounds_toArray, List.set_cons_zero, List.set_cons_succ]
      refine wpAnyH_take (i := 5) (oi := { dst := some 70, op := _, type := _, pos := _, after := _, guard := _ }) (v := ?v13_5) rfl (by kernel_rfl) (by kernel_rfl) (by kernel_rfl) (fun _ _ _ h => h) (Or.inl ⟨by rfl, ?hy13_5⟩) hHeld ?_
      case hy13_5 => (intro w hSw; (try dsimp only at hSw); go_simp; try with_reducible rfl)
      simp only [Act.put, List.setIfInBounds_toArray, List.set_cons_zero, List.set_cons_succ]
      refine wpAnyH_take (i := 6) (oi := { dst := some 71, op := _, type := _, pos := _, after := _, guard := _ }) (v := ?v13_6) rfl (by kernel_rfl) (by kernel_rfl) (by kernel_rfl) (fun _ _ _ h => h) (Or.inl ⟨by rfl, ?hy13_6⟩) hHeld ?_
      case hy13_6 => (intro w hSw; (try dsimp only at hSw); go_simp; try with_reducible rfl)
      simp only [Act.put, List.setIfInBounds_toArray, List.set_cons_zero, List.set_cons_succ]
      refine wpAnyH_take (i := 7) (oi := { dst := some 72, op := _, type := _, pos := _, after := _, guard := _ }) (v := ?v13_7) rfl (by kernel_rfl) (by kernel_rfl) (by kernel_rfl) (fun _ _ _ h => h) (Or.inl ⟨by rfl, ?hy13_7⟩) hHeld ?_
      case hy13_7 => (intro w hSw; (try dsimp only at hSw); go_simp; try with_reducible rfl)
      simp only [Act.put, List.setIfInBounds_toArray, List.set_cons_zero, List.set_cons_succ]
      refine wpAnyH_take (i := 8) (oi := { dst := some 73, op := _, type := _, pos := _, after := _, guard := _ }) (v := ?v13_8) rfl (by kernel_rfl) (by kernel_rfl) (by kernel_rfl) (fun _ _ _ h => h) (Or.inl ⟨by rfl, ?hy13_8⟩) hHeld ?_
      case hy13_8 => (intro w hSw; (try dsimp only at hSw); go_simp; try with_reducible rfl)
      simp only [Act.put, List.setIfInBounds_toArray, List.set_cons_zero, List.set_cons_succ]
      refine wpAnyH_ready (rs := [9]) (by kernel_rfl) (by simp) ?_
      refine AllReadyH.cons (o := { dst := some 74, op := _, type := _, pos := _, after := _, guard := _ }) rfl (fun K hK => ?_) AllReadyH.nil
      go_simp
      go_at_call 10
      refine (XP0.out _ (by assumption)).mono ?_
      rintro ee0 t0 ⟨rfl, hs0⟩
      refine hK.out _ _ hs0 (fun hHeld => ?_)
      clear hK K
      refine wpAnyH_take (i := 10) (oi := { dst := some 75, op := _, type := _, pos := _, after := _, guard := _ }) (v := ?v13_10) rfl (by kernel_rfl) (by kernel_rfl) (by kernel_rfl) (fun _ _ _ h => h) (Or.inl ⟨by rfl, ?hy13_10⟩) hHeld ?_
      case hy13_10 => (intro w hSw; (try dsimp only at hSw); go_simp; try with_reducible rfl)
      simp only [Act.put, List.setIfInBounds_toArray, List.set_cons_zero, List.set_cons_succ]
      refine wpAnyH_take (i := 11) (oi := { dst := some 76, op := _, type := _, pos := _, after := _, guard := _ }) (v := ?v13_11) rfl (by kernel_rfl) (by kernel_rfl) (by kernel_rfl) (fun _ _ _ h => h) (Or.inl ⟨by rfl, ?hy13_11⟩) hHeld ?_
      case hy13_11 => (intro w hSw; (try dsimp only at hSw); go_simp; try with_reducible rfl)
      simp only [Act.put, List.setIfInBounds_toArray, List.set_cons_zero, List.set_cons_succ]
      refine wpAnyH_take (i := 12) (oi := { dst := some 77, op := _, type := _, pos := _, after := _, guard := _ }) (v := ?v13_12) rfl (by kernel_rfl) (by kernel_rfl) (by kernel_rfl) (fun _ _ _ h => h) (Or.inl ⟨by rfl, ?hy13_12⟩) hHeld ?_
      case hy13_12 => (intro w hSw; (try dsimp only at hSw); go_simp; try with_reducible rfl)
      simp only [Act.put, List.setIfInBounds_toArray, List.set_cons_zero, List.set_cons_succ]
      refine wpAnyH_take (i := 13) (oi := { dst := some 78, op := _, type := _, pos := _, after := _, guard := _ }) (v := undef) rfl (by kernel_rfl) (by kernel_rfl) (by kernel_rfl) (fun _ _ _ h => h) (Or.inr ⟨by rfl, rfl⟩) hHeld ?_
      simp only [Act.put, List.setIfInBounds_toArray, List.set_cons_zero, List.set_cons_succ]
      refine wpAnyH_take (i := 14) (oi := { dst := some 79, op := _, type := _, pos := _, after := _, guard := _ }) (v := undef) rfl (by kernel_rfl) (by kernel_rfl) (by kernel_rfl) (fun _ _ _ h => h) (Or.inr ⟨by rfl, rfl⟩) hHeld ?_
      simp only [Act.put, List.setIfInBounds_toArray, List.set_cons_zero, List.set_cons_succ]
      refine wpAnyH_take (i := 15) (oi := { dst := some 80, op := _, type := _, pos := _, after := _, guard := _ }) (v := undef) rfl (by kernel_rfl) (by kernel_rfl) (by kernel_rfl) (fun _ _ _ h => h) (Or.inr ⟨by rfl, rfl⟩) hHeld ?_
      simp only [Act.put, List.setIfInBounds_toArray, List.set_cons_zero, List.set_cons_succ]
      refine wpAnyH_take (i := 16) (oi := { dst := some 81, op := _, type := _, pos := _, after := _, guard := _ }) (v := undef) rfl (by kernel_rfl) (by kernel_rfl) (by kernel_rfl) (fun _ _ _ h => h) (Or.inr ⟨by rfl, rfl⟩) hHeld ?_
      simp only [Act.put, List.setIfInBounds_toArray, List.set_cons_zero, List.set_cons_succ]
      refine wpAnyH_take (i := 17) (oi := { dst := some 82, op := _, type := _, pos := _, after := _, guard := _ }) (v := undef) rfl (by kernel_rfl) (by kernel_rfl) (by kernel_rfl) (fun _ _ _ h => h) (Or.inr ⟨by rfl, rfl⟩) hHeld ?_
      simp only [Act.put, List.setIfInBounds_toArray, List.set_cons_zero, List.set_cons_succ]
      refine wpAnyH_take (i := 18) (oi := { dst := some 83, op := _, type := _, pos := _, after := _, guard := _ }) (v := undef) rfl (by kernel_rfl) (by kernel_rfl) (by kernel_rfl) (fun _ _ _ h => h) (Or.inr ⟨by rfl, rfl⟩) hHeld ?_
      simp only [Act.put, List.setIfInBounds_toArray, List.set_cons_zero, List.set_cons_succ]
      refine wpAnyH_take (i := 19) (oi := { dst := some 84, op := _, type := _, pos := _, after := _, guard := _ }) (v := undef) rfl (by kernel_rfl) (by kernel_rfl) (by kernel_rfl) (fun _ _ _ h => h) (Or.inr ⟨by rfl, rfl⟩) hHeld ?_
      simp only [Act.put, List.setIfInBounds_toArray, List.set_cons_zero, List.set_cons_succ]
      refine wpAnyH_take (i := 20) (oi := { dst := some 85, op := _, type := _, pos := _, after := _, guard := _ }) (v := ?v13_20) rfl (by kernel_rfl) (by kernel_rfl) (by kernel_rfl) (fun _ _ _ h => h) (Or.inl ⟨by rfl, ?hy13_20⟩) hHeld ?_
      case hy13_20 => (intro w hSw; (try dsimp only at hSw); go_simp; try with_reducible rfl)
      simp only [Act.put, List.setIfInBounds_toArray, List.set_cons_zero, List.set_cons_succ]
      refine wpAnyH_take (i := 21) (oi := { dst := some 6, op := _, type := _, pos := _, after := _, guard := _ }) (v := ?v13_21) rfl (by kernel_rfl) (by kernel_rfl) (by kernel_rfl) (fun _ _ _ h => h) (Or.inl ⟨by rfl, ?hy13_21⟩) hHeld ?_
      case hy13_21 => (intro w hSw; (try dsimp only at hSw); go_simp; try with_reducible rfl)
      simp only [Act.put, List.setIfInBounds_toArray, List.set_cons_zero, List.set_cons_succ]
      refine wpAnyH_done (by kernel_rfl) ?_ _
      go_wp2_with fail
      go_ret
      exact ⟨rfl, below_on B4.out hs0.2.2.2.2.2.2.2.2.2.2.2.2⟩
set_option maxHeartbeats 4000000 in
set_option maxRecDepth 100000 in
theorem l20t_u (M : PP) (a1 a2 a3 b1 b2 b3 c1 c2 c3 : Int) (a4 b4 c4 : ByteArray) (W : World) (p1 p2 p3 : Bool) (e1 : (a3 == b3) = p1) (e2 : (a1 == b1) = p2) (e3 : (a2 == b2) = p3)
    (hw : (p1 = false) ∨ (p1 = true ∧ p2 = false) ∨ (p1 = true ∧ p2 = true ∧ p3 = false))
    (HX : ∀ u, Calls Try.prog 10 #[cdv (⟨a1, a2, a3, a4⟩ : Cd), cdv (⟨b1, b2, b3, b4⟩ : Cd)] u fun e w' => e = .returned (.bool true) ∧ Below u.heap.size u w')
    (HY : ∀ u, Calls Try.prog 10 #[cdv (⟨b1, b2, b3, b4⟩ : Cd), cdv (⟨a1, a2, a3, a4⟩ : Cd)] u fun e w' => e = .returned (.bool false) ∧ Below u.heap.size u w')
    (HZ : ∀ u, Calls Try.prog 10 #[cdv (⟨b1, b2, b3, b4⟩ : Cd), cdv (⟨c1, c2, c3, c4⟩ : Cd)] u fun e w' => e = .returned (.bool true) ∧ Below u.heap.size u w')
    (HU : ∀ u, Calls Try.prog 10 #[cdv (⟨a1, a2, a3, a4⟩ : Cd), cdv (⟨c1, c2, c3, c4⟩ : Cd)] u fun e w' => e = .returned (.bool true) ∧ Below u.heap.size u w')
    : Calls Try.prog 4 #[cdv (⟨a1, a2, a3, a4⟩ : Cd), cdv (⟨b1, b2, b3, b4⟩ : Cd), cdv (⟨c1, c2, c3, c4⟩ : Cd)] W fun e w' => e = .returned (.bool true) ∧ Below W.heap.size W w' := by
  · skip
    have HA := Lib.hid (fun u => c20awake_any M u)
    have HF := Lib.hid (fun v l u h1 h2 => fwd_any v l u h1 h2)
    clear M
    have RA := Lib.hid (row_al (row_al (heap_alloc_new W (Obj.cells #[.int .i64 a1, .int .i64 a2, .int .i64 a3, .string a4] 24)) (Obj.cells #[.int .i64 b1, .int .i64 b2, .int .i64 b3, .string b4] 24)) (Obj.cells #[.int .i64 c1, .int .i64 c2, .int .i64 c3, .string c4] 24))
    have RB := Lib.hid (row_al (row_new1 W (Obj.cells #[.int .i64 a1, .int .i64 a2, .int .i64 a3, .string a4] 24) (Obj.cells #[.int .i64 b1, .int .i64 b2, .int .i64 b3, .string b4] 24)) (Obj.cells #[.int .i64 c1, .int .i64 c2, .int .i64 c3, .string c4] 24))
    have RC := Lib.hid (rw_new2 W (Obj.cells #[.int .i64 a1, .int .i64 a2, .int .i64 a3, .string a4] 24) (Obj.cells #[.int .i64 b1, .int .i64 b2, .int .i64 b3, .string b4] 24) (Obj.cells #[.int .i64 c1, .int .i64 c2, .int .i64 c3, .string c4] 24))
    have B0 : Hid (Below W.heap.size W (((W.alloc (Obj.cells #[.int .i64 a1, .int .i64 a2, .int .i64 a3, .string a4] 24)).alloc (Obj.cells #[.int .i64 b1, .int .i64 b2, .int .i64 b3, .string b4] 24)).alloc (Obj.cells #[.int .i64 c1, .int .i64 c2, .int .i64 c3, .string c4] 24))) := Lib.hid ((((Below.refl _ _).alloc (Nat.le_refl _) _).alloc (by simp) _).alloc (by simp; omega) _)
    go_enter Try.func4, Try.ntmps4
    go_wp2_with fail
    refine (HA.out _).mono ?_
    rintro e w1 ⟨rfl, hb1⟩
    have B1 := Lib.hid (below_on B0.out hb1)
    have RA1 := Lib.hid (row_on RA.out hb1)
    have RB1 := Lib.hid (row_on RB.out hb1)
    have RC1 := Lib.hid (row_on RC.out hb1)
    clear hb1 RA RB RC B0
    obtain ⟨x0, x1, x2, x3⟩ := row_cd RA1.out
    obtain ⟨y0, y1, y2, y3⟩ := row_cd RB1.out
    obtain ⟨z0, z1, z2, z3⟩ := row_cd RC1.out
    go_wp2_with fail
    have RL := Lib.hid (heap_alloc_new w1 (Obj.cells #[.int .i64 a1, .int .i64 a2, .int .i64 a3, .string a4, .int .i64 b1, .int .i64 b2, .int .i64 b3, .string b4, .int .i64 c1, .int .i64 c2, .int .i64 c3, .string c4] 24))
    refine (HF.out _ _ _ (by simp) (cs_three (x := (⟨a1, a2, a3, a4⟩ : Cd)) (y := (⟨b1, b2, b3, b4⟩ : Cd)) (z := (⟨c1, c2, c3, c4⟩ : Cd)) RL.out)).mono ?_
    rintro e w2 ⟨v, rfl, hv, hb2⟩
    obtain ⟨A, cap, hA, hc1, hc2, hit⟩ := hv.cs
    obtain ⟨g, q, rfl, i0⟩ := hit 0 _ rfl
    obtain ⟨g1, s1, f1, i1⟩ := hit 1 _ rfl
    obtain ⟨g2, s2, f2, i2⟩ := hit 2 _ rfl
    obtain ⟨rfl, rfl⟩ : g = g1 ∧ q = s1 := by cases f1; exact ⟨rfl, rfl⟩
    obtain ⟨rfl, rfl⟩ : g = g2 ∧ q = s2 := by cases f2; exact ⟨rfl, rfl⟩
    subst hA
    have B2 := Lib.hid (below_on (B1.out.alloc B1.out.size _) hb2)
    have RA2 := Lib.hid (row_on (row_al RA1.out _) hb2)
    have RB2 := Lib.hid (row_on (row_al RB1.out _) hb2)
    clear hb2 hv hit f1 f2 RL RA1 RB1 RC1 B1 x0 x1 x2 x3 y0 y1 y2 y3 z0 z1 z2 z3 hc1 hc2
    obtain ⟨q0, q1, q2, q3⟩ := i0
    obtain ⟨q4, q5, q6, q7⟩ := i1
    obtain ⟨q8, q9, q10, q11⟩ := i2
    have Hs := Lib.hid (show w2.drew.cell? ⟨g, q, none⟩ = some (.int .i64 a1) ∧ w2.drew.cell? ⟨g, q + 1, none⟩ = some (.int .i64 a2) ∧ w2.drew.cell? ⟨g, q + 2, none⟩ = some (.int .i64 a3) ∧ w2.drew.cell? ⟨g, q + 3, none⟩ = some (.string a4) ∧ w2.drew.cell? ⟨g, q + 4, none⟩ = some (.int .i64 b1) ∧ w2.drew.cell? ⟨g, q + 5, none⟩ = some (.int .i64 b2) ∧ w2.drew.cell? ⟨g, q + 6, none⟩ = some (.int .i64 b3) ∧ w2.drew.cell? ⟨g, q + 7, none⟩ = some (.string b4) ∧ w2.drew.cell? ⟨g, q + 8, none⟩ = some (.int .i64 c1) ∧ w2.drew.cell? ⟨g, q + 9, none⟩ = some (.int .i64 c2) ∧ w2.drew.cell? ⟨g, q + 10, none⟩ = some (.int .i64 c3) ∧ w2.drew.cell? ⟨g, q + 11, none⟩ = some (.string c4) ∧ Below w2.heap.size w2 w2.drew from ⟨q0, q1, q2, q3, q4, q5, q6, q7, q8, q9, q10, q11, below_dn (Below.refl _ _) 1⟩)
    have XP0 := Lib.hid (fun u (hu : u.cell? ⟨g, q, none⟩ = some (.int .i64 a1) ∧ u.cell? ⟨g, q + 1, none⟩ = some (.int .i64 a2) ∧ u.cell? ⟨g, q + 2, none⟩ = some (.int .i64 a3) ∧ u.cell? ⟨g, q + 3, none⟩ = some (.string a4) ∧ u.cell? ⟨g, q + 4, none⟩ = some (.int .i64 b1) ∧ u.cell? ⟨g, q + 5, none⟩ = some (.int .i64 b2) ∧ u.cell? ⟨g, q + 6, none⟩ = some (.int .i64 b3) ∧ u.cell? ⟨g, q + 7, none⟩ = some (.string b4) ∧ u.cell? ⟨g, q + 8, none⟩ = some (.int .i64 c1) ∧ u.cell? ⟨g, q + 9, none⟩ = some (.int .i64 c2) ∧ u.cell? ⟨g, q + 10, none⟩ = some (.int .i64 c3) ∧ u.cell? ⟨g, q + 11, none⟩ = some (.string c4) ∧ Below w2.heap.size w2 u) => (HX u).mono (R' := fun e u' => e = .returned (.bool true) ∧ (u'.cell? ⟨g, q, none⟩ = some (.int .i64 a1) ∧ u'.cell? ⟨g, q + 1, none⟩ = some (.int .i64 a2) ∧ u'.cell? ⟨g, q + 2, none⟩ = some (.int .i64 a3) ∧ u'.cell? ⟨g, q + 3, none⟩ = some (.string a4) ∧ u'.cell? ⟨g, q + 4, none⟩ = some (.int .i64 b1) ∧ u'.cell? ⟨g, q + 5, none⟩ = some (.int .i64 b2) ∧ u'.cell? ⟨g, q + 6, none⟩ = some (.int .i64 b3) ∧ u'.cell? ⟨g, q + 7, none⟩ = some (.string b4) ∧ u'.cell? ⟨g, q + 8, none⟩ = some (.int .i64 c1) ∧ u'.cell? ⟨g, q + 9, none⟩ = some (.int .i64 c2) ∧ u'.cell? ⟨g, q + 10, none⟩ = some (.int .i64 c3) ∧ u'.cell? ⟨g, q + 11, none⟩ = some (.string c4) ∧ Below w2.heap.size w2 u')) fun e u' ⟨he, hq⟩ => ⟨he, ⟨cell_below hu.1 hq, cell_below hu.2.1 hq, cell_below hu.2.2.1 hq, cell_below hu.2.2.2.1 hq, cell_below hu.2.2.2.2.1 hq, cell_below hu.2.2.2.2.2.1 hq, cell_below hu.2.2.2.2.2.2.1 hq, cell_below hu.2.2.2.2.2.2.2.1 hq, cell_below hu.2.2.2.2.2.2.2.2.1 hq, cell_below hu.2.2.2.2.2.2.2.2.2.1 hq, cell_below hu.2.2.2.2.2.2.2.2.2.2.1 hq, cell_below hu.2.2.2.2.2.2.2.2.2.2.2.1 hq, below_on hu.2.2.2.2.2.2.2.2.2.2.2.2 hq⟩⟩)
    go_wp2_with fail
    refine wp_region_held_drew (S := fun u => u.cell? ⟨g, q, none⟩ = some (.int .i64 a1) ∧ u.cell? ⟨g, q + 1, none⟩ = some (.int .i64 a2) ∧ u.cell? ⟨g, q + 2, none⟩ = some (.int .i64 a3) ∧ u.cell? ⟨g, q + 3, none⟩ = some (.string a4) ∧ u.cell? ⟨g, q + 4, none⟩ = some (.int .i64 b1) ∧ u.cell? ⟨g, q + 5, none⟩ = some (.int .i64 b2) ∧ u.cell? ⟨g, q + 6, none⟩ = some (.int .i64 b3) ∧ u.cell? ⟨g, q + 7, none⟩ = some (.string b4) ∧ u.cell? ⟨g, q + 8, none⟩ = some (.int .i64 c1) ∧ u.cell? ⟨g, q + 9, none⟩ = some (.int .i64 c2) ∧ u.cell? ⟨g, q + 10, none⟩ = some (.int .i64 c3) ∧ u.cell? ⟨g, q + 11, none⟩ = some (.string c4) ∧ Below w2.heap.size w2 u) (by kernel_rfl) Hs.out (fun hHeld => ?_)
    refine wpAnyH_take (i := 0) (oi := { dst := some 18, op := _, type := _, pos := _, after := _, guard := _ }) (v := ?v14_0) rfl (by kernel_rfl) (by kernel_rfl) (by kernel_rfl) (fun _ _ _ h => h) (Or.inl ⟨by rfl, ?hy14_0⟩) hHeld ?_
    case hy14_0 => (intro w hSw; (try dsimp only at hSw); go_simp; try with_reducible rfl)
    simp only [Act.put, List.setIfInBounds_toArray, List.set_cons_zero, List.set_cons_succ]
    refine wpAnyH_take (i := 1) (oi := { dst := some 19, op := _, type := _, pos := _, after := _, guard := _ }) (v := ?v14_1) rfl (by kernel_rfl) (by kernel_rfl) (by kernel_rfl) (fun _ _ _ h => h) (Or.inl ⟨by rfl, ?hy14_1⟩) hHeld ?_
    case hy14_1 => (intro w hSw; (try dsimp only at hSw); go_simp; try with_reducible rfl)
    simp only [Act.put, List.setIfInBounds_toArray, List.set_cons_zero, List.set_cons_succ]
    refine wpAnyH_take (i := 2) (oi := { dst := some 20, op := _, type := _, pos := _, after := _, guard := _ }) (v := ?v14_2) rfl (by kernel_rfl) (by kernel_rfl) (by kernel_rfl) (fun _ _ _ h => h) (Or.inl ⟨by rfl, ?hy14_2⟩) hHeld ?_
    case hy14_2 => (intro w hSw; (try dsimp only at hSw); go_simp; try with_reducible rfl)
    simp only [Act.put, List.setIfInBounds_toArray, List.set_cons_zero, List.set_cons_succ]
    refine wpAnyH_take (i := 3) (oi := { dst := some 21, op := _, type := _, pos := _, after := _, guard := _ }) (v := ?v14_3) rfl (by kernel_rfl) (by kernel_rfl) (by kernel_rfl) (fun _ _ _ h => h) (Or.inl ⟨by rfl, ?hy14_3⟩) hHeld ?_
    case hy14_3 => (intro w hSw; (try dsimp only at hSw); go_simp; try with_reducible rfl)
    simp only [Act.put, List.setIfInBounds_toArray, List.set_cons_zero, List.set_cons_succ]
    refine wpAnyH_take (i := 4) (oi := { dst := some 22, op := _, type := _, pos := _, after := _, guard := _ }) (v := ?v14_4) rfl (by kernel_rfl) (by kernel_rfl) (by kernel_rfl) (fun _ _ _ h => h) (Or.inl ⟨by rfl, ?hy14_4⟩) hHeld ?_
    case hy14_4 => (intro w hSw; (try dsimp only at hSw); go_simp; try with_reducible rfl)
    simp only [Act.put, List.setIfInBounds_toArray, List.set_cons_zero, List.set_cons_succ]
    refine wpAnyH_take (i := 5) (oi := { dst := some 23, op := _, type := _, pos := _, after := _, guard := _ }) (v := ?v14_5) rfl (by kernel_rfl) (by kernel_rfl) (by kernel_rfl) (fun _ _ _ h => h) (Or.inl ⟨by rfl, ?hy14_5⟩) hHeld ?_
    case hy14_5 => (intro w hSw; (try dsimp only at hSw); go_simp; try with_reducible rfl)
    simp only [Act.put, List.setIfInBounds_toArray, List.set_cons_zero, List.set_cons_succ]
    refine wpAnyH_ready (rs := [6]) (by kernel_rfl) (by simp) ?_
    refine AllReadyH.cons (o := { dst := some 24, op := _, type := _, pos := _, after := _, guard := _ }) rfl (fun K hK => ?_) AllReadyH.nil
    go_simp
    go_at_call 10
    refine (XP0.out _ (by assumption)).mono ?_
    rintro ee0 u0 ⟨rfl, hs0⟩
    refine hK.out _ _ hs0 (fun hHeld => ?_)
    clear hK K
    refine wpAnyH_take (i := 7) (oi := { dst := some 8, op := _, type := _, pos := _, after := _, guard := _ }) (v := ?v14_7) rfl (by kernel_rfl) (by kernel_rfl) (by kernel_rfl) (fun _ _ _ h => h) (Or.inl ⟨by rfl, ?hy14_7⟩) hHeld ?_
    case hy14_7 => (intro w hSw; (try dsimp only at hSw); go_simp; try with_reducible rfl)
    simp only [Act.put, List.setIfInBounds_toArray, List.set_cons_zero, List.set_cons_succ]
    refine wpAnyH_done (by kernel_rfl) ?_ _
    have B3 := Lib.hid (below_on B2.out hs0.2.2.2.2.2.2.2.2.2.2.2.2)
    have RA3 := Lib.hid (row_on RA2.out hs0.2.2.2.2.2.2.2.2.2.2.2.2)
    have RB3 := Lib.hid (row_on RB2.out hs0.2.2.2.2.2.2.2.2.2.2.2.2)
    clear q0 q1 q2 q3 q4 q5 q6 q7 q8 q9 q10 q11 Hs XP0 RA2 RB2 B2
    obtain ⟨q0, q1, q2, q3, q4, q5, q6, q7, q8, q9, q10, q11, _⟩ := hs0
    have Hs := Lib.hid (show u0.drew.cell? ⟨g, q, none⟩ = some (.int .i64 a1) ∧ u0.drew.cell? ⟨g, q + 1, none⟩ = some (.int .i64 a2) ∧ u0.drew.cell? ⟨g, q + 2, none⟩ = some (.int .i64 a3) ∧ u0.drew.cell? ⟨g, q + 3, none⟩ = some (.string a4) ∧ u0.drew.cell? ⟨g, q + 4, none⟩ = some (.int .i64 b1) ∧ u0.drew.cell? ⟨g, q + 5, none⟩ = some (.int .i64 b2) ∧ u0.drew.cell? ⟨g, q + 6, none⟩ = some (.int .i64 b3) ∧ u0.drew.cell? ⟨g, q + 7, none⟩ = some (.string b4) ∧ u0.drew.cell? ⟨g, q + 8, none⟩ = some (.int .i64 c1) ∧ u0.drew.cell? ⟨g, q + 9, none⟩ = some (.int .i64 c2) ∧ u0.drew.cell? ⟨g, q + 10, none⟩ = some (.int .i64 c3) ∧ u0.drew.cell? ⟨g, q + 11, none⟩ = some (.string c4) ∧ Below u0.heap.size u0 u0.drew from ⟨q0, q1, q2, q3, q4, q5, q6, q7, q8, q9, q10, q11, below_dn (Below.refl _ _) 1⟩)
    have XP0 := Lib.hid (fun u (hu : u.cell? ⟨g, q, none⟩ = some (.int .i64 a1) ∧ u.cell? ⟨g, q + 1, none⟩ = some (.int .i64 a2) ∧ u.cell? ⟨g, q + 2, none⟩ = some (.int .i64 a3) ∧ u.cell? ⟨g, q + 3, none⟩ = some (.string a4) ∧ u.cell? ⟨g, q + 4, none⟩ = some (.int .i64 b1) ∧ u.cell? ⟨g, q + 5, none⟩ = some (.int .i64 b2) ∧ u.cell? ⟨g, q + 6, none⟩ = some (.int .i64 b3) ∧ u.cell? ⟨g, q + 7, none⟩ = some (.string b4) ∧ u.cell? ⟨g, q + 8, none⟩ = some (.int .i64 c1) ∧ u.cell? ⟨g, q + 9, none⟩ = some (.int .i64 c2) ∧ u.cell? ⟨g, q + 10, none⟩ = some (.int .i64 c3) ∧ u.cell? ⟨g, q + 11, none⟩ = some (.string c4) ∧ Below u0.heap.size u0 u) => (HY u).mono (R' := fun e u' => e = .returned (.bool false) ∧ (u'.cell? ⟨g, q, none⟩ = some (.int .i64 a1) ∧ u'.cell? ⟨g, q + 1, none⟩ = some (.int .i64 a2) ∧ u'.cell? ⟨g, q + 2, none⟩ = some (.int .i64 a3) ∧ u'.cell? ⟨g, q + 3, none⟩ = some (.string a4) ∧ u'.cell? ⟨g, q + 4, none⟩ = some (.int .i64 b1) ∧ u'.cell? ⟨g, q + 5, none⟩ = some (.int .i64 b2) ∧ u'.cell? ⟨g, q + 6, none⟩ = some (.int .i64 b3) ∧ u'.cell? ⟨g, q + 7, none⟩ = some (.string b4) ∧ u'.cell? ⟨g, q + 8, none⟩ = some (.int .i64 c1) ∧ u'.cell? ⟨g, q + 9, none⟩ = some (.int .i64 c2) ∧ u'.cell? ⟨g, q + 10, none⟩ = some (.int .i64 c3) ∧ u'.cell? ⟨g, q + 11, none⟩ = some (.string c4) ∧ Below u0.heap.size u0 u')) fun e u' ⟨he, hq⟩ => ⟨he, ⟨cell_below hu.1 hq, cell_below hu.2.1 hq, cell_below hu.2.2.1 hq, cell_below hu.2.2.2.1 hq, cell_below hu.2.2.2.2.1 hq, cell_below hu.2.2.2.2.2.1 hq, cell_below hu.2.2.2.2.2.2.1 hq, cell_below hu.2.2.2.2.2.2.2.1 hq, cell_below hu.2.2.2.2.2.2.2.2.1 hq, cell_below hu.2.2.2.2.2.2.2.2.2.1 hq, cell_below hu.2.2.2.2.2.2.2.2.2.2.1 hq, cell_below hu.2.2.2.2.2.2.2.2.2.2.2.1 hq, below_on hu.2.2.2.2.2.2.2.2.2.2.2.2 hq⟩⟩)
    go_wp2_with fail
    refine wp_region_held_drew (S := fun u => u.cell? ⟨g, q, none⟩ = some (.int .i64 a1) ∧ u.cell? ⟨g, q + 1, none⟩ = some (.int .i64 a2) ∧ u.cell? ⟨g, q + 2, none⟩ = some (.int .i64 a3) ∧ u.cell? ⟨g, q + 3, none⟩ = some (.string a4) ∧ u.cell? ⟨g, q + 4, none⟩ = some (.int .i64 b1) ∧ u.cell? ⟨g, q + 5, none⟩ = some (.int .i64 b2) ∧ u.cell? ⟨g, q + 6, none⟩ = some (.int .i64 b3) ∧ u.cell? ⟨g, q + 7, none⟩ = some (.string b4) ∧ u.cell? ⟨g, q + 8, none⟩ = some (.int .i64 c1) ∧ u.cell? ⟨g, q + 9, none⟩ = some (.int .i64 c2) ∧ u.cell? ⟨g, q + 10, none⟩ = some (.int .i64 c3) ∧ u.cell? ⟨g, q + 11, none⟩ = some (.string c4) ∧ Below u0.heap.size u0 u) (by kernel_rfl) Hs.out (fun hHeld => ?_)
    refine wpAnyH_take (i := 0) (oi := { dst := some 25, op := _, type := _, pos := _, after := _, guard := _ }) (v := ?v15_0) rfl (by kernel_rfl) (by kernel_rfl) (by kernel_rfl) (fun _ _ _ h => h) (Or.inl ⟨by rfl, ?hy15_0⟩) hHeld ?_
    case hy15_0 => (intro w hSw; (try dsimp only at hSw); go_simp; try with_reducible rfl)
    simp only [Act.put, List.setIfInBounds_toArray, List.set_cons_zero, List.set_cons_succ]
    refine wpAnyH_take (i := 1) (oi := { dst := some 26, op := _, type := _, pos := _, after := _, guard := _ }) (v := ?v15_1) rfl (by kernel_rfl) (by kernel_rfl) (by kernel_rfl) (fun _ _ _ h => h) (Or.inl ⟨by rfl, ?hy15_1⟩) hHeld ?_
    case hy15_1 => (intro w hSw; (try dsimp only at hSw); go_simp; try with_reducible rfl)
    simp only [Act.put, List.setIfInBounds_toArray, List.set_cons_zero, List.set_cons_succ]
    refine wpAnyH_take (i := 2) (oi := { dst := some 27, op := _, type := _, pos := _, after := _, guard := _ }) (v := ?v15_2) rfl (by kernel_rfl) (by kernel_rfl) (by kernel_rfl) (fun _ _ _ h => h) (Or.inl ⟨by rfl, ?hy15_2⟩) hHeld ?_
    case hy15_2 => (intro w hSw; (try dsimp only at hSw); go_simp; try with_reducible rfl)
    simp only [Act.put, List.setIfInBounds_toArray, List.set_cons_zero, List.set_cons_succ]
    refine wpAnyH_take (i := 3) (oi := { dst := some 28, op := _, type := _, pos := _, after := _, guard := _ }) (v := ?v15_3) rfl (by kernel_rfl) (by kernel_rfl) (by kernel_rfl) (fun _ _ _ h => h) (Or.inl ⟨by rfl, ?hy15_3⟩) hHeld ?_
    case hy15_3 => (intro w hSw; (try dsimp only at hSw); go_simp; try with_reducible rfl)
    simp only [Act.put, List.setIfInBounds_toArray, List.set_cons_zero, List.set_cons_succ]
    refine wpAnyH_take (i := 4) (oi := { dst := some 29, op := _, type := _, pos := _, after := _, guard := _ }) (v := ?v15_4) rfl (by kernel_rfl) (by kernel_rfl) (by kernel_rfl) (fun _ _ _ h => h) (Or.inl ⟨by rfl, ?hy15_4⟩) hHeld ?_
    case hy15_4 => (intro w hSw; (try dsimp only at hSw); go_simp; try with_reducible rfl)
    simp only [Act.put, List.setIfInBounds_toArray, List.set_cons_zero, List.set_cons_succ]
    refine wpAnyH_take (i := 5) (oi := { dst := some 30, op := _, type := _, pos := _, after := _, guard := _ }) (v := ?v15_5) rfl (by kernel_rfl) (by kernel_rfl) (by kernel_rfl) (fun _ _ _ h => h) (Or.inl ⟨by rfl, ?hy15_5⟩) hHeld ?_
    case hy15_5 => (intro w hSw; (try dsimp only at hSw); go_simp; try with_reducible rfl)
    simp only [Act.put, List.setIfInBounds_toArray, List.set_cons_zero, List.set_cons_succ]
    refine wpAnyH_ready (rs := [6]) (by kernel_rfl) (by simp) ?_
    refine AllReadyH.cons (o := { dst := some 31, op := _, type := _, pos := _, after := _, guard := _ }) rfl (fun K hK => ?_) AllReadyH.nil
    go_simp
    go_at_call 10
    refine (XP0.out _ (by assumption)).mono ?_
    rintro ee0 v0 ⟨rfl, hs0⟩
    refine hK.out _ _ hs0 (fun hHeld => ?_)
    clear hK K
    refine wpAnyH_take (i := 7) (oi := { dst := some 9, op := _, type := _, pos := _, after := _, guard := _ }) (v := ?v15_7) rfl (by kernel_rfl) (by kernel_rfl) (by kernel_rfl) (fun _ _ _ h => h) (Or.inl ⟨by rfl, ?hy15_7⟩) hHeld ?_
    case hy15_7 => (intro w hSw; (try dsimp only at hSw); go_simp; try with_reducible rfl)
    simp only [Act.put, List.setIfInBounds_toArray, List.set_cons_zero, List.set_cons_succ]
    refine wpAnyH_done (by kernel_rfl) ?_ _
    have B4 := Lib.hid (below_on B3.out hs0.2.2.2.2.2.2.2.2.2.2.2.2)
    have RA4 := Lib.hid (row_on RA3.out hs0.2.2.2.2.2.2.2.2.2.2.2.2)
    have RB4 := Lib.hid (row_on RB3.out hs0.2.2.2.2.2.2.2.2.2.2.2.2)
    clear q0 q1 q2 q3 q4 q5 q6 q7 q8 q9 q10 q11 Hs XP0 RA3 RB3 B3
    obtain ⟨q0, q1, q2, q3, q4, q5, q6, q7, q8, q9, q10, q11, _⟩ := hs0
    obtain ⟨x0, x1, x2, x3⟩ := row_cd RA4.out
    obtain ⟨y0, y1, y2, y3⟩ := row_cd RB4.out
    rcases hw with rfl | ⟨rfl, rfl⟩ | ⟨rfl, rfl, rfl⟩
    · skip
      have Hs := Lib.hid (show v0.drew.cell? ⟨g, q, none⟩ = some (.int .i64 a1) ∧ v0.drew.cell? ⟨g, q + 1, none⟩ = some (.int .i64 a2) ∧ v0.drew.cell? ⟨g, q + 2, none⟩ = some (.int .i64 a3) ∧ v0.drew.cell? ⟨g, q + 3, none⟩ = some (.string a4) ∧ v0.drew.cell? ⟨g, q + 4, none⟩ = some (.int .i64 b1) ∧ v0.drew.cell? ⟨g, q + 5, none⟩ = some (.int .i64 b2) ∧ v0.drew.cell? ⟨g, q + 6, none⟩ = some (.int .i64 b3) ∧ v0.drew.cell? ⟨g, q + 7, none⟩ = some (.string b4) ∧ v0.drew.cell? ⟨g, q + 8, none⟩ = some (.int .i64 c1) ∧ v0.drew.cell? ⟨g, q + 9, none⟩ = some (.int .i64 c2) ∧ v0.drew.cell? ⟨g, q + 10, none⟩ = some (.int .i64 c3) ∧ v0.drew.cell? ⟨g, q + 11, none⟩ = some (.string c4) ∧ Below v0.heap.size v0 v0.drew from ⟨q0, q1, q2, q3, q4, q5, q6, q7, q8, q9, q10, q11, below_dn (Below.refl _ _) 1⟩)
      have XP0 := Lib.hid (fun u (hu : u.cell? ⟨g, q, none⟩ = some (.int .i64 a1) ∧ u.cell? ⟨g, q + 1, none⟩ = some (.int .i64 a2) ∧ u.cell? ⟨g, q + 2, none⟩ = some (.int .i64 a3) ∧ u.cell? ⟨g, q + 3, none⟩ = some (.string a4) ∧ u.cell? ⟨g, q + 4, none⟩ = some (.int .i64 b1) ∧ u.cell? ⟨g, q + 5, none⟩ = some (.int .i64 b2) ∧ u.cell? ⟨g, q + 6, none⟩ = some (.int .i64 b3) ∧ u.cell? ⟨g, q + 7, none⟩ = some (.string b4) ∧ u.cell? ⟨g, q + 8, none⟩ = some (.int .i64 c1) ∧ u.cell? ⟨g, q + 9, none⟩ = some (.int .i64 c2) ∧ u.cell? ⟨g, q + 10, none⟩ = some (.int .i64 c3) ∧ u.cell? ⟨g, q + 11, none⟩ = some (.string c4) ∧ Below v0.heap.size v0 u) => (HZ u).mono (R' := fun e u' => e = .returned (.bool true) ∧ (u'.cell? ⟨g, q, none⟩ = some (.int .i64 a1) ∧ u'.cell? ⟨g, q + 1, none⟩ = some (.int .i64 a2) ∧ u'.cell? ⟨g, q + 2, none⟩ = some (.int .i64 a3) ∧ u'.cell? ⟨g, q + 3, none⟩ = some (.string a4) ∧ u'.cell? ⟨g, q + 4, none⟩ = some (.int .i64 b1) ∧ u'.cell? ⟨g, q + 5, none⟩ = some (.int .i64 b2) ∧ u'.cell? ⟨g, q + 6, none⟩ = some (.int .i64 b3) ∧ u'.cell? ⟨g, q + 7, none⟩ = some (.string b4) ∧ u'.cell? ⟨g, q + 8, none⟩ = some (.int .i64 c1) ∧ u'.cell? ⟨g, q + 9, none⟩ = some (.int .i64 c2) ∧ u'.cell? ⟨g, q + 10, none⟩ = some (.int .i64 c3) ∧ u'.cell? ⟨g, q + 11, none⟩ = some (.string c4) ∧ Below v0.heap.size v0 u')) fun e u' ⟨he, hq⟩ => ⟨he, ⟨cell_below hu.1 hq, cell_below hu.2.1 hq, cell_below hu.2.2.1 hq, cell_below hu.2.2.2.1 hq, cell_below hu.2.2.2.2.1 hq, cell_below hu.2.2.2.2.2.1 hq, cell_below hu.2.2.2.2.2.2.1 hq, cell_below hu.2.2.2.2.2.2.2.1 hq, cell_below hu.2.2.2.2.2.2.2.2.1 hq, cell_below hu.2.2.2.2.2.2.2.2.2.1 hq, cell_below hu.2.2.2.2.2.2.2.2.2.2.1 hq, cell_below hu.2.2.2.2.2.2.2.2.2.2.2.1 hq, below_on hu.2.2.2.2.2.2.2.2.2.2.2.2 hq⟩⟩)
      have XP1 := Lib.hid (fun u (hu : u.cell? ⟨g, q, none⟩ = some (.int .i64 a1) ∧ u.cell? ⟨g, q + 1, none⟩ = some (.int .i64 a2) ∧ u.cell? ⟨g, q + 2, none⟩ = some (.int .i64 a3) ∧ u.cell? ⟨g, q + 3, none⟩ = some (.string a4) ∧ u.cell? ⟨g, q + 4, none⟩ = some (.int .i64 b1) ∧ u.cell? ⟨g, q + 5, none⟩ = some (.int .i64 b2) ∧ u.cell? ⟨g, q + 6, none⟩ = some (.int .i64 b3) ∧ u.cell? ⟨g, q + 7, none⟩ = some (.string b4) ∧ u.cell? ⟨g, q + 8, none⟩ = some (.int .i64 c1) ∧ u.cell? ⟨g, q + 9, none⟩ = some (.int .i64 c2) ∧ u.cell? ⟨g, q + 10, none⟩ = some (.int .i64 c3) ∧ u.cell? ⟨g, q + 11, none⟩ = some (.string c4) ∧ Below v0.heap.size v0 u) => (HU u).mono (R' := fun e u' => e = .returned (.bool true) ∧ (u'.cell? ⟨g, q, none⟩ = some (.int .i64 a1) ∧ u'.cell? ⟨g, q + 1, none⟩ = some (.int .i64 a2) ∧ u'.cell? ⟨g, q + 2, none⟩ = some (.int .i64 a3) ∧ u'.cell? ⟨g, q + 3, none⟩ = some (.string a4) ∧ u'.cell? ⟨g, q + 4, none⟩ = some (.int .i64 b1) ∧ u'.cell? ⟨g, q + 5, none⟩ = some (.int .i64 b2) ∧ u'.cell? ⟨g, q + 6, none⟩ = some (.int .i64 b3) ∧ u'.cell? ⟨g, q + 7, none⟩ = some (.string b4) ∧ u'.cell? ⟨g, q + 8, none⟩ = some (.int .i64 c1) ∧ u'.cell? ⟨g, q + 9, none⟩ = some (.int .i64 c2) ∧ u'.cell? ⟨g, q + 10, none⟩ = some (.int .i64 c3) ∧ u'.cell? ⟨g, q + 11, none⟩ = some (.string c4) ∧ Below v0.heap.size v0 u')) fun e u' ⟨he, hq⟩ => ⟨he, ⟨cell_below hu.1 hq, cell_below hu.2.1 hq, cell_below hu.2.2.1 hq, cell_below hu.2.2.2.1 hq, cell_below hu.2.2.2.2.1 hq, cell_below hu.2.2.2.2.2.1 hq, cell_below hu.2.2.2.2.2.2.1 hq, cell_below hu.2.2.2.2.2.2.2.1 hq, cell_below hu.2.2.2.2.2.2.2.2.1 hq, cell_below hu.2.2.2.2.2.2.2.2.2.1 hq, cell_below hu.2.2.2.2.2.2.2.2.2.2.1 hq, cell_below hu.2.2.2.2.2.2.2.2.2.2.2.1 hq, below_on hu.2.2.2.2.2.2.2.2.2.2.2.2 hq⟩⟩)
      go_wp2_with fail
      refine wp_region_held_drew (S := fun u => u.cell? ⟨g, q, none⟩ = some (.int .i64 a1) ∧ u.cell? ⟨g, q + 1, none⟩ = some (.int .i64 a2) ∧ u.cell? ⟨g, q + 2, none⟩ = some (.int .i64 a3) ∧ u.cell? ⟨g, q + 3, none⟩ = some (.string a4) ∧ u.cell? ⟨g, q + 4, none⟩ = some (.int .i64 b1) ∧ u.cell? ⟨g, q + 5, none⟩ = some (.int .i64 b2) ∧ u.cell? ⟨g, q + 6, none⟩ = some (.int .i64 b3) ∧ u.cell? ⟨g, q + 7, none⟩ = some (.string b4) ∧ u.cell? ⟨g, q + 8, none⟩ = some (.int .i64 c1) ∧ u.cell? ⟨g, q + 9, none⟩ = some (.int .i64 c2) ∧ u.cell? ⟨g, q + 10, none⟩ = some (.int .i64 c3) ∧ u.cell? ⟨g, q + 11, none⟩ = some (.string c4) ∧ Below v0.heap.size v0 u) (by kernel_rfl) Hs.out (fun hHeld => ?_)
      refine wpAnyH_take (i := 0) (oi := { dst := some 65, op := _, type := _, pos := _, after := _, guard := _ }) (v := ?v16_0) rfl (by kernel_rfl) (by kernel_rfl) (by kernel_rfl) (fun _ _ _ h => h) (Or.inl ⟨by rfl, ?hy16_0⟩) hHeld ?_
      case hy16_0 => (intro w hSw; (try dsimp only at hSw); go_simp; try with_reducible rfl)
      simp only [Act.put, List.setIfInBounds_toArray, List.set_cons_zero, List.set_cons_succ]
      refine wpAnyH_take (i := 1) (oi := { dst := some 66, op := _, type := _, pos := _, after := _, guard := _ }) (v := ?v16_1) rfl (by kernel_rfl) (by kernel_rfl) (by kernel_rfl) (fun _ _ _ h => h) (Or.inl ⟨by rfl, ?hy16_1⟩) hHeld ?_
      case hy16_1 => (intro w hSw; (try dsimp only at hSw); go_simp; try with_reducible rfl)
      simp only [Act.put, List.setIfInBounds_toArray, List.set_cons_zero, List.set_cons_succ]
      refine wpAnyH_take (i := 2) (oi := { dst := some 67, op := _, type := _, pos := _, after := _, guard := _ }) (v := ?v16_2) rfl (by kernel_rfl) (by kernel_rfl) (by kernel_rfl) (fun _ _ _ h => h) (Or.inl ⟨by rfl, ?hy16_2⟩) hHeld ?_
      case hy16_2 => (intro w hSw; (try dsimp only at hSw); go_simp; try with_reducible rfl)
      simp only [Act.put, List.setIfInBounds_toArray, List.set_cons_zero, List.set_cons_succ]
      refine wpAnyH_take (i := 3) (oi := { dst := some 68, op := _, type := _, pos := _, after := _, guard := _ }) (v := ?v16_3) rfl (by kernel_rfl) (by kernel_rfl) (by kernel_rfl) (fun _ _ _ h => h) (Or.inl ⟨by rfl, ?hy16_3⟩) hHeld ?_
      case hy16_3 => (intro w hSw; (try dsimp only at hSw); go_simp; try with_reducible rfl)
      simp only [Act.put, List.setIfInBounds_toArray, List.set_cons_zero, List.set_cons_succ]
      refine wpAnyH_take (i := 4) (oi := { dst := some 69, op := _, type := _, pos := _, after := _, guard := _ }) (v := ?v16_4) rfl (by kernel_rfl) (by kernel_rfl) (by kernel_rfl) (fun _ _ _ h => h) (Or.inl ⟨by rfl, ?hy16_4⟩) hHeld ?_
      case hy16_4 => (intro w hSw; (try dsimp only at hSw); go_simp; try with_reducible rfl)
      simp only [Act.put, List.setIfInBounds_toArray, List.set_cons_zero, List.set_cons_succ]
      refine wpAnyH_take (i := 5) (oi := { dst := some 70, op := _, type := _, pos := _, after := _, guard := _ }) (v := ?v16_5) rfl (by kernel_rfl) (by kernel_rfl) (by kernel_rfl) (fun _ _ _ h => h) (Or.inl ⟨by rfl, ?hy16_5⟩) hHeld ?_
      case hy16_5 => (intro w hSw; (try dsimp only at hSw); go_simp; try with_reducible rfl)
      simp only [Act.put, List.setIfInBounds_toArray, List.set_cons_zero, List.set_cons_succ]
      refine wpAnyH_take (i := 6) (oi := { dst := some 71, op := _, type := _, pos := _, after := _, guard := _ }) (v := ?v16_6) rfl (by kernel_rfl) (by kernel_rfl) (by kernel_rfl) (fun _ _ _ h => h) (Or.inl ⟨by rfl, ?hy16_6⟩) hHeld ?_
      case hy16_6 => (intro w hSw; (try dsimp only at hSw); go_simp; try with_reducible rfl)
      simp only [Act.put, List.setIfInBounds_toArray, List.set_cons_zero, List.set_cons_succ]
      refine wpAnyH_take (i := 7) (oi := { dst := some 72, op := _, type := _, pos := _, after := _, guard := _ }) (v := ?v16_7) rfl (by kernel_rfl) (by kernel_rfl) (by kernel_rfl) (fun _ _ _ h => h) (Or.inl ⟨by rfl, ?hy16_7⟩) hHeld ?_
      case hy16_7 => (intro w hSw; (try dsimp only at hSw); go_simp; try with_reducible rfl)
      simp only [Act.put, List.setIfInBounds_toArray, List.set_cons_zero, List.set_cons_succ]
      refine wpAnyH_take (i := 8) (oi := { dst := some 73, op := _, type := _, pos := _, after := _, guard := _ }) (v := ?v16_8) rfl (by kernel_rfl) (by kernel_rfl) (by kernel_rfl) (fun _ _ _ h => h) (Or.inl ⟨by rfl, ?hy16_8⟩) hHeld ?_
      case hy16_8 => (intro w hSw; (try dsimp only at hSw); go_simp; try with_reducible rfl)
      simp only [Act.put, List.setIfInBounds_toArray, List.set_cons_zero, List.set_cons_succ]
      refine wpAnyH_ready (rs := [9]) (by kernel_rfl) (by simp) ?_
      refine AllReadyH.cons (o := { dst := some 74, op := _, type := _, pos := _, after := _, guard := _ }) rfl (fun K hK => ?_) AllReadyH.nil
      go_simp
      go_at_call 10
      refine (XP0.out _ (by assumption)).mono ?_
      rintro ee0 t0 ⟨rfl, hs0⟩
      refine hK.out _ _ hs0 (fun hHeld => ?_)
      clear hK K
      refine wpAnyH_take (i := 10) (oi := { dst := some 75, op := _, type := _, pos := _, after := _, guard := _ }) (v := ?v16_10) rfl (by kernel_rfl) (by kernel_rfl) (by kernel_rfl) (fun _ _ _ h => h) (Or.inl ⟨by rfl, ?hy16_10⟩) hHeld ?_
      case hy16_10 => (intro w hSw; (try dsimp only at hSw); go_simp; try with_reducible rfl)
      simp only [Act.put, List.setIfInBounds_toArray, List.set_cons_zero, List.set_cons_succ]
      refine wpAnyH_take (i := 11) (oi := { dst := some 76, op := _, type := _, pos := _, after := _, guard := _ }) (v := ?v16_11) rfl (by kernel_rfl) (by kernel_rfl) (by kernel_rfl) (fun _ _ _ h => h) (Or.inl ⟨by rfl, ?hy16_11⟩) hHeld ?_
      case hy16_11 => (intro w hSw; (try dsimp only at hSw); go_simp; try with_reducible rfl)
      simp only [Act.put, List.setIfInBounds_toArray, List.set_cons_zero, List.set_cons_succ]
      refine wpAnyH_take (i := 12) (oi := { dst := some 77, op := _, type := _, pos := _, after := _, guard := _ }) (v := ?v16_12) rfl (by kernel_rfl) (by kernel_rfl) (by kernel_rfl) (fun _ _ _ h => h) (Or.inl ⟨by rfl, ?hy16_12⟩) hHeld ?_
      case hy16_12 => (intro w hSw; (try dsimp only at hSw); go_simp; try with_reducible rfl)
      simp only [Act.put, List.setIfInBounds_toArray, List.set_cons_zero, List.set_cons_succ]
      refine wpAnyH_take (i := 13) (oi := { dst := some 78, op := _, type := _, pos := _, after := _, guard := _ }) (v := ?v16_13) rfl (by kernel_rfl) (by kernel_rfl) (by kernel_rfl) (fun _ _ _ h => h) (Or.inl ⟨by rfl, ?hy16_13⟩) hHeld ?_
      case hy16_13 => (intro w hSw; (try dsimp only at hSw); go_simp; try with_reducible rfl)
      simp only [Act.put, List.setIfInBounds_toArray, List.set_cons_zero, List.set_cons_succ]
      refine wpAnyH_take (i := 14) (oi := { dst := some 79, op := _, type := _, pos := _, after := _, guard := _ }) (v := ?v16_14) rfl (by kernel_rfl) (by kernel_rfl) (by kernel_rfl) (fun _ _ _ h => h) (Or.inl ⟨by rfl, ?hy16_14⟩) hHeld ?_
      case hy16_14 => (intro w hSw; (try dsimp only at hSw); go_simp; try with_reducible rfl)
      simp only [Act.put, List.setIfInBounds_toArray, List.set_cons_zero, List.set_cons_succ]
      refine wpAnyH_take (i := 15) (oi := { dst := some 80, op := _, type := _, pos := _, after := _, guard := _ }) (v := ?v16_15) rfl (by kernel_rfl) (by kernel_rfl) (by kernel_rfl) (fun _ _ _ h => h) (Or.inl ⟨by rfl, ?hy16_15⟩) hHeld ?_
      case hy16_15 => (intro w hSw; (try dsimp only at hSw); go_simp; try with_reducible rfl)
      simp only [Act.put, List.setIfInBounds_toArray, List.set_cons_zero, List.set_cons_succ]
      refine wpAnyH_take (i := 16) (oi := { dst := some 81, op := _, type := _, pos := _, after := _, guard := _ }) (v := ?v16_16) rfl (by kernel_rfl) (by kernel_rfl) (by kernel_rfl) (fun _ _ _ h => h) (Or.inl ⟨by rfl, ?hy16_16⟩) hHeld ?_
      case hy16_16 => (intro w hSw; (try dsimp only at hSw); go_simp; try with_reducible rfl)
      simp only [Act.put, List.setIfInBounds_toArray, List.set_cons_zero, List.set_cons_succ]
      refine wpAnyH_take (i := 17) (oi := { dst := some 82, op := _, type := _, pos := _, after := _, guard := _ }) (v := ?v16_17) rfl (by kernel_rfl) (by kernel_rfl) (by kernel_rfl) (fun _ _ _ h => h) (Or.inl ⟨by rfl, ?hy16_17⟩) hHeld ?_
      case hy16_17 => (intro w hSw; (try dsimp only at hSw); go_simp; try with_reducible rfl)
      simp only [Act.put, List.setIfInBounds_toArray, List.set_cons_zero, List.set_cons_succ]
      refine wpAnyH_take (i := 18) (oi := { dst := some 83, op := _, type := _, pos := _, after := _, guard := _ }) (v := ?v16_18) rfl (by kernel_rfl) (by kernel_rfl) (by kernel_rfl) (fun _ _ _ h => h) (Or.inl ⟨by rfl, ?hy16_18⟩) hHeld ?_
      case hy16_18 => (intro w hSw; (try dsimp only at hSw); go_simp; try with_reducible rfl)
      simp only [Act.put, List.setIfInBounds_toArray, List.set_cons_zero, List.set_cons_succ]
      refine wpAnyH_ready (rs := [19]) (by kernel_rfl) (by simp) ?_
      refine AllReadyH.cons (o := { dst := some 84, op := _, type := _, pos := _, after := _, guard := _ }) rfl (fun K hK => ?_) AllReadyH.nil
      go_simp
      go_at_call 10
      refine (XP1.out _ (by assumption)).mono ?_
      rintro ee1 t1 ⟨rfl, hs1⟩
      refine hK.out _ _ hs1 (fun hHeld => ?_)
      clear hK K
      refine wpAnyH_take (i := 20) (oi := { dst := some 85, op := _, type := _, pos := _, after := _, guard := _ }) (v := ?v16_20) rfl (by kernel_rfl) (by kernel_rfl) (by kernel_rfl) (fun _ _ _ h => h) (Or.inl ⟨by rfl, ?hy16_20⟩) hHeld ?_
      case hy16_20 => (intro w hSw; (try dsimp only at hSw); go_simp; try with_reducible rfl)
      simp only [Act.put, List.setIfInBounds_toArray, List.set_cons_zero, List.set_cons_succ]
      refine wpAnyH_take (i := 21) (oi := { dst := some 6, op := _, type := _, pos := _, after := _, guard := _ }) (v := ?v16_21) rfl (by kernel_rfl) (by kernel_rfl) (by kernel_rfl) (fun _ _ _ h => h) (Or.inl ⟨by rfl, ?hy16_21⟩) hHeld ?_
      case hy16_21 => (intro w hSw; (try dsimp only at hSw); go_simp; try with_reducible rfl)
      simp only [Act.put, List.setIfInBounds_toArray, List.set_cons_zero, List.set_cons_succ]
      refine wpAnyH_done (by kernel_rfl) ?_ _
      go_wp2_with fail
      go_ret
      exact ⟨rfl, below_on B4.out hs1.2.2.2.2.2.2.2.2.2.2.2.2⟩
    · skip
      have Hs := Lib.hid (show v0.drew.cell? ⟨g, q, none⟩ = some (.int .i64 a1) ∧ v0.drew.cell? ⟨g, q + 1, none⟩ = some (.int .i64 a2) ∧ v0.drew.cell? ⟨g, q + 2, none⟩ = some (.int .i64 a3) ∧ v0.drew.cell? ⟨g, q + 3, none⟩ = some (.string a4) ∧ v0.drew.cell? ⟨g, q + 4, none⟩ = some (.int .i64 b1) ∧ v0.drew.cell? ⟨g, q + 5, none⟩ = some (.int .i64 b2) ∧ v0.drew.cell? ⟨g, q + 6, none⟩ = some (.int .i64 b3) ∧ v0.drew.cell? ⟨g, q + 7, none⟩ = some (.string b4) ∧ v0.drew.cell? ⟨g, q + 8, none⟩ = some (.int .i64 c1) ∧ v0.drew.cell? ⟨g, q + 9, none⟩ = some (.int .i64 c2) ∧ v0.drew.cell? ⟨g, q + 10, none⟩ = some (.int .i64 c3) ∧ v0.drew.cell? ⟨g, q + 11, none⟩ = some (.string c4) ∧ Below v0.heap.size v0 v0.drew from ⟨q0, q1, q2, q3, q4, q5, q6, q7, q8, q9, q10, q11, below_dn (Below.refl _ _) 1⟩)
      have XP0 := Lib.hid (fun u (hu : u.cell? ⟨g, q, none⟩ = some (.int .i64 a1) ∧ u.cell? ⟨g, q + 1, none⟩ = some (.int .i64 a2) ∧ u.cell? ⟨g, q + 2, none⟩ = some (.int .i64 a3) ∧ u.cell? ⟨g, q + 3, none⟩ = some (.string a4) ∧ u.cell? ⟨g, q + 4, none⟩ = some (.int .i64 b1) ∧ u.cell? ⟨g, q + 5, none⟩ = some (.int .i64 b2) ∧ u.cell? ⟨g, q + 6, none⟩ = some (.int .i64 b3) ∧ u.cell? ⟨g, q + 7, none⟩ = some (.string b4) ∧ u.cell? ⟨g, q + 8, none⟩ = some (.int .i64 c1) ∧ u.cell? ⟨g, q + 9, none⟩ = some (.int .i64 c2) ∧ u.cell? ⟨g, q + 10, none⟩ = some (.int .i64 c3) ∧ u.cell? ⟨g, q + 11, none⟩ = some (.string c4) ∧ Below v0.heap.size v0 u) => (HZ u).mono (R' := fun e u' => e = .returned (.bool true) ∧ (u'.cell? ⟨g, q, none⟩ = some (.int .i64 a1) ∧ u'.cell? ⟨g, q + 1, none⟩ = some (.int .i64 a2) ∧ u'.cell? ⟨g, q + 2, none⟩ = some (.int .i64 a3) ∧ u'.cell? ⟨g, q + 3, none⟩ = some (.string a4) ∧ u'.cell? ⟨g, q + 4, none⟩ = some (.int .i64 b1) ∧ u'.cell? ⟨g, q + 5, none⟩ = some (.int .i64 b2) ∧ u'.cell? ⟨g, q + 6, none⟩ = some (.int .i64 b3) ∧ u'.cell? ⟨g, q + 7, none⟩ = some (.string b4) ∧ u'.cell? ⟨g, q + 8, none⟩ = some (.int .i64 c1) ∧ u'.cell? ⟨g, q + 9, none⟩ = some (.int .i64 c2) ∧ u'.cell? ⟨g, q + 10, none⟩ = some (.int .i64 c3) ∧ u'.cell? ⟨g, q + 11, none⟩ = some (.string c4) ∧ Below v0.heap.size v0 u')) fun e u' ⟨he, hq⟩ => ⟨he, ⟨cell_below hu.1 hq, cell_below hu.2.1 hq, cell_below hu.2.2.1 hq, cell_below hu.2.2.2.1 hq, cell_below hu.2.2.2.2.1 hq, cell_below hu.2.2.2.2.2.1 hq, cell_below hu.2.2.2.2.2.2.1 hq, cell_below hu.2.2.2.2.2.2.2.1 hq, cell_below hu.2.2.2.2.2.2.2.2.1 hq, cell_below hu.2.2.2.2.2.2.2.2.2.1 hq, cell_below hu.2.2.2.2.2.2.2.2.2.2.1 hq, cell_below hu.2.2.2.2.2.2.2.2.2.2.2.1 hq, below_on hu.2.2.2.2.2.2.2.2.2.2.2.2 hq⟩⟩)
      have XP1 := Lib.hid (fun u (hu : u.cell? ⟨g, q, none⟩ = some (.int .i64 a1) ∧ u.cell? ⟨g, q + 1, none⟩ = some (.int .i64 a2) ∧ u.cell? ⟨g, q + 2, none⟩ = some (.int .i64 a3) ∧ u.cell? ⟨g, q + 3, none⟩ = some (.string a4) ∧ u.cell? ⟨g, q + 4, none⟩ = some (.int .i64 b1) ∧ u.cell? ⟨g, q + 5, none⟩ = some (.int .i64 b2) ∧ u.cell? ⟨g, q + 6, none⟩ = some (.int .i64 b3) ∧ u.cell? ⟨g, q + 7, none⟩ = some (.string b4) ∧ u.cell? ⟨g, q + 8, none⟩ = some (.int .i64 c1) ∧ u.cell? ⟨g, q + 9, none⟩ = some (.int .i64 c2) ∧ u.cell? ⟨g, q + 10, none⟩ = some (.int .i64 c3) ∧ u.cell? ⟨g, q + 11, none⟩ = some (.string c4) ∧ Below v0.heap.size v0 u) => (HU u).mono (R' := fun e u' => e = .returned (.bool true) ∧ (u'.cell? ⟨g, q, none⟩ = some (.int .i64 a1) ∧ u'.cell? ⟨g, q + 1, none⟩ = some (.int .i64 a2) ∧ u'.cell? ⟨g, q + 2, none⟩ = some (.int .i64 a3) ∧ u'.cell? ⟨g, q + 3, none⟩ = some (.string a4) ∧ u'.cell? ⟨g, q + 4, none⟩ = some (.int .i64 b1) ∧ u'.cell? ⟨g, q + 5, none⟩ = some (.int .i64 b2) ∧ u'.cell? ⟨g, q + 6, none⟩ = some (.int .i64 b3) ∧ u'.cell? ⟨g, q + 7, none⟩ = some (.string b4) ∧ u'.cell? ⟨g, q + 8, none⟩ = some (.int .i64 c1) ∧ u'.cell? ⟨g, q + 9, none⟩ = some (.int .i64 c2) ∧ u'.cell? ⟨g, q + 10, none⟩ = some (.int .i64 c3) ∧ u'.cell? ⟨g, q + 11, none⟩ = some (.string c4) ∧ Below v0.heap.size v0 u')) fun e u' ⟨he, hq⟩ => ⟨he, ⟨cell_below hu.1 hq, cell_below hu.2.1 hq, cell_below hu.2.2.1 hq, cell_below hu.2.2.2.1 hq, cell_below hu.2.2.2.2.1 hq, cell_below hu.2.2.2.2.2.1 hq, cell_below hu.2.2.2.2.2.2.1 hq, cell_below hu.2.2.2.2.2.2.2.1 hq, cell_below hu.2.2.2.2.2.2.2.2.1 hq, cell_below hu.2.2.2.2.2.2.2.2.2.1 hq, cell_below hu.2.2.2.2.2.2.2.2.2.2.1 hq, cell_below hu.2.2.2.2.2.2.2.2.2.2.2.1 hq, below_on hu.2.2.2.2.2.2.2.2.2.2.2.2 hq⟩⟩)
      go_wp2_with fail
      refine wp_region_held_drew (S := fun u => u.cell? ⟨g, q, none⟩ = some (.int .i64 a1) ∧ u.cell? ⟨g, q + 1, none⟩ = some (.int .i64 a2) ∧ u.cell? ⟨g, q + 2, none⟩ = some (.int .i64 a3) ∧ u.cell? ⟨g, q + 3, none⟩ = some (.string a4) ∧ u.cell? ⟨g, q + 4, none⟩ = some (.int .i64 b1) ∧ u.cell? ⟨g, q + 5, none⟩ = some (.int .i64 b2) ∧ u.cell? ⟨g, q + 6, none⟩ = some (.int .i64 b3) ∧ u.cell? ⟨g, q + 7, none⟩ = some (.string b4) ∧ u.cell? ⟨g, q + 8, none⟩ = some (.int .i64 c1) ∧ u.cell? ⟨g, q + 9, none⟩ = some (.int .i64 c2) ∧ u.cell? ⟨g, q + 10, none⟩ = some (.int .i64 c3) ∧ u.cell? ⟨g, q + 11, none⟩ = some (.string c4) ∧ Below v0.heap.size v0 u) (by kernel_rfl) Hs.out (fun hHeld => ?_)
      refine wpAnyH_take (i := 0) (oi := { dst := some 65, op := _, type := _, pos := _, after := _, guard := _ }) (v := ?v17_0) rfl (by kernel_rfl) (by kernel_rfl) (by kernel_rfl) (fun _ _ _ h => h) (Or.inl ⟨by rfl, ?hy17_0⟩) hHeld ?_
      case hy17_0 => (intro w hSw; (try dsimp only at hSw); go_simp; try with_reducible rfl)
      simp only [Act.put, List.setIfInBounds_toArray, List.set_cons_zero, List.set_cons_succ]
      refine wpAnyH_take (i := 1) (oi := { dst := some 66, op := _, type := _, pos := _, after := _, guard := _ }) (v := ?v17_1) rfl (by kernel_rfl) (by kernel_rfl) (by kernel_rfl) (fun _ _ _ h => h) (Or.inl ⟨by rfl, ?hy17_1⟩) hHeld ?_
      case hy17_1 => (intro w hSw; (try dsimp only at hSw); go_simp; try with_reducible rfl)
      simp only [Act.put, List.setIfInBounds_toArray, List.set_cons_zero, List.set_cons_succ]
      refine wpAnyH_take (i := 2) (oi := { dst := some 67, op := _, type := _, pos := _, after := _, guard := _ }) (v := ?v17_2) rfl (by kernel_rfl) (by kernel_rfl) (by kernel_rfl) (fun _ _ _ h => h) (Or.inl ⟨by rfl, ?hy17_2⟩) hHeld ?_
      case hy17_2 => (intro w hSw; (try dsimp only at hSw); go_simp; try with_reducible rfl)
      simp only [Act.put, List.setIfInBounds_toArray, List.set_cons_zero, List.set_cons_succ]
      refine wpAnyH_take (i := 3) (oi := { dst := some 68, op := _, type := _, pos := _, after := _, guard := _ }) (v := ?v17_3) rfl (by kernel_rfl) (by kernel_rfl) (by kernel_rfl) (fun _ _ _ h => h) (Or.inl ⟨by rfl, ?hy17_3⟩) hHeld ?_
      case hy17_3 => (intro w hSw; (try dsimp only at hSw); go_simp; try with_reducible rfl)
      simp only [Act.put, List.setIfInBounds_toArray, List.set_cons_zero, List.set_cons_succ]
      refine wpAnyH_take (i := 4) (oi := { dst := some 69, op := _, type := _, pos := _, after := _, guard := _ }) (v := ?v17_4) rfl (by kernel_rfl) (by kernel_rfl) (by kernel_rfl) (fun _ _ _ h => h) (Or.inl ⟨by rfl, ?hy17_4⟩) hHeld ?_
      case hy17_4 => (intro w hSw; (try dsimp only at hSw); go_simp; try with_reducible rfl)
      simp only [Act.put, List.setIfInBounds_toArray, List.set_cons_zero, List.set_cons_succ]
      refine wpAnyH_take (i := 5) (oi := { dst := some 70, op := _, type := _, pos := _, after := _, guard := _ }) (v := ?v17_5) rfl (by kernel_rfl) (by kernel_rfl) (by kernel_rfl) (fun _ _ _ h => h) (Or.inl ⟨by rfl, ?hy17_5⟩) hHeld ?_
      case hy17_5 => (intro w hSw; (try dsimp only at hSw); go_simp; try with_reducible rfl)
      simp only [Act.put, List.setIfInBounds_toArray, List.set_cons_zero, List.set_cons_succ]
      refine wpAnyH_take (i := 6) (oi := { dst := some 71, op := _, type := _, pos := _, after := _, guard := _ }) (v := ?v17_6) rfl (by kernel_rfl) (by kernel_rfl) (by kernel_rfl) (fun _ _ _ h => h) (Or.inl ⟨by rfl, ?hy17_6⟩) hHeld ?_
      case hy17_6 => (intro w hSw; (try dsimp only at hSw); go_simp; try with_reducible rfl)
      simp only [Act.put, List.setIfInBounds_toArray, List.set_cons_zero, List.set_cons_succ]
      refine wpAnyH_take (i := 7) (oi := { dst := some 72, op := _, type := _, pos := _, after := _, guard := _ }) (v := ?v17_7) rfl (by kernel_rfl) (by kernel_rfl) (by kernel_rfl) (fun _ _ _ h => h) (Or.inl ⟨by rfl, ?hy17_7⟩) hHeld ?_
      case hy17_7 => (intro w hSw; (try dsimp only at hSw); go_simp; try with_reducible rfl)
      simp only [Act.put, List.setIfInBounds_toArray, List.set_cons_zero, List.set_cons_succ]
      refine wpAnyH_take (i := 8) (oi := { dst := some 73, op := _, type := _, pos := _, after := _, guard := _ }) (v := ?v17_8) rfl (by kernel_rfl) (by kernel_rfl) (by kernel_rfl) (fun _ _ _ h => h) (Or.inl ⟨by rfl, ?hy17_8⟩) hHeld ?_
      case hy17_8 => (intro w hSw; (try dsimp only at hSw); go_simp; try with_reducible rfl)
      simp only [Act.put, List.setIfInBounds_toArray, List.set_cons_zero, List.set_cons_succ]
      refine wpAnyH_ready (rs := [9]) (by kernel_rfl) (by simp) ?_
      refine AllReadyH.cons (o := { dst := some 74, op := _, type := _, pos := _, after := _, guard := _ }) rfl (fun K hK => ?_) AllReadyH.nil
      go_simp
      go_at_call 10
      refine (XP0.out _ (by assumption)).mono ?_
      rintro ee0 t0 ⟨rfl, hs0⟩
      refine hK.out _ _ hs0 (fun hHeld => ?_)
      clear hK K
      refine wpAnyH_take (i := 10) (oi := { dst := some 75, op := _, type := _, pos := _, after := _, guard := _ }) (v := ?v17_10) rfl (by kernel_rfl) (by kernel_rfl) (by kernel_rfl) (fun _ _ _ h => h) (Or.inl ⟨by rfl, ?hy17_10⟩) hHeld ?_
      case hy17_10 => (intro w hSw; (try dsimp only at hSw); go_simp; try with_reducible rfl)
      simp only [Act.put, List.setIfInBounds_toArray, List.set_cons_zero, List.set_cons_succ]
      refine wpAnyH_take (i := 11) (oi := { dst := some 76, op := _, type := _, pos := _, after := _, guard := _ }) (v := ?v17_11) rfl (by kernel_rfl) (by kernel_rfl) (by kernel_rfl) (fun _ _ _ h => h) (Or.inl ⟨by rfl, ?hy17_11⟩) hHeld ?_
      case hy17_11 => (intro w hSw; (try dsimp only at hSw); go_simp; try with_reducible rfl)
      simp only [Act.put, List.setIfInBounds_toArray, List.set_cons_zero, List.set_cons_succ]
      refine wpAnyH_take (i := 12) (oi := { dst := some 77, op := _, type := _, pos := _, after := _, guard := _ }) (v := ?v17_12) rfl (by kernel_rfl) (by kernel_rfl) (by kernel_rfl) (fun _ _ _ h => h) (Or.inl ⟨by rfl, ?hy17_12⟩) hHeld ?_
      case hy17_12 => (intro w hSw; (try dsimp only at hSw); go_simp; try with_reducible rfl)
      simp only [Act.put, List.setIfInBounds_toArray, List.set_cons_zero, List.set_cons_succ]
      refine wpAnyH_take (i := 13) (oi := { dst := some 78, op := _, type := _, pos := _, after := _, guard := _ }) (v := ?v17_13) rfl (by kernel_rfl) (by kernel_rfl) (by kernel_rfl) (fun _ _ _ h => h) (Or.inl ⟨by rfl, ?hy17_13⟩) hHeld ?_
      case hy17_13 => (intro w hSw; (try dsimp only at hSw); go_simp; try with_reducible rfl)
      simp only [Act.put, List.setIfInBounds_toArray, List.set_cons_zero, List.set_cons_succ]
      refine wpAnyH_take (i := 14) (oi := { dst := some 79, op := _, type := _, pos := _, after := _, guard := _ }) (v := ?v17_14) rfl (by kernel_rfl) (by kernel_rfl) (by kernel_rfl) (fun _ _ _ h => h) (Or.inl ⟨by rfl, ?hy17_14⟩) hHeld ?_
      case hy17_14 => (intro w hSw; (try dsimp only at hSw); go_simp; try with_reducible rfl)
      simp only [Act.put, List.setIfInBounds_toArray, List.set_cons_zero, List.set_cons_succ]
      refine wpAnyH_take (i := 15) (oi := { dst := some 80, op := _, type := _, pos := _, after := _, guard := _ }) (v := ?v17_15) rfl (by kernel_rfl) (by kernel_rfl) (by kernel_rfl) (fun _ _ _ h => h) (Or.inl ⟨by rfl, ?hy17_15⟩) hHeld ?_
      case hy17_15 => (intro w hSw; (try dsimp only at hSw); go_simp; try with_reducible rfl)
      simp only [Act.put, List.setIfInBounds_toArray, List.set_cons_zero, List.set_cons_succ]
      refine wpAnyH_take (i := 16) (oi := { dst := some 81, op := _, type := _, pos := _, after := _, guard := _ }) (v := ?v17_16) rfl (by kernel_rfl) (by kernel_rfl) (by kernel_rfl) (fun _ _ _ h => h) (Or.inl ⟨by rfl, ?hy17_16⟩) hHeld ?_
      case hy17_16 => (intro w hSw; (try dsimp only at hSw); go_simp; try with_reducible rfl)
      simp only [Act.put, List.setIfInBounds_toArray, List.set_cons_zero, List.set_cons_succ]
      refine wpAnyH_take (i := 17) (oi := { dst := some 82, op := _, type := _, pos := _, after := _, guard := _ }) (v := ?v17_17) rfl (by kernel_rfl) (by kernel_rfl) (by kernel_rfl) (fun _ _ _ h => h) (Or.inl ⟨by rfl, ?hy17_17⟩) hHeld ?_
      case hy17_17 => (intro w hSw; (try dsimp only at hSw); go_simp; try with_reducible rfl)
      simp only [Act.put, List.setIfInBounds_toArray, List.set_cons_zero, List.set_cons_succ]
      refine wpAnyH_take (i := 18) (oi := { dst := some 83, op := _, type := _, pos := _, after := _, guard := _ }) (v := ?v17_18) rfl (by kernel_rfl) (by kernel_rfl) (by kernel_rfl) (fun _ _ _ h => h) (Or.inl ⟨by rfl, ?hy17_18⟩) hHeld ?_
      case hy17_18 => (intro w hSw; (try dsimp only at hSw); go_simp; try with_reducible rfl)
      simp only [Act.put, List.setIfInBounds_toArray, List.set_cons_zero, List.set_cons_succ]
      refine wpAnyH_ready (rs := [19]) (by kernel_rfl) (by simp) ?_
      refine AllReadyH.cons (o := { dst := some 84, op := _, type := _, pos := _, after := _, guard := _ }) rfl (fun K hK => ?_) AllReadyH.nil
      go_simp
      go_at_call 10
      refine (XP1.out _ (by assumption)).mono ?_
      rintro ee1 t1 ⟨rfl, hs1⟩
      refine hK.out _ _ hs1 (fun hHeld => ?_)
      clear hK K
      refine wpAnyH_take (i := 20) (oi := { dst := some 85, op := _, type := _, pos := _, after := _, guard := _ }) (v := ?v17_20) rfl (by kernel_rfl) (by kernel_rfl) (by kernel_rfl) (fun _ _ _ h => h) (Or.inl ⟨by rfl, ?hy17_20⟩) hHeld ?_
      case hy17_20 => (intro w hSw; (try dsimp only at hSw); go_simp; try with_reducible rfl)
      simp only [Act.put, List.setIfInBounds_toArray, List.set_cons_zero, List.set_cons_succ]
      refine wpAnyH_take (i := 21) (oi := { dst := some 6, op := _, type := _, pos := _, after := _, guard := _ }) (v := ?v17_21) rfl (by kernel_rfl) (by kernel_rfl) (by kernel_rfl) (fun _ _ _ h => h) (Or.inl ⟨by rfl, ?hy17_21⟩) hHeld ?_
      case hy17_21 => (intro w hSw; (try dsimp only at hSw); go_simp; try with_reducible rfl)
      simp only [Act.put, List.setIfInBounds_toArray, List.set_cons_zero, List.set_cons_succ]
      refine wpAnyH_done (by kernel_rfl) ?_ _
      go_wp2_with fail
      go_ret
      exact ⟨rfl, below_on B4.out hs1.2.2.2.2.2.2.2.2.2.2.2.2⟩
    · skip
      have Hs := Lib.hid (show v0.drew.cell? ⟨g, q, none⟩ = some (.int .i64 a1) ∧ v0.drew.cell? ⟨g, q + 1, none⟩ = some (.int .i64 a2) ∧ v0.drew.cell? ⟨g, q + 2, none⟩ = some (.int .i64 a3) ∧ v0.drew.cell? ⟨g, q + 3, none⟩ = some (.string a4) ∧ v0.drew.cell? ⟨g, q + 4, none⟩ = some (.int .i64 b1) ∧ v0.drew.cell? ⟨g, q + 5, none⟩ = some (.int .i64 b2) ∧ v0.drew.cell? ⟨g, q + 6, none⟩ = some (.int .i64 b3) ∧ v0.drew.cell? ⟨g, q + 7, none⟩ = some (.string b4) ∧ v0.drew.cell? ⟨g, q + 8, none⟩ = some (.int .i64 c1) ∧ v0.drew.cell? ⟨g, q + 9, none⟩ = some (.int .i64 c2) ∧ v0.drew.cell? ⟨g, q + 10, none⟩ = some (.int .i64 c3) ∧ v0.drew.cell? ⟨g, q + 11, none⟩ = some (.string c4) ∧ Below v0.heap.size v0 v0.drew from ⟨q0, q1, q2, q3, q4, q5, q6, q7, q8, q9, q10, q11, below_dn (Below.refl _ _) 1⟩)
      have XP0 := Lib.hid (fun u (hu : u.cell? ⟨g, q, none⟩ = some (.int .i64 a1) ∧ u.cell? ⟨g, q + 1, none⟩ = some (.int .i64 a2) ∧ u.cell? ⟨g, q + 2, none⟩ = some (.int .i64 a3) ∧ u.cell? ⟨g, q + 3, none⟩ = some (.string a4) ∧ u.cell? ⟨g, q + 4, none⟩ = some (.int .i64 b1) ∧ u.cell? ⟨g, q + 5, none⟩ = some (.int .i64 b2) ∧ u.cell? ⟨g, q + 6, none⟩ = some (.int .i64 b3) ∧ u.cell? ⟨g, q + 7, none⟩ = some (.string b4) ∧ u.cell? ⟨g, q + 8, none⟩ = some (.int .i64 c1) ∧ u.cell? ⟨g, q + 9, none⟩ = some (.int .i64 c2) ∧ u.cell? ⟨g, q + 10, none⟩ = some (.int .i64 c3) ∧ u.cell? ⟨g, q + 11, none⟩ = some (.string c4) ∧ Below v0.heap.size v0 u) => (HZ u).mono (R' := fun e u' => e = .returned (.bool true) ∧ (u'.cell? ⟨g, q, none⟩ = some (.int .i64 a1) ∧ u'.cell? ⟨g, q + 1, none⟩ = some (.int .i64 a2) ∧ u'.cell? ⟨g, q + 2, none⟩ = some (.int .i64 a3) ∧ u'.cell? ⟨g, q + 3, none⟩ = some (.string a4) ∧ u'.cell? ⟨g, q + 4, none⟩ = some (.int .i64 b1) ∧ u'.cell? ⟨g, q + 5, none⟩ = some (.int .i64 b2) ∧ u'.cell? ⟨g, q + 6, none⟩ = some (.int .i64 b3) ∧ u'.cell? ⟨g, q + 7, none⟩ = some (.string b4) ∧ u'.cell? ⟨g, q + 8, none⟩ = some (.int .i64 c1) ∧ u'.cell? ⟨g, q + 9, none⟩ = some (.int .i64 c2) ∧ u'.cell? ⟨g, q + 10, none⟩ = some (.int .i64 c3) ∧ u'.cell? ⟨g, q + 11, none⟩ = some (.string c4) ∧ Below v0.heap.size v0 u')) fun e u' ⟨he, hq⟩ => ⟨he, ⟨cell_below hu.1 hq, cell_below hu.2.1 hq, cell_below hu.2.2.1 hq, cell_below hu.2.2.2.1 hq, cell_below hu.2.2.2.2.1 hq, cell_below hu.2.2.2.2.2.1 hq, cell_below hu.2.2.2.2.2.2.1 hq, cell_below hu.2.2.2.2.2.2.2.1 hq, cell_below hu.2.2.2.2.2.2.2.2.1 hq, cell_below hu.2.2.2.2.2.2.2.2.2.1 hq, cell_below hu.2.2.2.2.2.2.2.2.2.2.1 hq, cell_below hu.2.2.2.2.2.2.2.2.2.2.2.1 hq, below_on hu.2.2.2.2.2.2.2.2.2.2.2.2 hq⟩⟩)
      have XP1 := Lib.hid (fun u (hu : u.cell? ⟨g, q, none⟩ = some (.int .i64 a1) ∧ u.cell? ⟨g, q + 1, none⟩ = some (.int .i64 a2) ∧ u.cell? ⟨g, q + 2, none⟩ = some (.int .i64 a3) ∧ u.cell? ⟨g, q + 3, none⟩ = some (.string a4) ∧ u.cell? ⟨g, q + 4, none⟩ = some (.int .i64 b1) ∧ u.cell? ⟨g, q + 5, none⟩ = some (.int .i64 b2) ∧ u.cell? ⟨g, q + 6, none⟩ = some (.int .i64 b3) ∧ u.cell? ⟨g, q + 7, none⟩ = some (.string b4) ∧ u.cell? ⟨g, q + 8, none⟩ = some (.int .i64 c1) ∧ u.cell? ⟨g, q + 9, none⟩ = some (.int .i64 c2) ∧ u.cell? ⟨g, q + 10, none⟩ = some (.int .i64 c3) ∧ u.cell? ⟨g, q + 11, none⟩ = some (.string c4) ∧ Below v0.heap.size v0 u) => (HU u).mono (R' := fun e u' => e = .returned (.bool true) ∧ (u'.cell? ⟨g, q, none⟩ = some (.int .i64 a1) ∧ u'.cell? ⟨g, q + 1, none⟩ = some (.int .i64 a2) ∧ u'.cell? ⟨g, q + 2, none⟩ = some (.int .i64 a3) ∧ u'.cell? ⟨g, q + 3, none⟩ = some (.string a4) ∧ u'.cell? ⟨g, q + 4, none⟩ = some (.int .i64 b1) ∧ u'.cell? ⟨g, q + 5, none⟩ = some (.int .i64 b2) ∧ u'.cell? ⟨g, q + 6, none⟩ = some (.int .i64 b3) ∧ u'.cell? ⟨g, q + 7, none⟩ = some (.string b4) ∧ u'.cell? ⟨g, q + 8, none⟩ = some (.int .i64 c1) ∧ u'.cell? ⟨g, q + 9, none⟩ = some (.int .i64 c2) ∧ u'.cell? ⟨g, q + 10, none⟩ = some (.int .i64 c3) ∧ u'.cell? ⟨g, q + 11, none⟩ = some (.string c4) ∧ Below v0.heap.size v0 u')) fun e u' ⟨he, hq⟩ => ⟨he, ⟨cell_below hu.1 hq, cell_below hu.2.1 hq, cell_below hu.2.2.1 hq, cell_below hu.2.2.2.1 hq, cell_below hu.2.2.2.2.1 hq, cell_below hu.2.2.2.2.2.1 hq, cell_below hu.2.2.2.2.2.2.1 hq, cell_below hu.2.2.2.2.2.2.2.1 hq, cell_below hu.2.2.2.2.2.2.2.2.1 hq, cell_below hu.2.2.2.2.2.2.2.2.2.1 hq, cell_below hu.2.2.2.2.2.2.2.2.2.2.1 hq, cell_below hu.2.2.2.2.2.2.2.2.2.2.2.1 hq, below_on hu.2.2.2.2.2.2.2.2.2.2.2.2 hq⟩⟩)
      go_wp2_with fail
      refine wp_region_held_drew (S := fun u => u.cell? ⟨g, q, none⟩ = some (.int .i64 a1) ∧ u.cell? ⟨g, q + 1, none⟩ = some (.int .i64 a2) ∧ u.cell? ⟨g, q + 2, none⟩ = some (.int .i64 a3) ∧ u.cell? ⟨g, q + 3, none⟩ = some (.string a4) ∧ u.cell? ⟨g, q + 4, none⟩ = some (.int .i64 b1) ∧ u.cell? ⟨g, q + 5, none⟩ = some (.int .i64 b2) ∧ u.cell? ⟨g, q + 6, none⟩ = some (.int .i64 b3) ∧ u.cell? ⟨g, q + 7, none⟩ = some (.string b4) ∧ u.cell? ⟨g, q + 8, none⟩ = some (.int .i64 c1) ∧ u.cell? ⟨g, q + 9, none⟩ = some (.int .i64 c2) ∧ u.cell? ⟨g, q + 10, none⟩ = some (.int .i64 c3) ∧ u.cell? ⟨g, q + 11, none⟩ = some (.string c4) ∧ Below v0.heap.size v0 u) (by kernel_rfl) Hs.out (fun hHeld => ?_)
      refine wpAnyH_take (i := 0) (oi := { dst := some 65, op := _, type := _, pos := _, after := _, guard := _ }) (v := ?v18_0) rfl (by kernel_rfl) (by kernel_rfl) (by kernel_rfl) (fun _ _ _ h => h) (Or.inl ⟨by rfl, ?hy18_0⟩) hHeld ?_
      case hy18_0 => (intro w hSw; (try dsimp only at hSw); go_simp; try with_reducible rfl)
      simp only [Act.put, List.setIfInBounds_toArray, List.set_cons_zero, List.set_cons_succ]
      refine wpAnyH_take (i := 1) (oi := { dst := some 66, op := _, type := _, pos := _, after := _, guard := _ }) (v := ?v18_1) rfl (by kernel_rfl) (by kernel_rfl) (by kernel_rfl) (fun _ _ _ h => h) (Or.inl ⟨by rfl, ?hy18_1⟩) hHeld ?_
      case hy18_1 => (intro w hSw; (try dsimp only at hSw); go_simp; try with_reducible rfl)
      simp only [Act.put, List.setIfInBounds_toArray, List.set_cons_zero, List.set_cons_succ]
      refine wpAnyH_take (i := 2) (oi := { dst := some 67, op := _, type := _, pos := _, after := _, guard := _ }) (v := ?v18_2) rfl (by kernel_rfl) (by kernel_rfl) (by kernel_rfl) (fun _ _ _ h => h) (Or.inl ⟨by rfl, ?hy18_2⟩) hHeld ?_
      case hy18_2 => (intro w hSw; (try dsimp only at hSw); go_simp; try with_reducible rfl)
      simp only [Act.put, List.setIfInBounds_toArray, List.set_cons_zero, List.set_cons_succ]
      refine wpAnyH_take (i := 3) (oi := { dst := some 68, op := _, type := _, pos := _, after := _, guard := _ }) (v := ?v18_3) rfl (by kernel_rfl) (by kernel_rfl) (by kernel_rfl) (fun _ _ _ h => h) (Or.inl ⟨by rfl, ?hy18_3⟩) hHeld ?_
      case hy18_3 => (intro w hSw; (try dsimp only at hSw); go_simp; try with_reducible rfl)
      simp only [Act.put, List.setIfInBounds_toArray, List.set_cons_zero, List.set_cons_succ]
      refine wpAnyH_take (i := 4) (oi := { dst := some 69, op := _, type := _, pos := _, after := _, guard := _ }) (v := ?v18_4) rfl (by kernel_rfl) (by kernel_rfl) (by kernel_rfl) (fun _ _ _ h => h) (Or.inl ⟨by rfl, ?hy18_4⟩) hHeld ?_
      case hy18_4 => (intro w hSw; (try dsimp only at hSw); go_simp; try with_reducible rfl)
      simp only [Act.put, List.setIfInBounds_toArray, List.set_cons_zero, List.set_cons_succ]
      refine wpAnyH_take (i := 5) (oi := { dst := some 70, op := _, type := _, pos := _, after := _, guard := _ }) (v := ?v18_5) rfl (by kernel_rfl) (by kernel_rfl) (by kernel_rfl) (fun _ _ _ h => h) (Or.inl ⟨by rfl, ?hy18_5⟩) hHeld ?_
      case hy18_5 => (intro w hSw; (try dsimp only at hSw); go_simp; try with_reducible rfl)
      simp only [Act.put, List.setIfInBounds_toArray, List.set_cons_zero, List.set_cons_succ]
      refine wpAnyH_take (i := 6) (oi := { dst := some 71, op := _, type := _, pos := _, after := _, guard := _ }) (v := ?v18_6) rfl (by kernel_rfl) (by kernel_rfl) (by kernel_rfl) (fun _ _ _ h => h) (Or.inl ⟨by rfl, ?hy18_6⟩) hHeld ?_
      case hy18_6 => (intro w hSw; (try dsimp only at hSw); go_simp; try with_reducible rfl)
      simp only [Act.put, List.setIfInBounds_toArray, List.set_cons_zero, List.set_cons_succ]
      refine wpAnyH_take (i := 7) (oi := { dst := some 72, op := _, type := _, pos := _, after := _, guard := _ }) (v := ?v18_7) rfl (by kernel_rfl) (by kernel_rfl) (by kernel_rfl) (fun _ _ _ h => h) (Or.inl ⟨by rfl, ?hy18_7⟩) hHeld ?_
      case hy18_7 => (intro w hSw; (try dsimp only at hSw); go_simp; try with_reducible rfl)
      simp only [Act.put, List.setIfInBounds_toArray, List.set_cons_zero, List.set_cons_succ]
      refine wpAnyH_take (i := 8) (oi := { dst := some 73, op := _, type := _, pos := _, after := _, guard := _ }) (v := ?v18_8) rfl (by kernel_rfl) (by kernel_rfl) (by kernel_rfl) (fun _ _ _ h => h) (Or.inl ⟨by rfl, ?hy18_8⟩) hHeld ?_
      case hy18_8 => (intro w hSw; (try dsimp only at hSw); go_simp; try with_reducible rfl)
      simp only [Act.put, List.setIfInBounds_toArray, List.set_cons_zero, List.set_cons_succ]
      refine wpAnyH_ready (rs := [9]) (by kernel_rfl) (by simp) ?_
      refine AllReadyH.cons (o := { dst := some 74, op := _, type := _, pos := _, after := _, guard := _ }) rfl (fun K hK => ?_) AllReadyH.nil
      go_simp
      go_at_call 10
      refine (XP0.out _ (by assumption)).mono ?_
      rintro ee0 t0 ⟨rfl, hs0⟩
      refine hK.out _ _ hs0 (fun hHeld => ?_)
      clear hK K
      refine wpAnyH_take (i := 10) (oi := { dst := some 75, op := _, type := _, pos := _, after := _, guard := _ }) (v := ?v18_10) rfl (by kernel_rfl) (by kernel_rfl) (by kernel_rfl) (fun _ _ _ h => h) (Or.inl ⟨by rfl, ?hy18_10⟩) hHeld ?_
      case hy18_10 => (intro w hSw; (try dsimp only at hSw); go_simp; try with_reducible rfl)
      simp only [Act.put, List.setIfInBounds_toArray, List.set_cons_zero, List.set_cons_succ]
      refine wpAnyH_take (i := 11) (oi := { dst := some 76, op := _, type := _, pos := _, after := _, guard := _ }) (v := ?v18_11) rfl (by kernel_rfl) (by kernel_rfl) (by kernel_rfl) (fun _ _ _ h => h) (Or.inl ⟨by rfl, ?hy18_11⟩) hHeld ?_
      case hy18_11 => (intro w hSw; (try dsimp only at hSw); go_simp; try with_reducible rfl)
      simp only [Act.put, List.setIfInBounds_toArray, List.set_cons_zero, List.set_cons_succ]
      refine wpAnyH_take (i := 12) (oi := { dst := some 77, op := _, type := _, pos := _, after := _, guard := _ }) (v := ?v18_12) rfl (by kernel_rfl) (by kernel_rfl) (by kernel_rfl) (fun _ _ _ h => h) (Or.inl ⟨by rfl, ?hy18_12⟩) hHeld ?_
      case hy18_12 => (intro w hSw; (try dsimp only at hSw); go_simp; try with_reducible rfl)
      simp only [Act.put, List.setIfInBounds_toArray, List.set_cons_zero, List.set_cons_succ]
      refine wpAnyH_take (i := 13) (oi := { dst := some 78, op := _, type := _, pos := _, after := _, guard := _ }) (v := ?v18_13) rfl (by kernel_rfl) (by kernel_rfl) (by kernel_rfl) (fun _ _ _ h => h) (Or.inl ⟨by rfl, ?hy18_13⟩) hHeld ?_
      case hy18_13 => (intro w hSw; (try dsimp only at hSw); go_simp; try with_reducible rfl)
      simp only [Act.put, List.setIfInBounds_toArray, List.set_cons_zero, List.set_cons_succ]
      refine wpAnyH_take (i := 14) (oi := { dst := some 79, op := _, type := _, pos := _, after := _, guard := _ }) (v := ?v18_14) rfl (by kernel_rfl) (by kernel_rfl) (by kernel_rfl) (fun _ _ _ h => h) (Or.inl ⟨by rfl, ?hy18_14⟩) hHeld ?_
      case hy18_14 => (intro w hSw; (try dsimp only at hSw); go_simp; try with_reducible rfl)
      simp only [Act.put, List.setIfInBounds_toArray, List.set_cons_zero, List.set_cons_succ]
      refine wpAnyH_take (i := 15) (oi := { dst := some 80, op := _, type := _, pos := _, after := _, guard := _ }) (v := ?v18_15) rfl (by kernel_rfl) (by kernel_rfl) (by kernel_rfl) (fun _ _ _ h => h) (Or.inl ⟨by rfl, ?hy18_15⟩) hHeld ?_
      case hy18_15 => (intro w hSw; (try dsimp only at hSw); go_simp; try with_reducible rfl)
      simp only [Act.put, List.setIfInBounds_toArray, List.set_cons_zero, List.set_cons_succ]
      refine wpAnyH_take (i := 16) (oi := { dst := some 81, op := _, type := _, pos := _, after := _, guard := _ }) (v := ?v18_16) rfl (by kernel_rfl) (by kernel_rfl) (by kernel_rfl) (fun _ _ _ h => h) (Or.inl ⟨by rfl, ?hy18_16⟩) hHeld ?_
      case hy18_16 => (intro w hSw; (try dsimp only at hSw); go_simp; try with_reducible rfl)
      simp only [Act.put, List.setIfInBounds_toArray, List.set_cons_zero, List.set_cons_succ]
      refine wpAnyH_take (i := 17) (oi := { dst := some 82, op := _, type := _, pos := _, after := _, guard := _ }) (v := ?v18_17) rfl (by kernel_rfl) (by kernel_rfl) (by kernel_rfl) (fun _ _ _ h => h) (Or.inl ⟨by rfl, ?hy18_17⟩) hHeld ?_
      case hy18_17 => (intro w hSw; (try dsimp only at hSw); go_simp; try with_reducible rfl)
      simp only [Act.put, List.setIfInBounds_toArray, List.set_cons_zero, List.set_cons_succ]
      refine wpAnyH_take (i := 18) (oi := { dst := some 83, op := _, type := _, pos := _, after := _, guard := _ }) (v := ?v18_18) rfl (by kernel_rfl) (by kernel_rfl) (by kernel_rfl) (fun _ _ _ h => h) (Or.inl ⟨by rfl, ?hy18_18⟩) hHeld ?_
      case hy18_18 => (intro w hSw; (try dsimp only at hSw); go_simp; try with_reducible rfl)
      simp only [Act.put, List.setIfInBounds_toArray, List.set_cons_zero, List.set_cons_succ]
      refine wpAnyH_ready (rs := [19]) (by kernel_rfl) (by simp) ?_
      refine AllReadyH.cons (o := { dst := some 84, op := _, type := _, pos := _, after := _, guard := _ }) rfl (fun K hK => ?_) AllReadyH.nil
      go_simp
      go_at_call 10
      refine (XP1.out _ (by assumption)).mono ?_
      rintro ee1 t1 ⟨rfl, hs1⟩
      refine hK.out _ _ hs1 (fun hHeld => ?_)
      clear hK K
      refine wpAnyH_take (i := 20) (oi := { dst := some 85, op := _, type := _, pos := _, after := _, guard := _ }) (v := ?v18_20) rfl (by kernel_rfl) (by kernel_rfl) (by kernel_rfl) (fun _ _ _ h => h) (Or.inl ⟨by rfl, ?hy18_20⟩) hHeld ?_
      case hy18_20 => (intro w hSw; (try dsimp only at hSw); go_simp; try with_reducible rfl)
      simp only [Act.put, List.setIfInBounds_toArray, List.set_cons_zero, List.set_cons_succ]
      refine wpAnyH_take (i := 21) (oi := { dst := some 6, op := _, type := _, pos := _, after := _, guard := _ }) (v := ?v18_21) rfl (by kernel_rfl) (by kernel_rfl) (by kernel_rfl) (fun _ _ _ h => h) (Or.inl ⟨by rfl, ?hy18_21⟩) hHeld ?_
      case hy18_21 => (intro w hSw; (try dsimp only at hSw); go_simp; try with_reducible rfl)
      simp only [Act.put, List.setIfInBounds_toArray, List.set_cons_zero, List.set_cons_succ]
      refine wpAnyH_done (by kernel_rfl) ?_ _
      go_wp2_with fail
      go_ret
      exact ⟨rfl, below_on B4.out hs1.2.2.2.2.2.2.2.2.2.2.2.2⟩
theorem l20total (M : PP) (a b c : Cd) (W : World) : Calls Try.prog 4 #[cdv a, cdv b, cdv c] W fun e w' => e = .returned (.bool true) ∧ Below W.heap.size W w' := by
  obtain ⟨a1, a2, a3, a4⟩ := a
  obtain ⟨b1, b2, b3, b4⟩ := b
  obtain ⟨c1, c2, c3, c4⟩ := c
  have HX := fun u => M.pr (⟨a1, a2, a3, a4⟩ : Cd) (⟨b1, b2, b3, b4⟩ : Cd) u
  have HY := fun u => M.pr (⟨b1, b2, b3, b4⟩ : Cd) (⟨a1, a2, a3, a4⟩ : Cd) u
  have HZ := fun u => M.pr (⟨b1, b2, b3, b4⟩ : Cd) (⟨c1, c2, c3, c4⟩ : Cd) u
  have HU := fun u => M.pr (⟨a1, a2, a3, a4⟩ : Cd) (⟨c1, c2, c3, c4⟩ : Cd) u
  have three : ¬ (a3 = b3 ∧ a1 = b1 ∧ a2 = b2) → ((a3 == b3) = false) ∨ ((a3 == b3) = true ∧ (a1 == b1) = false) ∨ ((a3 == b3) = true ∧ (a1 == b1) = true ∧ (a2 == b2) = false) := fun h => by
    cases x : (a3 == b3)
    · exact .inl rfl
    · cases y : (a1 == b1)
      · exact .inr (.inl ⟨rfl, rfl⟩)
      · cases z : (a2 == b2)
        · exact .inr (.inr ⟨rfl, rfl, rfl⟩)
        · simp only [beq_iff_eq] at x y z; exact absurd ⟨x, y, z⟩ h
  cases hX : prc (⟨a1, a2, a3, a4⟩ : Cd) (⟨b1, b2, b3, b4⟩ : Cd)
  · rw [hX] at HX
    cases hY : prc (⟨b1, b2, b3, b4⟩ : Cd) (⟨a1, a2, a3, a4⟩ : Cd)
    · rw [hY] at HY
      have e : a3 = b3 ∧ a1 = b1 ∧ a2 = b2 := by
        rw [prc_no] at hX hY; dsimp only at hX hY; omega
      exact l20t_fe M a1 a2 a3 b1 b2 b3 c1 c2 c3 a4 b4 c4 W _ _ _ rfl rfl rfl ⟨beq_iff_eq.2 e.1, beq_iff_eq.2 e.2.1, beq_iff_eq.2 e.2.2⟩ HX HY
    · rw [hY] at HY
      have e : ¬ (a3 = b3 ∧ a1 = b1 ∧ a2 = b2) := by
        rw [prc_iff] at hY; dsimp only at hY; omega
      exact l20t_ft M a1 a2 a3 b1 b2 b3 c1 c2 c3 a4 b4 c4 W _ _ _ rfl rfl rfl (three e) HX HY
  · rw [hX] at HX
    rw [prc_asym hX] at HY
    have e : ¬ (a3 = b3 ∧ a1 = b1 ∧ a2 = b2) := by
      rw [prc_iff] at hX; dsimp only at hX; omega
    cases hZ : prc (⟨b1, b2, b3, b4⟩ : Cd) (⟨c1, c2, c3, c4⟩ : Cd)
    · rw [hZ] at HZ
      exact l20t_z M a1 a2 a3 b1 b2 b3 c1 c2 c3 a4 b4 c4 W _ _ _ rfl rfl rfl (three e) HX HY HZ
    · rw [hZ] at HZ
      have hU : prc (⟨a1, a2, a3, a4⟩ : Cd) (⟨c1, c2, c3, c4⟩ : Cd) = true := by
        rw [prc_iff] at hX hZ ⊢; dsimp only at hX hZ ⊢; omega
      rw [hU] at HU
      exact l20t_u M a1 a2 a3 b1 b2 b3 c1 c2 c3 a4 b4 c4 W _ _ _ rfl rfl rfl (three e) HX HY HZ HU
end Go.Proofs.Ytomoaolomddidaa
