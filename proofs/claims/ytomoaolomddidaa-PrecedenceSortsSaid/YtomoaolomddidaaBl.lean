/- Stage 20's law PrecedenceMatchesReference, given what package precedence's functions answer. -/
import Derived.Test.YtomoaolomddidaaBk
namespace Go.Proofs.Ytomoaolomddidaa
open Go.RowKit

theorem four_set {w u : World} {b t : Nat} {o0 o1 o2 o3 x0 x1 x2 x3 : Value} (h : w.heap[b]? = some (.cells #[o0, o1, o2, o3] t (0, 0)))
    (hu : (((w.setCell ⟨b, 0, none⟩ x0).setCell ⟨b, 1, none⟩ x1).setCell ⟨b, 2, none⟩ x2).setCell ⟨b, 3, none⟩ x3 = u) : u.heap[b]? = some (.cells #[x0, x1, x2, x3] t (0, 0)) ∧ Below b w u := by
  subst hu
  have h0 := heap_setCell_same w b 0 _ _ x0 h
  have h1 := heap_setCell_same _ b 1 _ _ x1 h0
  have h2 := heap_setCell_same _ b 2 _ _ x2 h1
  have h3 := heap_setCell_same _ b 3 _ _ x3 h2
  exact ⟨h3, ((((Below.refl b w).setCell (p := ⟨b, 0, none⟩) (Nat.le_refl _) _).setCell (p := ⟨b, 1, none⟩) (Nat.le_refl _) _).setCell (p := ⟨b, 2, none⟩) (Nat.le_refl _) _).setCell (p := ⟨b, 3, none⟩) (Nat.le_refl _) _⟩
theorem fr_cd {w : World} {b t : Nat} {x0 x1 x2 x3 : Value} (h : w.heap[b]? = some (.cells #[x0, x1, x2, x3] t (0, 0))) :
    w.frozen? ⟨b, 0, none⟩ = false ∧ w.frozen? ⟨b, 1, none⟩ = false ∧ w.frozen? ⟨b, 2, none⟩ = false ∧ w.frozen? ⟨b, 3, none⟩ = false := by
  have c := fun j => frozen_of_row w b j _ _ h
  exact ⟨c 0, c 1, c 2, c 3⟩
theorem hdR_at {l : List Cd} (h : 0 < l.length) : (srtR l)[0]? = some (hdR l) := by
  have := srtR_len l
  unfold hdR
  cases e : srtR l with
  | nil => rw [e] at this; simp at this; omega
  | cons x xs => rfl
theorem cs_two {w : World} {b t : Nat} {x y : Cd} (h : w.heap[b]? = some (.cells #[.int .i64 x.k, .int .i64 x.i, .int .i64 x.r, .string x.id, .int .i64 y.k, .int .i64 y.i, .int .i64 y.r, .string y.id] t (0, 0))) :
    CsAt w (.slice (some ⟨b, 0, none⟩) 2 2) [x, y] := by
  have c := fun j => cell_of_row w b j _ _ _ h
  refine ⟨_, 2, rfl, Nat.le_refl _, by unfold maxLen; omega, fun i d hd => ⟨b, 0, rfl, ?_⟩⟩
  match i, hd with
  | 0, hd => obtain rfl : x = d := by simpa using hd
             exact ⟨(c 0).trans rfl, (c 1).trans rfl, (c 2).trans rfl, (c 3).trans rfl⟩
  | 1, hd => obtain rfl : y = d := by simpa using hd
             exact ⟨(c 4).trans rfl, (c 5).trans rfl, (c 6).trans rfl, (c 7).trans rfl⟩
  | n + 2, hd => simp at hd
set_option maxHeartbeats 1000000 in
set_option maxRecDepth 100000 in
theorem l20m_far (M : PP) (v : Value) (l : List Cd) (a b : Cd) (W : World) (h : CsAt W v l) (hl : 60 < l.length) : Calls Try.prog 3 #[v, cdv a, cdv b] W fun e w' => e = .returned (.bool true) ∧ Below W.heap.size W w' := by
  obtain ⟨A, cap, rfl, h1, h2, h3⟩ := h
  have HA := Lib.hid (fun u => c20awake_any M u)
  have d1 : decide ((60 : Int) < (l.length : Int)) = true := decide_eq_true (by omega)
  obtain ⟨a1, a2, a3, a4⟩ := a
  obtain ⟨b1, b2, b3, b4⟩ := b
  clear M h1 h2 h3
  have B0 : Hid (Below W.heap.size W ((W.alloc (Obj.cells #[.int .i64 a1, .int .i64 a2, .int .i64 a3, .string a4] 24)).alloc (Obj.cells #[.int .i64 b1, .int .i64 b2, .int .i64 b3, .string b4] 24))) := Lib.hid (((Below.refl _ _).alloc (Nat.le_refl _) _).alloc (by simp) _)
  go_enter Try.func3, Try.ntmps3
  go_wp2_with fail
  refine (HA.out _).mono ?_
  rintro e w1 ⟨rfl, hb1⟩
  have B1 := Lib.hid (below_on B0.out hb1)
  clear hb1
  go_wp2_with fail
  refine (HA.out _).mono ?_
  rintro e w2 ⟨rfl, hb2⟩
  have B2 := Lib.hid (below_on B1.out hb2)
  clear hb2
  go_wp2_with fail
  go_ret
  exact ⟨rfl, B2.out⟩
theorem below_up {a b c : World} {B : Nat} (h : Below a.heap.size a b) (g : Below B b c) (hB : a.heap.size ≤ B) : Below a.heap.size a c := h.trans (g.mono hB)
theorem below_up4 {W a b : World} (h : Below W.heap.size W a) (g : Below a.heap.size a b) : Below W.heap.size W b := below_on h g
theorem below_mid {a b c : World} (h : Below a.heap.size a b) (g : Below b.heap.size b c) : Below a.heap.size a c := below_on h g
set_option maxHeartbeats 1000000 in
set_option maxRecDepth 100000 in
theorem l20m_ok (M : PP) (v : Value) (l : List Cd) (a1 a2 a3 b1 b2 b3 h1 h2 h3 : Int) (a4 b4 h4 : ByteArray) (W : World) (h : CsAt W v l) (hl : l.length ≤ 60) (hn : 0 < l.length) (hh : hdR l = (⟨h1, h2, h3, h4⟩ : Cd))
    (X : Bool) (HX : ∀ u, Calls Try.prog 10 #[cdv (⟨a1, a2, a3, a4⟩ : Cd), cdv (⟨b1, b2, b3, b4⟩ : Cd)] u fun e w' => e = .returned (.bool X) ∧ Below u.heap.size u w')
    (HY : ∀ u, Calls Try.prog 11 #[cdv (⟨a1, a2, a3, a4⟩ : Cd), cdv (⟨b1, b2, b3, b4⟩ : Cd)] u fun e w' => e = .returned (.bool X) ∧ Below u.heap.size u w') :
    Calls Try.prog 3 #[v, cdv (⟨a1, a2, a3, a4⟩ : Cd), cdv (⟨b1, b2, b3, b4⟩ : Cd)] W fun e w' => e = .returned (.bool true) ∧ Below W.heap.size W w' := by
  have HA := Lib.hid (fun u => c20awake_any M u)
  have HF := Lib.hid (fun v l u h1 h2 => fwd_any v l u h1 h2)
  have HB := Lib.hid (fun v l u h1 h2 => bck_any v l u h1 h2)
  have HS := Lib.hid (fun v l u h1 h2 => r20so_any v l u h1 h2)
  have HP := Lib.hid (fun v l u h1 h2 => M.so v l u h1 h2)
  have HE := Lib.hid (fun v v' l u hl h h' => r19same_eq v v' l u hl h h')
  have HQ := Lib.hid (fun v u (hv : CsAt u v l) => (show Calls Try.prog 9 #[v] u (fun e w' => e = .returned (.tuple #[cdv (⟨h1, h2, h3, h4⟩ : Cd), .bool true]) ∧ Below u.heap.size u w') from by
    have := M.fi v l u hl hv
    rw [hh, show (!l.isEmpty) = true from by cases l <;> simp_all] at this
    exact this))
  have hlen := Lib.hid (srtR_len l)
  have h0 := Lib.hid (fun hp => (hdR_at (l := l) hp).trans (by rw [hh]))
  clear M
  have H := Lib.hid h
  obtain ⟨A, cap, hA, k1, k2, k3⟩ := h
  clear k3
  subst hA
  have d1 : decide ((60 : Int) < (l.length : Int)) = false := decide_eq_false (by omega)
  have d2 : decide ((0 : Int) < (l.length : Int)) = true := decide_eq_true (by omega)
  have RA := Lib.hid (row_al (heap_alloc_new W (Obj.cells #[.int .i64 a1, .int .i64 a2, .int .i64 a3, .string a4] 24)) (Obj.cells #[.int .i64 b1, .int .i64 b2, .int .i64 b3, .string b4] 24))
  have RB := Lib.hid (row_new1 W (Obj.cells #[.int .i64 a1, .int .i64 a2, .int .i64 a3, .string a4] 24) (Obj.cells #[.int .i64 b1, .int .i64 b2, .int .i64 b3, .string b4] 24))
  have B0 : Hid (Below W.heap.size W ((W.alloc (Obj.cells #[.int .i64 a1, .int .i64 a2, .int .i64 a3, .string a4] 24)).alloc (Obj.cells #[.int .i64 b1, .int .i64 b2, .int .i64 b3, .string b4] 24))) := Lib.hid (((Below.refl _ _).alloc (Nat.le_refl _) _).alloc (by simp) _)
  go_enter Try.func3, Try.ntmps3
  go_wp2_with fail
  refine (HA.out _).mono ?_
  rintro e w1 ⟨rfl, hb1⟩
  have B1 := Lib.hid (below_on B0.out hb1)
  have RA1 := Lib.hid (row_on RA.out hb1)
  have RB1 := Lib.hid (row_on RB.out hb1)
  have H1 := Lib.hid (H.out.on B1.out)
  clear hb1 RA RB B0 H
  go_wp2_with fail
  refine (HF.out _ l _ (by omega) H1.out).mono ?_
  rintro e w2 ⟨v7, rfl, hv7, hb2⟩
  have B2 := Lib.hid (below_on B1.out hb2)
  have RA2 := Lib.hid (row_on RA1.out hb2)
  have RB2 := Lib.hid (row_on RB1.out hb2)
  have H2 := Lib.hid (H1.out.on hb2)
  have V7 := Lib.hid hv7.cs
  clear hb2 hv7 RA1 RB1 H1 B1
  go_wp2_with fail
  refine (HS.out _ l _ (by omega) H2.out).mono ?_
  rintro e w3 ⟨v8, rfl, hv8, hb3⟩
  have B3 := Lib.hid (below_on B2.out hb3)
  have RA3 := Lib.hid (row_on RA2.out hb3)
  have RB3 := Lib.hid (row_on RB2.out hb3)
  have H3 := Lib.hid (H2.out.on hb3)
  have V73 := Lib.hid (V7.out.on hb3)
  have V83 := Lib.hid hv8.cs
  clear hb3 hv8 RA2 RB2 H2 B2 V7
  go_wp2_with fail
  refine (HQ.out _ _ V73.out).mono ?_
  rintro e w4 ⟨rfl, hb4⟩
  have hszw : Hid (W.heap.size + 2 ≤ w4.heap.size) := Lib.hid (by
    have s1 : W.heap.size + 1 < w3.heap.size := World.block_lt_of_cell? w3 _ (row_cd RB3.out).1
    have s2 := hb4.size
    omega)
  have hq4 : Below w4.heap.size w4 (w4.alloc (Obj.cells #[.int .i64 h1, .int .i64 h2, .int .i64 h3, .string h4] 29)) := (Below.refl _ _).alloc (Nat.le_refl _) _
  have B4 := Lib.hid (below_on (below_on B3.out hb4) hq4)
  have RA4 := Lib.hid (row_on (row_on RA3.out hb4) hq4)
  have RB4 := Lib.hid (row_on (row_on RB3.out hb4) hq4)
  have RX4 := Lib.hid (heap_alloc_new w4 (Obj.cells #[.int .i64 h1, .int .i64 h2, .int .i64 h3, .string h4] 29))
  have H4 := Lib.hid ((H3.out.on hb4).on hq4)
  have V74 := Lib.hid ((V73.out.on hb4).on hq4)
  have V84 := Lib.hid ((V83.out.on hb4).on hq4)
  clear hb4 hq4 RA3 RB3 H3 B3 V73 V83
  obtain ⟨A8, cap8, hA8, k3, k4, k5⟩ := V84.out
  clear k3 k4 k5
  subst hA8
  have d3 : decide ((0 : Int) < ((srtR l).length : Int)) = true := decide_eq_true (by rw [hlen.out]; omega)
  have d4 : decide (0 < (srtR l).length) = true := decide_eq_true (by rw [hlen.out]; omega)
  have d5 : decide (0 < l.length) = true := decide_eq_true (by omega)
  have RF4 := Lib.hid (heap_alloc_new (w4.alloc (Obj.cells #[.int .i64 h1, .int .i64 h2, .int .i64 h3, .string h4] 29)) (Obj.cells #[.int .i64 0, .int .i64 0, .int .i64 0, .string ⟨#[]⟩] 29))
  rw [show (w4.alloc (Obj.cells #[.int .i64 h1, .int .i64 h2, .int .i64 h3, .string h4] 29)).heap.size = w4.heap.size + 1 from by simp] at RF4
  have hq5 : Below (w4.alloc (Obj.cells #[.int .i64 h1, .int .i64 h2, .int .i64 h3, .string h4] 29)).heap.size (w4.alloc (Obj.cells #[.int .i64 h1, .int .i64 h2, .int .i64 h3, .string h4] 29)) ((w4.alloc (Obj.cells #[.int .i64 h1, .int .i64 h2, .int .i64 h3, .string h4] 29)).alloc (Obj.cells #[.int .i64 0, .int .i64 0, .int .i64 0, .string ⟨#[]⟩] 29)) := (Below.refl _ _).alloc (Nat.le_refl _) _
  go_wp2_with fail
  refine (HF.out _ (srtR l) _ (by rw [hlen.out]; omega) (V84.out.on hq5)).mono ?_
  rintro e w5 ⟨v35, rfl, hv35, hb5⟩
  obtain ⟨A9, cap9, hA9, _, _, hit⟩ := hv35.cs
  obtain ⟨g9, q9, rfl, i9⟩ := hit 0 _ (h0.out hn)
  subst hA9
  obtain ⟨m0, m1, m2, m3⟩ := (show CdAt w5 g9 q9 (⟨h1, h2, h3, h4⟩ : Cd) from i9)
  have RF5 := Lib.hid (row_on RF4.out hb5)
  have hq6 := Lib.hid (below_mid hq5 hb5)
  have hlt5 : (0 : Int) < (srtR l).length := by rw [hlen.out]; omega
  obtain ⟨f0, f1, f2, f3⟩ := row_cd RF5.out
  obtain ⟨z0, z1, z2, z3⟩ := fr_cd RF5.out
  clear hb5 hv35 hit hq5
  obtain ⟨rf, hb5⟩ := four_set (x0 := .int .i64 h1) (x1 := .int .i64 h2) (x2 := .int .i64 h3) (x3 := .string h4) RF5.out rfl
  have RF6 := Lib.hid rf
  have e5 := Lib.hid (below_up hq6.out hb5 (by simp))
  have RA5 := Lib.hid (row_on RA4.out e5.out)
  have RB5 := Lib.hid (row_on RB4.out e5.out)
  obtain ⟨x0, x1, x2, x3⟩ := row_cd RA5.out
  obtain ⟨y0, y1, y2, y3⟩ := row_cd RB5.out
  go_wp2_with fail
  generalize hu : (((w5.setCell ⟨w4.heap.size + 1, 0, none⟩ (.int .i64 h1)).setCell ⟨w4.heap.size + 1, 1, none⟩ (.int .i64 h2)).setCell ⟨w4.heap.size + 1, 2, none⟩ (.int .i64 h3)).setCell ⟨w4.heap.size + 1, 3, none⟩ (.string h4) = u5 at *
  have hsz5 : Hid (u5.heap.size = w5.heap.size) := Lib.hid (by rw [← hu]; simp)
  clear hu rf hb5 hq6 RF5 f0 f1 f2 f3 z0 z1 z2 z3 m0 m1 m2 m3 RA5 RB5 x0 x1 x2 x3 y0 y1 y2 y3
  have B6 := Lib.hid (below_up4 B4.out e5.out)
  have RA6 := Lib.hid (row_on RA4.out e5.out)
  have RB6 := Lib.hid (row_on RB4.out e5.out)
  have RX6 := Lib.hid (row_on RX4.out e5.out)
  have H6 := Lib.hid (H4.out.on e5.out)
  have V76 := Lib.hid (V74.out.on e5.out)
  have V86 := Lib.hid (V84.out.on e5.out)
  clear RA4 RB4 RX4 H4 V74 V84 e5 B4
  have RL := Lib.hid (heap_alloc_new u5 (Obj.cells #[.int .i64 a1, .int .i64 a2, .int .i64 a3, .string a4, .int .i64 b1, .int .i64 b2, .int .i64 b3, .string b4] 24))
  rw [hsz5.out] at RL
  refine (HF.out _ _ _ (by simp) (cs_two (x := (⟨a1, a2, a3, a4⟩ : Cd)) (y := (⟨b1, b2, b3, b4⟩ : Cd)) RL.out)).mono ?_
  rintro e w6 ⟨v12, rfl, hv12, hb6⟩
  obtain ⟨Ap, capp, hAp, _, _, hit⟩ := hv12.cs
  obtain ⟨g, q, rfl, i0⟩ := hit 0 _ rfl
  obtain ⟨g1, s1, f1, i1⟩ := hit 1 _ rfl
  obtain ⟨rfl, rfl⟩ : g = g1 ∧ q = s1 := by cases f1; exact ⟨rfl, rfl⟩
  subst hAp
  have hq7 := Lib.hid (below_mid ((Below.refl u5.heap.size u5).alloc (Nat.le_refl _) _) hb6)
  have B7 := Lib.hid (below_on B6.out hq7.out)
  have RA7 := Lib.hid (row_on RA6.out hq7.out)
  have RB7 := Lib.hid (row_on RB6.out hq7.out)
  have RX7 := Lib.hid (row_on RX6.out hq7.out)
  have RF7 := Lib.hid (row_on RF6.out hq7.out)
  have H7 := Lib.hid (H6.out.on hq7.out)
  have V77 := Lib.hid (V76.out.on hq7.out)
  have V87 := Lib.hid (V86.out.on hq7.out)
  clear hb6 hv12 hit f1 RL RA6 RB6 RX6 RF6 H6 V76 V86 B6 hq7
  obtain ⟨q0, q1, q2, q3⟩ := i0
  obtain ⟨q4, q5, q6, q7⟩ := i1
  obtain ⟨x0, x1, x2, x3⟩ := row_cd RA7.out
  obtain ⟨y0, y1, y2, y3⟩ := row_cd RB7.out
  obtain ⟨m0, m1, m2, m3⟩ := row_cd RX7.out
  obtain ⟨n0, n1, n2, n3⟩ := row_cd RF7.out
  have hE := eq_cd (⟨h1, h2, h3, h4⟩ : Cd)
  have Hs := Lib.hid (show w6.drew.cell? ⟨g, q, none⟩ = some (.int .i64 a1) ∧ w6.drew.cell? ⟨g, q + 1, none⟩ = some (.int .i64 a2) ∧ w6.drew.cell? ⟨g, q + 2, none⟩ = some (.int .i64 a3) ∧ w6.drew.cell? ⟨g, q + 3, none⟩ = some (.string a4) ∧ w6.drew.cell? ⟨g, q + 4, none⟩ = some (.int .i64 b1) ∧ w6.drew.cell? ⟨g, q + 5, none⟩ = some (.int .i64 b2) ∧ w6.drew.cell? ⟨g, q + 6, none⟩ = some (.int .i64 b3) ∧ w6.drew.cell? ⟨g, q + 7, none⟩ = some (.string b4) ∧ w6.drew.cell? ⟨W.heap.size, 0, none⟩ = some (.int .i64 a1) ∧ w6.drew.cell? ⟨W.heap.size, 1, none⟩ = some (.int .i64 a2) ∧ w6.drew.cell? ⟨W.heap.size, 2, none⟩ = some (.int .i64 a3) ∧ w6.drew.cell? ⟨W.heap.size, 3, none⟩ = some (.string a4) ∧ w6.drew.cell? ⟨W.heap.size + 1, 0, none⟩ = some (.int .i64 b1) ∧ w6.drew.cell? ⟨W.heap.size + 1, 1, none⟩ = some (.int .i64 b2) ∧ w6.drew.cell? ⟨W.heap.size + 1, 2, none⟩ = some (.int .i64 b3) ∧ w6.drew.cell? ⟨W.heap.size + 1, 3, none⟩ = some (.string b4) ∧ w6.drew.cell? ⟨w4.heap.size, 0, none⟩ = some (.int .i64 h1) ∧ w6.drew.cell? ⟨w4.heap.size, 1, none⟩ = some (.int .i64 h2) ∧ w6.drew.cell? ⟨w4.heap.size, 2, none⟩ = some (.int .i64 h3) ∧ w6.drew.cell? ⟨w4.heap.size, 3, none⟩ = some (.string h4) ∧ w6.drew.cell? ⟨w4.heap.size + 1, 0, none⟩ = some (.int .i64 h1) ∧ w6.drew.cell? ⟨w4.heap.size + 1, 1, none⟩ = some (.int .i64 h2) ∧ w6.drew.cell? ⟨w4.heap.size + 1, 2, none⟩ = some (.int .i64 h3) ∧ w6.drew.cell? ⟨w4.heap.size + 1, 3, none⟩ = some (.string h4) ∧ Below w6.heap.size w6 w6.drew from ⟨q0, q1, q2, q3, q4, q5, q6, q7, x0, x1, x2, x3, y0, y1, y2, y3, m0, m1, m2, m3, n0, n1, n2, n3, below_dn (Below.refl _ _) 1⟩)
  have XP := Lib.hid (fun u (hu : u.cell? ⟨g, q, none⟩ = some (.int .i64 a1) ∧ u.cell? ⟨g, q + 1, none⟩ = some (.int .i64 a2) ∧ u.cell? ⟨g, q + 2, none⟩ = some (.int .i64 a3) ∧ u.cell? ⟨g, q + 3, none⟩ = some (.string a4) ∧ u.cell? ⟨g, q + 4, none⟩ = some (.int .i64 b1) ∧ u.cell? ⟨g, q + 5, none⟩ = some (.int .i64 b2) ∧ u.cell? ⟨g, q + 6, none⟩ = some (.int .i64 b3) ∧ u.cell? ⟨g, q + 7, none⟩ = some (.string b4) ∧ u.cell? ⟨W.heap.size, 0, none⟩ = some (.int .i64 a1) ∧ u.cell? ⟨W.heap.size, 1, none⟩ = some (.int .i64 a2) ∧ u.cell? ⟨W.heap.size, 2, none⟩ = some (.int .i64 a3) ∧ u.cell? ⟨W.heap.size, 3, none⟩ = some (.string a4) ∧ u.cell? ⟨W.heap.size + 1, 0, none⟩ = some (.int .i64 b1) ∧ u.cell? ⟨W.heap.size + 1, 1, none⟩ = some (.int .i64 b2) ∧ u.cell? ⟨W.heap.size + 1, 2, none⟩ = some (.int .i64 b3) ∧ u.cell? ⟨W.heap.size + 1, 3, none⟩ = some (.string b4) ∧ u.cell? ⟨w4.heap.size, 0, none⟩ = some (.int .i64 h1) ∧ u.cell? ⟨w4.heap.size, 1, none⟩ = some (.int .i64 h2) ∧ u.cell? ⟨w4.heap.size, 2, none⟩ = some (.int .i64 h3) ∧ u.cell? ⟨w4.heap.size, 3, none⟩ = some (.string h4) ∧ u.cell? ⟨w4.heap.size + 1, 0, none⟩ = some (.int .i64 h1) ∧ u.cell? ⟨w4.heap.size + 1, 1, none⟩ = some (.int .i64 h2) ∧ u.cell? ⟨w4.heap.size + 1, 2, none⟩ = some (.int .i64 h3) ∧ u.cell? ⟨w4.heap.size + 1, 3, none⟩ = some (.string h4) ∧ Below w6.heap.size w6 u) => (HX u).mono (R' := fun e u' => e = .returned (.bool X) ∧ (u'.cell? ⟨g, q, none⟩ = some (.int .i64 a1) ∧ u'.cell? ⟨g, q + 1, none⟩ = some (.int .i64 a2) ∧ u'.cell? ⟨g, q + 2, none⟩ = some (.int .i64 a3) ∧ u'.cell? ⟨g, q + 3, none⟩ = some (.string a4) ∧ u'.cell? ⟨g, q + 4, none⟩ = some (.int .i64 b1) ∧ u'.cell? ⟨g, q + 5, none⟩ = some (.int .i64 b2) ∧ u'.cell? ⟨g, q + 6, none⟩ = some (.int .i64 b3) ∧ u'.cell? ⟨g, q + 7, none⟩ = some (.string b4) ∧ u'.cell? ⟨W.heap.size, 0, none⟩ = some (.int .i64 a1) ∧ u'.cell? ⟨W.heap.size, 1, none⟩ = some (.int .i64 a2) ∧ u'.cell? ⟨W.heap.size, 2, none⟩ = some (.int .i64 a3) ∧ u'.cell? ⟨W.heap.size, 3, none⟩ = some (.string a4) ∧ u'.cell? ⟨W.heap.size + 1, 0, none⟩ = some (.int .i64 b1) ∧ u'.cell? ⟨W.heap.size + 1, 1, none⟩ = some (.int .i64 b2) ∧ u'.cell? ⟨W.heap.size + 1, 2, none⟩ = some (.int .i64 b3) ∧ u'.cell? ⟨W.heap.size + 1, 3, none⟩ = some (.string b4) ∧ u'.cell? ⟨w4.heap.size, 0, none⟩ = some (.int .i64 h1) ∧ u'.cell? ⟨w4.heap.size, 1, none⟩ = some (.int .i64 h2) ∧ u'.cell? ⟨w4.heap.size, 2, none⟩ = some (.int .i64 h3) ∧ u'.cell? ⟨w4.heap.size, 3, none⟩ = some (.string h4) ∧ u'.cell? ⟨w4.heap.size + 1, 0, none⟩ = some (.int .i64 h1) ∧ u'.cell? ⟨w4.heap.size + 1, 1, none⟩ = some (.int .i64 h2) ∧ u'.cell? ⟨w4.heap.size + 1, 2, none⟩ = some (.int .i64 h3) ∧ u'.cell? ⟨w4.heap.size + 1, 3, none⟩ = some (.string h4) ∧ Below w6.heap.size w6 u')) fun e u' ⟨he, hq⟩ => ⟨he, ⟨cell_below hu.1 hq, cell_below hu.2.1 hq, cell_below hu.2.2.1 hq, cell_below hu.2.2.2.1 hq, cell_below hu.2.2.2.2.1 hq, cell_below hu.2.2.2.2.2.1 hq, cell_below hu.2.2.2.2.2.2.1 hq, cell_below hu.2.2.2.2.2.2.2.1 hq, cell_below hu.2.2.2.2.2.2.2.2.1 hq, cell_below hu.2.2.2.2.2.2.2.2.2.1 hq, cell_below hu.2.2.2.2.2.2.2.2.2.2.1 hq, cell_below hu.2.2.2.2.2.2.2.2.2.2.2.1 hq, cell_below hu.2.2.2.2.2.2.2.2.2.2.2.2.1 hq, cell_below hu.2.2.2.2.2.2.2.2.2.2.2.2.2.1 hq, cell_below hu.2.2.2.2.2.2.2.2.2.2.2.2.2.2.1 hq, cell_below hu.2.2.2.2.2.2.2.2.2.2.2.2.2.2.2.1 hq, cell_below hu.2.2.2.2.2.2.2.2.2.2.2.2.2.2.2.2.1 hq, cell_below hu.2.2.2.2.2.2.2.2.2.2.2.2.2.2.2.2.2.1 hq, cell_below hu.2.2.2.2.2.2.2.2.2.2.2.2.2.2.2.2.2.2.1 hq, cell_below hu.2.2.2.2.2.2.2.2.2.2.2.2.2.2.2.2.2.2.2.1 hq, cell_below hu.2.2.2.2.2.2.2.2.2.2.2.2.2.2.2.2.2.2.2.2.1 hq, cell_below hu.2.2.2.2.2.2.2.2.2.2.2.2.2.2.2.2.2.2.2.2.2.1 hq, cell_below hu.2.2.2.2.2.2.2.2.2.2.2.2.2.2.2.2.2.2.2.2.2.2.1 hq, cell_below hu.2.2.2.2.2.2.2.2.2.2.2.2.2.2.2.2.2.2.2.2.2.2.2.1 hq, below_on hu.2.2.2.2.2.2.2.2.2.2.2.2.2.2.2.2.2.2.2.2.2.2.2.2 hq⟩⟩)
  have XY := Lib.hid (fun u (hu : u.cell? ⟨g, q, none⟩ = some (.int .i64 a1) ∧ u.cell? ⟨g, q + 1, none⟩ = some (.int .i64 a2) ∧ u.cell? ⟨g, q + 2, none⟩ = some (.int .i64 a3) ∧ u.cell? ⟨g, q + 3, none⟩ = some (.string a4) ∧ u.cell? ⟨g, q + 4, none⟩ = some (.int .i64 b1) ∧ u.cell? ⟨g, q + 5, none⟩ = some (.int .i64 b2) ∧ u.cell? ⟨g, q + 6, none⟩ = some (.int .i64 b3) ∧ u.cell? ⟨g, q + 7, none⟩ = some (.string b4) ∧ u.cell? ⟨W.heap.size, 0, none⟩ = some (.int .i64 a1) ∧ u.cell? ⟨W.heap.size, 1, none⟩ = some (.int .i64 a2) ∧ u.cell? ⟨W.heap.size, 2, none⟩ = some (.int .i64 a3) ∧ u.cell? ⟨W.heap.size, 3, none⟩ = some (.string a4) ∧ u.cell? ⟨W.heap.size + 1, 0, none⟩ = some (.int .i64 b1) ∧ u.cell? ⟨W.heap.size + 1, 1, none⟩ = some (.int .i64 b2) ∧ u.cell? ⟨W.heap.size + 1, 2, none⟩ = some (.int .i64 b3) ∧ u.cell? ⟨W.heap.size + 1, 3, none⟩ = some (.string b4) ∧ u.cell? ⟨w4.heap.size, 0, none⟩ = some (.int .i64 h1) ∧ u.cell? ⟨w4.heap.size, 1, none⟩ = some (.int .i64 h2) ∧ u.cell? ⟨w4.heap.size, 2, none⟩ = some (.int .i64 h3) ∧ u.cell? ⟨w4.heap.size, 3, none⟩ = some (.string h4) ∧ u.cell? ⟨w4.heap.size + 1, 0, none⟩ = some (.int .i64 h1) ∧ u.cell? ⟨w4.heap.size + 1, 1, none⟩ = some (.int .i64 h2) ∧ u.cell? ⟨w4.heap.size + 1, 2, none⟩ = some (.int .i64 h3) ∧ u.cell? ⟨w4.heap.size + 1, 3, none⟩ = some (.string h4) ∧ Below w6.heap.size w6 u) => (HY u).mono (R' := fun e u' => e = .returned (.bool X) ∧ (u'.cell? ⟨g, q, none⟩ = some (.int .i64 a1) ∧ u'.cell? ⟨g, q + 1, none⟩ = some (.int .i64 a2) ∧ u'.cell? ⟨g, q + 2, none⟩ = some (.int .i64 a3) ∧ u'.cell? ⟨g, q + 3, none⟩ = some (.string a4) ∧ u'.cell? ⟨g, q + 4, none⟩ = some (.int .i64 b1) ∧ u'.cell? ⟨g, q + 5, none⟩ = some (.int .i64 b2) ∧ u'.cell? ⟨g, q + 6, none⟩ = some (.int .i64 b3) ∧ u'.cell? ⟨g, q + 7, none⟩ = some (.string b4) ∧ u'.cell? ⟨W.heap.size, 0, none⟩ = some (.int .i64 a1) ∧ u'.cell? ⟨W.heap.size, 1, none⟩ = some (.int .i64 a2) ∧ u'.cell? ⟨W.heap.size, 2, none⟩ = some (.int .i64 a3) ∧ u'.cell? ⟨W.heap.size, 3, none⟩ = some (.string a4) ∧ u'.cell? ⟨W.heap.size + 1, 0, none⟩ = some (.int .i64 b1) ∧ u'.cell? ⟨W.heap.size + 1, 1, none⟩ = some (.int .i64 b2) ∧ u'.cell? ⟨W.heap.size + 1, 2, none⟩ = some (.int .i64 b3) ∧ u'.cell? ⟨W.heap.size + 1, 3, none⟩ = some (.string b4) ∧ u'.cell? ⟨w4.heap.size, 0, none⟩ = some (.int .i64 h1) ∧ u'.cell? ⟨w4.heap.size, 1, none⟩ = some (.int .i64 h2) ∧ u'.cell? ⟨w4.heap.size, 2, none⟩ = some (.int .i64 h3) ∧ u'.cell? ⟨w4.heap.size, 3, none⟩ = some (.string h4) ∧ u'.cell? ⟨w4.heap.size + 1, 0, none⟩ = some (.int .i64 h1) ∧ u'.cell? ⟨w4.heap.size + 1, 1, none⟩ = some (.int .i64 h2) ∧ u'.cell? ⟨w4.heap.size + 1, 2, none⟩ = some (.int .i64 h3) ∧ u'.cell? ⟨w4.heap.size + 1, 3, none⟩ = some (.string h4) ∧ Below w6.heap.size w6 u')) fun e u' ⟨he, hq⟩ => ⟨he, ⟨cell_below hu.1 hq, cell_below hu.2.1 hq, cell_below hu.2.2.1 hq, cell_below hu.2.2.2.1 hq, cell_below hu.2.2.2.2.1 hq, cell_below hu.2.2.2.2.2.1 hq, cell_below hu.2.2.2.2.2.2.1 hq, cell_below hu.2.2.2.2.2.2.2.1 hq, cell_below hu.2.2.2.2.2.2.2.2.1 hq, cell_below hu.2.2.2.2.2.2.2.2.2.1 hq, cell_below hu.2.2.2.2.2.2.2.2.2.2.1 hq, cell_below hu.2.2.2.2.2.2.2.2.2.2.2.1 hq, cell_below hu.2.2.2.2.2.2.2.2.2.2.2.2.1 hq, cell_below hu.2.2.2.2.2.2.2.2.2.2.2.2.2.1 hq, cell_below hu.2.2.2.2.2.2.2.2.2.2.2.2.2.2.1 hq, cell_below hu.2.2.2.2.2.2.2.2.2.2.2.2.2.2.2.1 hq, cell_below hu.2.2.2.2.2.2.2.2.2.2.2.2.2.2.2.2.1 hq, cell_below hu.2.2.2.2.2.2.2.2.2.2.2.2.2.2.2.2.2.1 hq, cell_below hu.2.2.2.2.2.2.2.2.2.2.2.2.2.2.2.2.2.2.1 hq, cell_below hu.2.2.2.2.2.2.2.2.2.2.2.2.2.2.2.2.2.2.2.1 hq, cell_below hu.2.2.2.2.2.2.2.2.2.2.2.2.2.2.2.2.2.2.2.2.1 hq, cell_below hu.2.2.2.2.2.2.2.2.2.2.2.2.2.2.2.2.2.2.2.2.2.1 hq, cell_below hu.2.2.2.2.2.2.2.2.2.2.2.2.2.2.2.2.2.2.2.2.2.2.1 hq, cell_below hu.2.2.2.2.2.2.2.2.2.2.2.2.2.2.2.2.2.2.2.2.2.2.2.1 hq, below_on hu.2.2.2.2.2.2.2.2.2.2.2.2.2.2.2.2.2.2.2.2.2.2.2.2 hq⟩⟩)
  clear HX HY
  go_wp2_with fail
  refine wp_region_held_drew (S := fun u => u.cell? ⟨g, q, none⟩ = some (.int .i64 a1) ∧ u.cell? ⟨g, q + 1, none⟩ = some (.int .i64 a2) ∧ u.cell? ⟨g, q + 2, none⟩ = some (.int .i64 a3) ∧ u.cell? ⟨g, q + 3, none⟩ = some (.string a4) ∧ u.cell? ⟨g, q + 4, none⟩ = some (.int .i64 b1) ∧ u.cell? ⟨g, q + 5, none⟩ = some (.int .i64 b2) ∧ u.cell? ⟨g, q + 6, none⟩ = some (.int .i64 b3) ∧ u.cell? ⟨g, q + 7, none⟩ = some (.string b4) ∧ u.cell? ⟨W.heap.size, 0, none⟩ = some (.int .i64 a1) ∧ u.cell? ⟨W.heap.size, 1, none⟩ = some (.int .i64 a2) ∧ u.cell? ⟨W.heap.size, 2, none⟩ = some (.int .i64 a3) ∧ u.cell? ⟨W.heap.size, 3, none⟩ = some (.string a4) ∧ u.cell? ⟨W.heap.size + 1, 0, none⟩ = some (.int .i64 b1) ∧ u.cell? ⟨W.heap.size + 1, 1, none⟩ = some (.int .i64 b2) ∧ u.cell? ⟨W.heap.size + 1, 2, none⟩ = some (.int .i64 b3) ∧ u.cell? ⟨W.heap.size + 1, 3, none⟩ = some (.string b4) ∧ u.cell? ⟨w4.heap.size, 0, none⟩ = some (.int .i64 h1) ∧ u.cell? ⟨w4.heap.size, 1, none⟩ = some (.int .i64 h2) ∧ u.cell? ⟨w4.heap.size, 2, none⟩ = some (.int .i64 h3) ∧ u.cell? ⟨w4.heap.size, 3, none⟩ = some (.string h4) ∧ u.cell? ⟨w4.heap.size + 1, 0, none⟩ = some (.int .i64 h1) ∧ u.cell? ⟨w4.heap.size + 1, 1, none⟩ = some (.int .i64 h2) ∧ u.cell? ⟨w4.heap.size + 1, 2, none⟩ = some (.int .i64 h3) ∧ u.cell? ⟨w4.heap.size + 1, 3, none⟩ = some (.string h4) ∧ Below w6.heap.size w6 u) (by kernel_rfl) Hs.out (fun hHeld => ?_)
  refine wpAnyH_take (i := 0) (oi := { dst := some 42, op := _, type := _, pos := _, after := _, guard := _ }) (v := ?v1_0) rfl (by kernel_rfl) (by kernel_rfl) (by kernel_rfl) (fun _ _ _ h => h) (Or.inl ⟨by rfl, ?hy1_0⟩) hHeld ?_
  case hy1_0 => (intro w hSw; (try dsimp only at hSw); go_simp; try with_reducible rfl)
  simp only [Act.put, List.setIfInBounds_toArray, List.set_cons_zero, List.set_cons_succ]
  refine wpAnyH_take (i := 1) (oi := { dst := some 43, op := _, type := _, pos := _, after := _, guard := _ }) (v := ?v1_1) rfl (by kernel_rfl) (by kernel_rfl) (by kernel_rfl) (fun _ _ _ h => h) (Or.inl ⟨by rfl, ?hy1_1⟩) hHeld ?_
  case hy1_1 => (intro w hSw; (try dsimp only at hSw); go_simp; try with_reducible rfl)
  simp only [Act.put, List.setIfInBounds_toArray, List.set_cons_zero, List.set_cons_succ]
  refine wpAnyH_take (i := 2) (oi := { dst := some 44, op := _, type := _, pos := _, after := _, guard := _ }) (v := ?v1_2) rfl (by kernel_rfl) (by kernel_rfl) (by kernel_rfl) (fun _ _ _ h => h) (Or.inl ⟨by rfl, ?hy1_2⟩) hHeld ?_
  case hy1_2 => (intro w hSw; (try dsimp only at hSw); go_simp; try with_reducible rfl)
  simp only [Act.put, List.setIfInBounds_toArray, List.set_cons_zero, List.set_cons_succ]
  refine wpAnyH_take (i := 3) (oi := { dst := some 45, op := _, type := _, pos := _, after := _, guard := _ }) (v := ?v1_3) rfl (by kernel_rfl) (by kernel_rfl) (by kernel_rfl) (fun _ _ _ h => h) (Or.inl ⟨by rfl, ?hy1_3⟩) hHeld ?_
  case hy1_3 => (intro w hSw; (try dsimp only at hSw); go_simp; try with_reducible rfl)
  simp only [Act.put, List.setIfInBounds_toArray, List.set_cons_zero, List.set_cons_succ]
  refine wpAnyH_take (i := 4) (oi := { dst := some 46, op := _, type := _, pos := _, after := _, guard := _ }) (v := ?v1_4) rfl (by kernel_rfl) (by kernel_rfl) (by kernel_rfl) (fun _ _ _ h => h) (Or.inl ⟨by rfl, ?hy1_4⟩) hHeld ?_
  case hy1_4 => (intro w hSw; (try dsimp only at hSw); go_simp; try with_reducible rfl)
  simp only [Act.put, List.setIfInBounds_toArray, List.set_cons_zero, List.set_cons_succ]
  refine wpAnyH_take (i := 5) (oi := { dst := some 47, op := _, type := _, pos := _, after := _, guard := _ }) (v := ?v1_5) rfl (by kernel_rfl) (by kernel_rfl) (by kernel_rfl) (fun _ _ _ h => h) (Or.inl ⟨by rfl, ?hy1_5⟩) hHeld ?_
  case hy1_5 => (intro w hSw; (try dsimp only at hSw); go_simp; try with_reducible rfl)
  simp only [Act.put, List.setIfInBounds_toArray, List.set_cons_zero, List.set_cons_succ]
  refine wpAnyH_take (i := 7) (oi := { dst := some 49, op := _, type := _, pos := _, after := _, guard := _ }) (v := ?v1_7) rfl (by kernel_rfl) (by kernel_rfl) (by kernel_rfl) (fun _ _ _ h => h) (Or.inl ⟨by rfl, ?hy1_7⟩) hHeld ?_
  case hy1_7 => (intro w hSw; (try dsimp only at hSw); go_simp; try with_reducible rfl)
  simp only [Act.put, List.setIfInBounds_toArray, List.set_cons_zero, List.set_cons_succ]
  refine wpAnyH_take (i := 8) (oi := { dst := some 50, op := _, type := _, pos := _, after := _, guard := _ }) (v := ?v1_8) rfl (by kernel_rfl) (by kernel_rfl) (by kernel_rfl) (fun _ _ _ h => h) (Or.inl ⟨by rfl, ?hy1_8⟩) hHeld ?_
  case hy1_8 => (intro w hSw; (try dsimp only at hSw); go_simp; try with_reducible rfl)
  simp only [Act.put, List.setIfInBounds_toArray, List.set_cons_zero, List.set_cons_succ]
  refine wpAnyH_ready (rs := [6]) (by kernel_rfl) (by simp) ?_
  refine AllReadyH.cons (o := { dst := some 48, op := _, type := _, pos := _, after := _, guard := _ }) rfl (fun K hK => ?_) AllReadyH.nil
  go_simp
  go_at_call 10
  refine (XP.out _ (by assumption)).mono ?_
  rintro ee0 t0 ⟨rfl, hs0⟩
  refine hK.out _ _ hs0 (fun hHeld => ?_)
  clear hK K
  refine wpAnyH_ready (rs := [9]) (by kernel_rfl) (by simp) ?_
  refine AllReadyH.cons (o := { dst := some 51, op := _, type := _, pos := _, after := _, guard := _ }) rfl (fun K hK => ?_) AllReadyH.nil
  go_simp
  go_at_call 11
  refine (XY.out _ (by assumption)).mono ?_
  rintro ee1 t1 ⟨rfl, hs1⟩
  refine hK.out _ _ hs1 (fun hHeld => ?_)
  clear hK K
  refine wpAnyH_take (i := 10) (oi := { dst := some 52, op := _, type := _, pos := _, after := _, guard := _ }) (v := ?v1_10) rfl (by kernel_rfl) (by kernel_rfl) (by kernel_rfl) (fun _ _ _ h => h) (Or.inl ⟨by rfl, ?hy1_10⟩) hHeld ?_
  case hy1_10 => (intro w hSw; (try dsimp only at hSw); go_simp; try with_reducible rfl)
  simp only [Act.put, List.setIfInBounds_toArray, List.set_cons_zero, List.set_cons_succ]
  refine wpAnyH_take (i := 11) (oi := { dst := some 53, op := _, type := _, pos := _, after := _, guard := _ }) (v := ?v1_11) rfl (by kernel_rfl) (by kernel_rfl) (by kernel_rfl) (fun _ _ _ h => h) (Or.inl ⟨by rfl, ?hy1_11⟩) hHeld ?_
  case hy1_11 => (intro w hSw; (try dsimp only at hSw); go_simp; try with_reducible rfl)
  simp only [Act.put, List.setIfInBounds_toArray, List.set_cons_zero, List.set_cons_succ]
  refine wpAnyH_take (i := 12) (oi := { dst := some 54, op := _, type := _, pos := _, after := _, guard := _ }) (v := ?v1_12) rfl (by kernel_rfl) (by kernel_rfl) (by kernel_rfl) (fun _ _ _ h => h) (Or.inl ⟨by rfl, ?hy1_12⟩) hHeld ?_
  case hy1_12 => (intro w hSw; (try dsimp only at hSw); go_simp; try with_reducible rfl)
  simp only [Act.put, List.setIfInBounds_toArray, List.set_cons_zero, List.set_cons_succ]
  refine wpAnyH_take (i := 15) (oi := { dst := some 57, op := _, type := _, pos := _, after := _, guard := _ }) (v := ?v1_15) rfl (by kernel_rfl) (by kernel_rfl) (by kernel_rfl) (fun _ _ _ h => h) (Or.inl ⟨by rfl, ?hy1_15⟩) hHeld ?_
  case hy1_15 => (intro w hSw; (try dsimp only at hSw); go_simp; try with_reducible rfl)
  simp only [Act.put, List.setIfInBounds_toArray, List.set_cons_zero, List.set_cons_succ]
  refine wpAnyH_ready (rs := [13]) (by kernel_rfl) (by simp) ?_
  refine AllReadyH.cons (o := { dst := some 55, op := _, type := _, pos := _, after := _, guard := _ }) rfl (fun K hK => ?_) AllReadyH.nil
  go_simp
  go_at_call 14
  refine (HP.out _ l _ hl (V77.out.on hs1.2.2.2.2.2.2.2.2.2.2.2.2.2.2.2.2.2.2.2.2.2.2.2.2)).mono ?_
  rintro ee2 t2 ⟨v55, rfl, hv55, hb55⟩
  have hs2 : t2.cell? ⟨g, q, none⟩ = some (.int .i64 a1) ∧ t2.cell? ⟨g, q + 1, none⟩ = some (.int .i64 a2) ∧ t2.cell? ⟨g, q + 2, none⟩ = some (.int .i64 a3) ∧ t2.cell? ⟨g, q + 3, none⟩ = some (.string a4) ∧ t2.cell? ⟨g, q + 4, none⟩ = some (.int .i64 b1) ∧ t2.cell? ⟨g, q + 5, none⟩ = some (.int .i64 b2) ∧ t2.cell? ⟨g, q + 6, none⟩ = some (.int .i64 b3) ∧ t2.cell? ⟨g, q + 7, none⟩ = some (.string b4) ∧ t2.cell? ⟨W.heap.size, 0, none⟩ = some (.int .i64 a1) ∧ t2.cell? ⟨W.heap.size, 1, none⟩ = some (.int .i64 a2) ∧ t2.cell? ⟨W.heap.size, 2, none⟩ = some (.int .i64 a3) ∧ t2.cell? ⟨W.heap.size, 3, none⟩ = some (.string a4) ∧ t2.cell? ⟨W.heap.size + 1, 0, none⟩ = some (.int .i64 b1) ∧ t2.cell? ⟨W.heap.size + 1, 1, none⟩ = some (.int .i64 b2) ∧ t2.cell? ⟨W.heap.size + 1, 2, none⟩ = some (.int .i64 b3) ∧ t2.cell? ⟨W.heap.size + 1, 3, none⟩ = some (.string b4) ∧ t2.cell? ⟨w4.heap.size, 0, none⟩ = some (.int .i64 h1) ∧ t2.cell? ⟨w4.heap.size, 1, none⟩ = some (.int .i64 h2) ∧ t2.cell? ⟨w4.heap.size, 2, none⟩ = some (.int .i64 h3) ∧ t2.cell? ⟨w4.heap.size, 3, none⟩ = some (.string h4) ∧ t2.cell? ⟨w4.heap.size + 1, 0, none⟩ = some (.int .i64 h1) ∧ t2.cell? ⟨w4.heap.size + 1, 1, none⟩ = some (.int .i64 h2) ∧ t2.cell? ⟨w4.heap.size + 1, 2, none⟩ = some (.int .i64 h3) ∧ t2.cell? ⟨w4.heap.size + 1, 3, none⟩ = some (.string h4) ∧ Below w6.heap.size w6 t2 := ⟨cell_below hs1.1 hb55, cell_below hs1.2.1 hb55, cell_below hs1.2.2.1 hb55, cell_below hs1.2.2.2.1 hb55, cell_below hs1.2.2.2.2.1 hb55, cell_below hs1.2.2.2.2.2.1 hb55, cell_below hs1.2.2.2.2.2.2.1 hb55, cell_below hs1.2.2.2.2.2.2.2.1 hb55, cell_below hs1.2.2.2.2.2.2.2.2.1 hb55, cell_below hs1.2.2.2.2.2.2.2.2.2.1 hb55, cell_below hs1.2.2.2.2.2.2.2.2.2.2.1 hb55, cell_below hs1.2.2.2.2.2.2.2.2.2.2.2.1 hb55, cell_below hs1.2.2.2.2.2.2.2.2.2.2.2.2.1 hb55, cell_below hs1.2.2.2.2.2.2.2.2.2.2.2.2.2.1 hb55, cell_below hs1.2.2.2.2.2.2.2.2.2.2.2.2.2.2.1 hb55, cell_below hs1.2.2.2.2.2.2.2.2.2.2.2.2.2.2.2.1 hb55, cell_below hs1.2.2.2.2.2.2.2.2.2.2.2.2.2.2.2.2.1 hb55, cell_below hs1.2.2.2.2.2.2.2.2.2.2.2.2.2.2.2.2.2.1 hb55, cell_below hs1.2.2.2.2.2.2.2.2.2.2.2.2.2.2.2.2.2.2.1 hb55, cell_below hs1.2.2.2.2.2.2.2.2.2.2.2.2.2.2.2.2.2.2.2.1 hb55, cell_below hs1.2.2.2.2.2.2.2.2.2.2.2.2.2.2.2.2.2.2.2.2.1 hb55, cell_below hs1.2.2.2.2.2.2.2.2.2.2.2.2.2.2.2.2.2.2.2.2.2.1 hb55, cell_below hs1.2.2.2.2.2.2.2.2.2.2.2.2.2.2.2.2.2.2.2.2.2.2.1 hb55, cell_below hs1.2.2.2.2.2.2.2.2.2.2.2.2.2.2.2.2.2.2.2.2.2.2.2.1 hb55, below_on hs1.2.2.2.2.2.2.2.2.2.2.2.2.2.2.2.2.2.2.2.2.2.2.2.2 hb55⟩
  refine hK.out _ _ hs2 (fun hHeld => ?_)
  clear hK K
  refine wpAnyH_ready (rs := [14]) (by kernel_rfl) (by simp) ?_
  refine AllReadyH.cons (o := { dst := some 56, op := _, type := _, pos := _, after := _, guard := _ }) rfl (fun K hK => ?_) AllReadyH.nil
  go_simp
  go_at_call 13
  refine (HB.out _ (srtR l) _ (by rw [hlen.out]; omega) hv55).mono ?_
  rintro ee3 t3 ⟨v56, rfl, hv56, hb56⟩
  have hs3 : t3.cell? ⟨g, q, none⟩ = some (.int .i64 a1) ∧ t3.cell? ⟨g, q + 1, none⟩ = some (.int .i64 a2) ∧ t3.cell? ⟨g, q + 2, none⟩ = some (.int .i64 a3) ∧ t3.cell? ⟨g, q + 3, none⟩ = some (.string a4) ∧ t3.cell? ⟨g, q + 4, none⟩ = some (.int .i64 b1) ∧ t3.cell? ⟨g, q + 5, none⟩ = some (.int .i64 b2) ∧ t3.cell? ⟨g, q + 6, none⟩ = some (.int .i64 b3) ∧ t3.cell? ⟨g, q + 7, none⟩ = some (.string b4) ∧ t3.cell? ⟨W.heap.size, 0, none⟩ = some (.int .i64 a1) ∧ t3.cell? ⟨W.heap.size, 1, none⟩ = some (.int .i64 a2) ∧ t3.cell? ⟨W.heap.size, 2, none⟩ = some (.int .i64 a3) ∧ t3.cell? ⟨W.heap.size, 3, none⟩ = some (.string a4) ∧ t3.cell? ⟨W.heap.size + 1, 0, none⟩ = some (.int .i64 b1) ∧ t3.cell? ⟨W.heap.size + 1, 1, none⟩ = some (.int .i64 b2) ∧ t3.cell? ⟨W.heap.size + 1, 2, none⟩ = some (.int .i64 b3) ∧ t3.cell? ⟨W.heap.size + 1, 3, none⟩ = some (.string b4) ∧ t3.cell? ⟨w4.heap.size, 0, none⟩ = some (.int .i64 h1) ∧ t3.cell? ⟨w4.heap.size, 1, none⟩ = some (.int .i64 h2) ∧ t3.cell? ⟨w4.heap.size, 2, none⟩ = some (.int .i64 h3) ∧ t3.cell? ⟨w4.heap.size, 3, none⟩ = some (.string h4) ∧ t3.cell? ⟨w4.heap.size + 1, 0, none⟩ = some (.int .i64 h1) ∧ t3.cell? ⟨w4.heap.size + 1, 1, none⟩ = some (.int .i64 h2) ∧ t3.cell? ⟨w4.heap.size + 1, 2, none⟩ = some (.int .i64 h3) ∧ t3.cell? ⟨w4.heap.size + 1, 3, none⟩ = some (.string h4) ∧ Below w6.heap.size w6 t3 := ⟨cell_below hs2.1 hb56, cell_below hs2.2.1 hb56, cell_below hs2.2.2.1 hb56, cell_below hs2.2.2.2.1 hb56, cell_below hs2.2.2.2.2.1 hb56, cell_below hs2.2.2.2.2.2.1 hb56, cell_below hs2.2.2.2.2.2.2.1 hb56, cell_below hs2.2.2.2.2.2.2.2.1 hb56, cell_below hs2.2.2.2.2.2.2.2.2.1 hb56, cell_below hs2.2.2.2.2.2.2.2.2.2.1 hb56, cell_below hs2.2.2.2.2.2.2.2.2.2.2.1 hb56, cell_below hs2.2.2.2.2.2.2.2.2.2.2.2.1 hb56, cell_below hs2.2.2.2.2.2.2.2.2.2.2.2.2.1 hb56, cell_below hs2.2.2.2.2.2.2.2.2.2.2.2.2.2.1 hb56, cell_below hs2.2.2.2.2.2.2.2.2.2.2.2.2.2.2.1 hb56, cell_below hs2.2.2.2.2.2.2.2.2.2.2.2.2.2.2.2.1 hb56, cell_below hs2.2.2.2.2.2.2.2.2.2.2.2.2.2.2.2.2.1 hb56, cell_below hs2.2.2.2.2.2.2.2.2.2.2.2.2.2.2.2.2.2.1 hb56, cell_below hs2.2.2.2.2.2.2.2.2.2.2.2.2.2.2.2.2.2.2.1 hb56, cell_below hs2.2.2.2.2.2.2.2.2.2.2.2.2.2.2.2.2.2.2.2.1 hb56, cell_below hs2.2.2.2.2.2.2.2.2.2.2.2.2.2.2.2.2.2.2.2.2.1 hb56, cell_below hs2.2.2.2.2.2.2.2.2.2.2.2.2.2.2.2.2.2.2.2.2.2.1 hb56, cell_below hs2.2.2.2.2.2.2.2.2.2.2.2.2.2.2.2.2.2.2.2.2.2.2.1 hb56, cell_below hs2.2.2.2.2.2.2.2.2.2.2.2.2.2.2.2.2.2.2.2.2.2.2.2.1 hb56, below_on hs2.2.2.2.2.2.2.2.2.2.2.2.2.2.2.2.2.2.2.2.2.2.2.2.2 hb56⟩
  refine hK.out _ _ hs3 (fun hHeld => ?_)
  clear hK K
  refine wpAnyH_ready (rs := [16]) (by kernel_rfl) (by simp) ?_
  refine AllReadyH.cons (o := { dst := some 58, op := _, type := _, pos := _, after := _, guard := _ }) rfl (fun K hK => ?_) AllReadyH.nil
  go_simp
  go_at_call 12
  refine (HE.out _ _ (srtR l) _ (by rw [hlen.out]; omega) hv56.cs (V87.out.on hs3.2.2.2.2.2.2.2.2.2.2.2.2.2.2.2.2.2.2.2.2.2.2.2.2)).mono ?_
  rintro ee4 t4 ⟨rfl, hb57⟩
  have hs4 : t4.cell? ⟨g, q, none⟩ = some (.int .i64 a1) ∧ t4.cell? ⟨g, q + 1, none⟩ = some (.int .i64 a2) ∧ t4.cell? ⟨g, q + 2, none⟩ = some (.int .i64 a3) ∧ t4.cell? ⟨g, q + 3, none⟩ = some (.string a4) ∧ t4.cell? ⟨g, q + 4, none⟩ = some (.int .i64 b1) ∧ t4.cell? ⟨g, q + 5, none⟩ = some (.int .i64 b2) ∧ t4.cell? ⟨g, q + 6, none⟩ = some (.int .i64 b3) ∧ t4.cell? ⟨g, q + 7, none⟩ = some (.string b4) ∧ t4.cell? ⟨W.heap.size, 0, none⟩ = some (.int .i64 a1) ∧ t4.cell? ⟨W.heap.size, 1, none⟩ = some (.int .i64 a2) ∧ t4.cell? ⟨W.heap.size, 2, none⟩ = some (.int .i64 a3) ∧ t4.cell? ⟨W.heap.size, 3, none⟩ = some (.string a4) ∧ t4.cell? ⟨W.heap.size + 1, 0, none⟩ = some (.int .i64 b1) ∧ t4.cell? ⟨W.heap.size + 1, 1, none⟩ = some (.int .i64 b2) ∧ t4.cell? ⟨W.heap.size + 1, 2, none⟩ = some (.int .i64 b3) ∧ t4.cell? ⟨W.heap.size + 1, 3, none⟩ = some (.string b4) ∧ t4.cell? ⟨w4.heap.size, 0, none⟩ = some (.int .i64 h1) ∧ t4.cell? ⟨w4.heap.size, 1, none⟩ = some (.int .i64 h2) ∧ t4.cell? ⟨w4.heap.size, 2, none⟩ = some (.int .i64 h3) ∧ t4.cell? ⟨w4.heap.size, 3, none⟩ = some (.string h4) ∧ t4.cell? ⟨w4.heap.size + 1, 0, none⟩ = some (.int .i64 h1) ∧ t4.cell? ⟨w4.heap.size + 1, 1, none⟩ = some (.int .i64 h2) ∧ t4.cell? ⟨w4.heap.size + 1, 2, none⟩ = some (.int .i64 h3) ∧ t4.cell? ⟨w4.heap.size + 1, 3, none⟩ = some (.string h4) ∧ Below w6.heap.size w6 t4 := ⟨cell_below hs3.1 hb57, cell_below hs3.2.1 hb57, cell_below hs3.2.2.1 hb57, cell_below hs3.2.2.2.1 hb57, cell_below hs3.2.2.2.2.1 hb57, cell_below hs3.2.2.2.2.2.1 hb57, cell_below hs3.2.2.2.2.2.2.1 hb57, cell_below hs3.2.2.2.2.2.2.2.1 hb57, cell_below hs3.2.2.2.2.2.2.2.2.1 hb57, cell_below hs3.2.2.2.2.2.2.2.2.2.1 hb57, cell_below hs3.2.2.2.2.2.2.2.2.2.2.1 hb57, cell_below hs3.2.2.2.2.2.2.2.2.2.2.2.1 hb57, cell_below hs3.2.2.2.2.2.2.2.2.2.2.2.2.1 hb57, cell_below hs3.2.2.2.2.2.2.2.2.2.2.2.2.2.1 hb57, cell_below hs3.2.2.2.2.2.2.2.2.2.2.2.2.2.2.1 hb57, cell_below hs3.2.2.2.2.2.2.2.2.2.2.2.2.2.2.2.1 hb57, cell_below hs3.2.2.2.2.2.2.2.2.2.2.2.2.2.2.2.2.1 hb57, cell_below hs3.2.2.2.2.2.2.2.2.2.2.2.2.2.2.2.2.2.1 hb57, cell_below hs3.2.2.2.2.2.2.2.2.2.2.2.2.2.2.2.2.2.2.1 hb57, cell_below hs3.2.2.2.2.2.2.2.2.2.2.2.2.2.2.2.2.2.2.2.1 hb57, cell_below hs3.2.2.2.2.2.2.2.2.2.2.2.2.2.2.2.2.2.2.2.2.1 hb57, cell_below hs3.2.2.2.2.2.2.2.2.2.2.2.2.2.2.2.2.2.2.2.2.2.1 hb57, cell_below hs3.2.2.2.2.2.2.2.2.2.2.2.2.2.2.2.2.2.2.2.2.2.2.1 hb57, cell_below hs3.2.2.2.2.2.2.2.2.2.2.2.2.2.2.2.2.2.2.2.2.2.2.2.1 hb57, below_on hs3.2.2.2.2.2.2.2.2.2.2.2.2.2.2.2.2.2.2.2.2.2.2.2.2 hb57⟩
  refine hK.out _ _ hs4 (fun hHeld => ?_)
  clear hK K
  refine wpAnyH_take (i := 17) (oi := { dst := some 59, op := _, type := _, pos := _, after := _, guard := _ }) (v := ?v1_17) rfl (by kernel_rfl) (by kernel_rfl) (by kernel_rfl) (fun _ _ _ h => h) (Or.inl ⟨by rfl, ?hy1_17⟩) hHeld ?_
  case hy1_17 => (intro w hSw; (try dsimp only at hSw); go_simp; try with_reducible rfl)
  simp only [Act.put, List.setIfInBounds_toArray, List.set_cons_zero, List.set_cons_succ]
  refine wpAnyH_take (i := 18) (oi := { dst := some 60, op := _, type := _, pos := _, after := _, guard := _ }) (v := ?v1_18) rfl (by kernel_rfl) (by kernel_rfl) (by kernel_rfl) (fun _ _ _ h => h) (Or.inl ⟨by rfl, ?hy1_18⟩) hHeld ?_
  case hy1_18 => (intro w hSw; (try dsimp only at hSw); go_simp; try with_reducible rfl)
  simp only [Act.put, List.setIfInBounds_toArray, List.set_cons_zero, List.set_cons_succ]
  refine wpAnyH_take (i := 19) (oi := { dst := some 61, op := _, type := _, pos := _, after := _, guard := _ }) (v := ?v1_19) rfl (by kernel_rfl) (by kernel_rfl) (by kernel_rfl) (fun _ _ _ h => h) (Or.inl ⟨by rfl, ?hy1_19⟩) hHeld ?_
  case hy1_19 => (intro w hSw; (try dsimp only at hSw); go_simp; try with_reducible rfl)
  simp only [Act.put, List.setIfInBounds_toArray, List.set_cons_zero, List.set_cons_succ]
  refine wpAnyH_take (i := 20) (oi := { dst := some 62, op := _, type := _, pos := _, after := _, guard := _ }) (v := ?v1_20) rfl (by kernel_rfl) (by kernel_rfl) (by kernel_rfl) (fun _ _ _ h => h) (Or.inl ⟨by rfl, ?hy1_20⟩) hHeld ?_
  case hy1_20 => (intro w hSw; (try dsimp only at hSw); go_simp; try with_reducible rfl)
  simp only [Act.put, List.setIfInBounds_toArray, List.set_cons_zero, List.set_cons_succ]
  refine wpAnyH_take (i := 21) (oi := { dst := some 63, op := _, type := _, pos := _, after := _, guard := _ }) (v := ?v1_21) rfl (by kernel_rfl) (by kernel_rfl) (by kernel_rfl) (fun _ _ _ h => h) (Or.inl ⟨by rfl, ?hy1_21⟩) hHeld ?_
  case hy1_21 => (intro w hSw; (try dsimp only at hSw); go_simp; try with_reducible rfl)
  simp only [Act.put, List.setIfInBounds_toArray, List.set_cons_zero, List.set_cons_succ]
  refine wpAnyH_take (i := 22) (oi := { dst := some 64, op := _, type := _, pos := _, after := _, guard := _ }) (v := ?v1_22) rfl (by kernel_rfl) (by kernel_rfl) (by kernel_rfl) (fun _ _ _ h => h) (Or.inl ⟨by rfl, ?hy1_22⟩) hHeld ?_
  case hy1_22 => (intro w hSw; (try dsimp only at hSw); go_simp; try with_reducible rfl)
  simp only [Act.put, List.setIfInBounds_toArray, List.set_cons_zero, List.set_cons_succ]
  refine wpAnyH_take (i := 23) (oi := { dst := some 65, op := _, type := _, pos := _, after := _, guard := _ }) (v := ?v1_23) rfl (by kernel_rfl) (by kernel_rfl) (by kernel_rfl) (fun _ _ _ h => h) (Or.inl ⟨by rfl, ?hy1_23⟩) hHeld ?_
  case hy1_23 => (intro w hSw; (try dsimp only at hSw); go_simp; try with_reducible rfl)
  simp only [Act.put, List.setIfInBounds_toArray, List.set_cons_zero, List.set_cons_succ]
  refine wpAnyH_take (i := 24) (oi := { dst := some 66, op := _, type := _, pos := _, after := _, guard := _ }) (v := ?v1_24) rfl (by kernel_rfl) (by kernel_rfl) (by kernel_rfl) (fun _ _ _ h => h) (Or.inl ⟨by rfl, ?hy1_24⟩) hHeld ?_
  case hy1_24 => (intro w hSw; (try dsimp only at hSw); go_simp; try with_reducible rfl)
  simp only [Act.put, List.setIfInBounds_toArray, List.set_cons_zero, List.set_cons_succ]
  refine wpAnyH_take (i := 25) (oi := { dst := some 67, op := _, type := _, pos := _, after := _, guard := _ }) (v := ?v1_25) rfl (by kernel_rfl) (by kernel_rfl) (by kernel_rfl) (fun _ _ _ h => h) (Or.inl ⟨by rfl, ?hy1_25⟩) hHeld ?_
  case hy1_25 => (intro w hSw; (try dsimp only at hSw); go_simp; try with_reducible rfl)
  simp only [Act.put, List.setIfInBounds_toArray, List.set_cons_zero, List.set_cons_succ]
  refine wpAnyH_take (i := 26) (oi := { dst := some 68, op := _, type := _, pos := _, after := _, guard := _ }) (v := ?v1_26) rfl (by kernel_rfl) (by kernel_rfl) (by kernel_rfl) (fun _ _ _ h => h) (Or.inl ⟨by rfl, ?hy1_26⟩) hHeld ?_
  case hy1_26 => (intro w hSw; (try dsimp only at hSw); go_simp; try with_reducible rfl)
  simp only [Act.put, List.setIfInBounds_toArray, List.set_cons_zero, List.set_cons_succ]
  refine wpAnyH_take (i := 27) (oi := { dst := some 69, op := _, type := _, pos := _, after := _, guard := _ }) (v := ?v1_27) rfl (by kernel_rfl) (by kernel_rfl) (by kernel_rfl) (fun _ _ _ h => h) (Or.inl ⟨by rfl, ?hy1_27⟩) hHeld ?_
  case hy1_27 => (intro w hSw; (try dsimp only at hSw); go_simp; try with_reducible rfl)
  simp only [Act.put, List.setIfInBounds_toArray, List.set_cons_zero, List.set_cons_succ]
  refine wpAnyH_take (i := 28) (oi := { dst := some 70, op := _, type := _, pos := _, after := _, guard := _ }) (v := ?v1_28) rfl (by kernel_rfl) (by kernel_rfl) (by kernel_rfl) (fun _ _ _ h => h) (Or.inl ⟨by rfl, ?hy1_28⟩) hHeld ?_
  case hy1_28 => (intro w hSw; (try dsimp only at hSw); go_simp; try with_reducible rfl)
  simp only [Act.put, List.setIfInBounds_toArray, List.set_cons_zero, List.set_cons_succ]
  refine wpAnyH_take (i := 29) (oi := { dst := some 71, op := _, type := _, pos := _, after := _, guard := _ }) (v := ?v1_29) rfl (by kernel_rfl) (by kernel_rfl) (by kernel_rfl) (fun _ _ _ h => h) (Or.inl ⟨by rfl, ?hy1_29⟩) hHeld ?_
  case hy1_29 => (intro w hSw; (try dsimp only at hSw); go_simp; try with_reducible rfl)
  simp only [Act.put, List.setIfInBounds_toArray, List.set_cons_zero, List.set_cons_succ]
  refine wpAnyH_take (i := 30) (oi := { dst := some 72, op := _, type := _, pos := _, after := _, guard := _ }) (v := ?v1_30) rfl (by kernel_rfl) (by kernel_rfl) (by kernel_rfl) (fun _ _ _ h => h) (Or.inl ⟨by rfl, ?hy1_30⟩) hHeld ?_
  case hy1_30 => (intro w hSw; (try dsimp only at hSw); go_simp; try with_reducible rfl)
  simp only [Act.put, List.setIfInBounds_toArray, List.set_cons_zero, List.set_cons_succ]
  refine wpAnyH_take (i := 31) (oi := { dst := some 73, op := _, type := _, pos := _, after := _, guard := _ }) (v := ?v1_31) rfl (by kernel_rfl) (by kernel_rfl) (by kernel_rfl) (fun _ _ _ h => h) (Or.inl ⟨by rfl, ?hy1_31⟩) hHeld ?_
  case hy1_31 => (intro w hSw; (try dsimp only at hSw); go_simp; try with_reducible rfl)
  simp only [Act.put, List.setIfInBounds_toArray, List.set_cons_zero, List.set_cons_succ]
  refine wpAnyH_take (i := 33) (oi := { dst := some 75, op := _, type := _, pos := _, after := _, guard := _ }) (v := ?v1_33) rfl (by kernel_rfl) (by kernel_rfl) (by kernel_rfl) (fun _ _ _ h => h) (Or.inl ⟨by rfl, ?hy1_33⟩) hHeld ?_
  case hy1_33 => (intro w hSw; (try dsimp only at hSw); go_simp; try with_reducible rfl)
  simp only [Act.put, List.setIfInBounds_toArray, List.set_cons_zero, List.set_cons_succ]
  refine wpAnyH_ready (rs := [32]) (by kernel_rfl) (by simp) ?_
  refine AllReadyH.cons (o := { dst := some 74, op := _, type := _, pos := _, after := _, guard := _ }) rfl (fun K hK => ?_) AllReadyH.nil
  go_simp
  go_at_call 13
  refine (HB.out _ l _ (by omega) (V77.out.on hs4.2.2.2.2.2.2.2.2.2.2.2.2.2.2.2.2.2.2.2.2.2.2.2.2)).mono ?_
  rintro ee5 t5 ⟨v74, rfl, hv74, hb74⟩
  have hs5 : t5.cell? ⟨g, q, none⟩ = some (.int .i64 a1) ∧ t5.cell? ⟨g, q + 1, none⟩ = some (.int .i64 a2) ∧ t5.cell? ⟨g, q + 2, none⟩ = some (.int .i64 a3) ∧ t5.cell? ⟨g, q + 3, none⟩ = some (.string a4) ∧ t5.cell? ⟨g, q + 4, none⟩ = some (.int .i64 b1) ∧ t5.cell? ⟨g, q + 5, none⟩ = some (.int .i64 b2) ∧ t5.cell? ⟨g, q + 6, none⟩ = some (.int .i64 b3) ∧ t5.cell? ⟨g, q + 7, none⟩ = some (.string b4) ∧ t5.cell? ⟨W.heap.size, 0, none⟩ = some (.int .i64 a1) ∧ t5.cell? ⟨W.heap.size, 1, none⟩ = some (.int .i64 a2) ∧ t5.cell? ⟨W.heap.size, 2, none⟩ = some (.int .i64 a3) ∧ t5.cell? ⟨W.heap.size, 3, none⟩ = some (.string a4) ∧ t5.cell? ⟨W.heap.size + 1, 0, none⟩ = some (.int .i64 b1) ∧ t5.cell? ⟨W.heap.size + 1, 1, none⟩ = some (.int .i64 b2) ∧ t5.cell? ⟨W.heap.size + 1, 2, none⟩ = some (.int .i64 b3) ∧ t5.cell? ⟨W.heap.size + 1, 3, none⟩ = some (.string b4) ∧ t5.cell? ⟨w4.heap.size, 0, none⟩ = some (.int .i64 h1) ∧ t5.cell? ⟨w4.heap.size, 1, none⟩ = some (.int .i64 h2) ∧ t5.cell? ⟨w4.heap.size, 2, none⟩ = some (.int .i64 h3) ∧ t5.cell? ⟨w4.heap.size, 3, none⟩ = some (.string h4) ∧ t5.cell? ⟨w4.heap.size + 1, 0, none⟩ = some (.int .i64 h1) ∧ t5.cell? ⟨w4.heap.size + 1, 1, none⟩ = some (.int .i64 h2) ∧ t5.cell? ⟨w4.heap.size + 1, 2, none⟩ = some (.int .i64 h3) ∧ t5.cell? ⟨w4.heap.size + 1, 3, none⟩ = some (.string h4) ∧ Below w6.heap.size w6 t5 := ⟨cell_below hs4.1 hb74, cell_below hs4.2.1 hb74, cell_below hs4.2.2.1 hb74, cell_below hs4.2.2.2.1 hb74, cell_below hs4.2.2.2.2.1 hb74, cell_below hs4.2.2.2.2.2.1 hb74, cell_below hs4.2.2.2.2.2.2.1 hb74, cell_below hs4.2.2.2.2.2.2.2.1 hb74, cell_below hs4.2.2.2.2.2.2.2.2.1 hb74, cell_below hs4.2.2.2.2.2.2.2.2.2.1 hb74, cell_below hs4.2.2.2.2.2.2.2.2.2.2.1 hb74, cell_below hs4.2.2.2.2.2.2.2.2.2.2.2.1 hb74, cell_below hs4.2.2.2.2.2.2.2.2.2.2.2.2.1 hb74, cell_below hs4.2.2.2.2.2.2.2.2.2.2.2.2.2.1 hb74, cell_below hs4.2.2.2.2.2.2.2.2.2.2.2.2.2.2.1 hb74, cell_below hs4.2.2.2.2.2.2.2.2.2.2.2.2.2.2.2.1 hb74, cell_below hs4.2.2.2.2.2.2.2.2.2.2.2.2.2.2.2.2.1 hb74, cell_below hs4.2.2.2.2.2.2.2.2.2.2.2.2.2.2.2.2.2.1 hb74, cell_below hs4.2.2.2.2.2.2.2.2.2.2.2.2.2.2.2.2.2.2.1 hb74, cell_below hs4.2.2.2.2.2.2.2.2.2.2.2.2.2.2.2.2.2.2.2.1 hb74, cell_below hs4.2.2.2.2.2.2.2.2.2.2.2.2.2.2.2.2.2.2.2.2.1 hb74, cell_below hs4.2.2.2.2.2.2.2.2.2.2.2.2.2.2.2.2.2.2.2.2.2.1 hb74, cell_below hs4.2.2.2.2.2.2.2.2.2.2.2.2.2.2.2.2.2.2.2.2.2.2.1 hb74, cell_below hs4.2.2.2.2.2.2.2.2.2.2.2.2.2.2.2.2.2.2.2.2.2.2.2.1 hb74, below_on hs4.2.2.2.2.2.2.2.2.2.2.2.2.2.2.2.2.2.2.2.2.2.2.2.2 hb74⟩
  refine hK.out _ _ hs5 (fun hHeld => ?_)
  clear hK K
  refine wpAnyH_ready (rs := [34]) (by kernel_rfl) (by simp) ?_
  refine AllReadyH.cons (o := { dst := some 76, op := _, type := _, pos := _, after := _, guard := _ }) rfl (fun K hK => ?_) AllReadyH.nil
  go_simp
  go_at_call 12
  refine (HE.out _ _ l _ (by omega) hv74.cs (H7.out.on hs5.2.2.2.2.2.2.2.2.2.2.2.2.2.2.2.2.2.2.2.2.2.2.2.2)).mono ?_
  rintro ee6 t6 ⟨rfl, hb75⟩
  have hs6 : t6.cell? ⟨g, q, none⟩ = some (.int .i64 a1) ∧ t6.cell? ⟨g, q + 1, none⟩ = some (.int .i64 a2) ∧ t6.cell? ⟨g, q + 2, none⟩ = some (.int .i64 a3) ∧ t6.cell? ⟨g, q + 3, none⟩ = some (.string a4) ∧ t6.cell? ⟨g, q + 4, none⟩ = some (.int .i64 b1) ∧ t6.cell? ⟨g, q + 5, none⟩ = some (.int .i64 b2) ∧ t6.cell? ⟨g, q + 6, none⟩ = some (.int .i64 b3) ∧ t6.cell? ⟨g, q + 7, none⟩ = some (.string b4) ∧ t6.cell? ⟨W.heap.size, 0, none⟩ = some (.int .i64 a1) ∧ t6.cell? ⟨W.heap.size, 1, none⟩ = some (.int .i64 a2) ∧ t6.cell? ⟨W.heap.size, 2, none⟩ = some (.int .i64 a3) ∧ t6.cell? ⟨W.heap.size, 3, none⟩ = some (.string a4) ∧ t6.cell? ⟨W.heap.size + 1, 0, none⟩ = some (.int .i64 b1) ∧ t6.cell? ⟨W.heap.size + 1, 1, none⟩ = some (.int .i64 b2) ∧ t6.cell? ⟨W.heap.size + 1, 2, none⟩ = some (.int .i64 b3) ∧ t6.cell? ⟨W.heap.size + 1, 3, none⟩ = some (.string b4) ∧ t6.cell? ⟨w4.heap.size, 0, none⟩ = some (.int .i64 h1) ∧ t6.cell? ⟨w4.heap.size, 1, none⟩ = some (.int .i64 h2) ∧ t6.cell? ⟨w4.heap.size, 2, none⟩ = some (.int .i64 h3) ∧ t6.cell? ⟨w4.heap.size, 3, none⟩ = some (.string h4) ∧ t6.cell? ⟨w4.heap.size + 1, 0, none⟩ = some (.int .i64 h1) ∧ t6.cell? ⟨w4.heap.size + 1, 1, none⟩ = some (.int .i64 h2) ∧ t6.cell? ⟨w4.heap.size + 1, 2, none⟩ = some (.int .i64 h3) ∧ t6.cell? ⟨w4.heap.size + 1, 3, none⟩ = some (.string h4) ∧ Below w6.heap.size w6 t6 := ⟨cell_below hs5.1 hb75, cell_below hs5.2.1 hb75, cell_below hs5.2.2.1 hb75, cell_below hs5.2.2.2.1 hb75, cell_below hs5.2.2.2.2.1 hb75, cell_below hs5.2.2.2.2.2.1 hb75, cell_below hs5.2.2.2.2.2.2.1 hb75, cell_below hs5.2.2.2.2.2.2.2.1 hb75, cell_below hs5.2.2.2.2.2.2.2.2.1 hb75, cell_below hs5.2.2.2.2.2.2.2.2.2.1 hb75, cell_below hs5.2.2.2.2.2.2.2.2.2.2.1 hb75, cell_below hs5.2.2.2.2.2.2.2.2.2.2.2.1 hb75, cell_below hs5.2.2.2.2.2.2.2.2.2.2.2.2.1 hb75, cell_below hs5.2.2.2.2.2.2.2.2.2.2.2.2.2.1 hb75, cell_below hs5.2.2.2.2.2.2.2.2.2.2.2.2.2.2.1 hb75, cell_below hs5.2.2.2.2.2.2.2.2.2.2.2.2.2.2.2.1 hb75, cell_below hs5.2.2.2.2.2.2.2.2.2.2.2.2.2.2.2.2.1 hb75, cell_below hs5.2.2.2.2.2.2.2.2.2.2.2.2.2.2.2.2.2.1 hb75, cell_below hs5.2.2.2.2.2.2.2.2.2.2.2.2.2.2.2.2.2.2.1 hb75, cell_below hs5.2.2.2.2.2.2.2.2.2.2.2.2.2.2.2.2.2.2.2.1 hb75, cell_below hs5.2.2.2.2.2.2.2.2.2.2.2.2.2.2.2.2.2.2.2.2.1 hb75, cell_below hs5.2.2.2.2.2.2.2.2.2.2.2.2.2.2.2.2.2.2.2.2.2.1 hb75, cell_below hs5.2.2.2.2.2.2.2.2.2.2.2.2.2.2.2.2.2.2.2.2.2.2.1 hb75, cell_below hs5.2.2.2.2.2.2.2.2.2.2.2.2.2.2.2.2.2.2.2.2.2.2.2.1 hb75, below_on hs5.2.2.2.2.2.2.2.2.2.2.2.2.2.2.2.2.2.2.2.2.2.2.2.2 hb75⟩
  refine hK.out _ _ hs6 (fun hHeld => ?_)
  clear hK K
  refine wpAnyH_take (i := 35) (oi := { dst := some 77, op := _, type := _, pos := _, after := _, guard := _ }) (v := ?v1_35) rfl (by kernel_rfl) (by kernel_rfl) (by kernel_rfl) (fun _ _ _ h => h) (Or.inl ⟨by rfl, ?hy1_35⟩) hHeld ?_
  case hy1_35 => (intro w hSw; (try dsimp only at hSw); go_simp; try with_reducible rfl)
  simp only [Act.put, List.setIfInBounds_toArray, List.set_cons_zero, List.set_cons_succ]
  refine wpAnyH_take (i := 36) (oi := { dst := some 6, op := _, type := _, pos := _, after := _, guard := _ }) (v := ?v1_36) rfl (by kernel_rfl) (by kernel_rfl) (by kernel_rfl) (fun _ _ _ h => h) (Or.inl ⟨by rfl, ?hy1_36⟩) hHeld ?_
  case hy1_36 => (intro w hSw; (try dsimp only at hSw); go_simp; try with_reducible rfl)
  simp only [Act.put, List.setIfInBounds_toArray, List.set_cons_zero, List.set_cons_succ]
  refine wpAnyH_done (by kernel_rfl) ?_ _
  go_wp2_with fail
  go_ret
  exact ⟨rfl, below_on B7.out hs6.2.2.2.2.2.2.2.2.2.2.2.2.2.2.2.2.2.2.2.2.2.2.2.2⟩
set_option maxHeartbeats 1000000 in
set_option maxRecDepth 100000 in
theorem l20m_nil (M : PP) (v : Value) (a1 a2 a3 b1 b2 b3 : Int) (a4 b4 : ByteArray) (W : World) (h : CsAt W v ([] : List Cd))
    (X : Bool) (HX : ∀ u, Calls Try.prog 10 #[cdv (⟨a1, a2, a3, a4⟩ : Cd), cdv (⟨b1, b2, b3, b4⟩ : Cd)] u fun e w' => e = .returned (.bool X) ∧ Below u.heap.size u w')
    (HY : ∀ u, Calls Try.prog 11 #[cdv (⟨a1, a2, a3, a4⟩ : Cd), cdv (⟨b1, b2, b3, b4⟩ : Cd)] u fun e w' => e = .returned (.bool X) ∧ Below u.heap.size u w') :
    Calls Try.prog 3 #[v, cdv (⟨a1, a2, a3, a4⟩ : Cd), cdv (⟨b1, b2, b3, b4⟩ : Cd)] W fun e w' => e = .returned (.bool true) ∧ Below W.heap.size W w' := by
  have HA := Lib.hid (fun u => c20awake_any M u)
  have HF := Lib.hid (fun v l u h1 h2 => fwd_any v l u h1 h2)
  have HB := Lib.hid (fun v l u h1 h2 => bck_any v l u h1 h2)
  have HS := Lib.hid (fun v l u h1 h2 => r20so_any v l u h1 h2)
  have HP := Lib.hid (fun v l u h1 h2 => M.so v l u h1 h2)
  have HE := Lib.hid (fun v v' l u hl h h' => r19same_eq v v' l u hl h h')
  have HQ := Lib.hid (fun v u (hv : CsAt u v ([] : List Cd)) => (show Calls Try.prog 9 #[v] u (fun e w' => e = .returned (.tuple #[cdv (⟨0, 0, 0, ⟨#[]⟩⟩ : Cd), .bool false]) ∧ Below u.heap.size u w') from by
    exact M.fi v ([] : List Cd) u (by simp) hv))
  have hlen := Lib.hid (srtR_len ([] : List Cd))
  clear M
  have H := Lib.hid h
  obtain ⟨A, cap, hA, k1, k2, k3⟩ := h
  clear k3
  subst hA
  have d1 : decide ((60 : Int) < (([] : List Cd).length : Int)) = false := decide_eq_false (by simp)
  have d2 : decide ((0 : Int) < (([] : List Cd).length : Int)) = false := decide_eq_false (by simp)
  have RA := Lib.hid (row_al (heap_alloc_new W (Obj.cells #[.int .i64 a1, .int .i64 a2, .int .i64 a3, .string a4] 24)) (Obj.cells #[.int .i64 b1, .int .i64 b2, .int .i64 b3, .string b4] 24))
  have RB := Lib.hid (row_new1 W (Obj.cells #[.int .i64 a1, .int .i64 a2, .int .i64 a3, .string a4] 24) (Obj.cells #[.int .i64 b1, .int .i64 b2, .int .i64 b3, .string b4] 24))
  have B0 : Hid (Below W.heap.size W ((W.alloc (Obj.cells #[.int .i64 a1, .int .i64 a2, .int .i64 a3, .string a4] 24)).alloc (Obj.cells #[.int .i64 b1, .int .i64 b2, .int .i64 b3, .string b4] 24))) := Lib.hid (((Below.refl _ _).alloc (Nat.le_refl _) _).alloc (by simp) _)
  go_enter Try.func3, Try.ntmps3
  go_wp2_with fail
  refine (HA.out _).mono ?_
  rintro e w1 ⟨rfl, hb1⟩
  have B1 := Lib.hid (below_on B0.out hb1)
  have RA1 := Lib.hid (row_on RA.out hb1)
  have RB1 := Lib.hid (row_on RB.out hb1)
  have H1 := Lib.hid (H.out.on B1.out)
  clear hb1 RA RB B0 H
  go_wp2_with fail
  refine (HF.out _ ([] : List Cd) _ (by simp) H1.out).mono ?_
  rintro e w2 ⟨v7, rfl, hv7, hb2⟩
  have B2 := Lib.hid (below_on B1.out hb2)
  have RA2 := Lib.hid (row_on RA1.out hb2)
  have RB2 := Lib.hid (row_on RB1.out hb2)
  have H2 := Lib.hid (H1.out.on hb2)
  have V7 := Lib.hid hv7.cs
  clear hb2 hv7 RA1 RB1 H1 B1
  go_wp2_with fail
  refine (HS.out _ ([] : List Cd) _ (by simp) H2.out).mono ?_
  rintro e w3 ⟨v8, rfl, hv8, hb3⟩
  have B3 := Lib.hid (below_on B2.out hb3)
  have RA3 := Lib.hid (row_on RA2.out hb3)
  have RB3 := Lib.hid (row_on RB2.out hb3)
  have H3 := Lib.hid (H2.out.on hb3)
  have V73 := Lib.hid (V7.out.on hb3)
  have V83 := Lib.hid hv8.cs
  clear hb3 hv8 RA2 RB2 H2 B2 V7
  go_wp2_with fail
  refine (HQ.out _ _ V73.out).mono ?_
  rintro e w4 ⟨rfl, hb4⟩
  have hszw : Hid (W.heap.size + 2 ≤ w4.heap.size) := Lib.hid (by
    have s1 : W.heap.size + 1 < w3.heap.size := World.block_lt_of_cell? w3 _ (row_cd RB3.out).1
    have s2 := hb4.size
    omega)
  have hq4 : Below w4.heap.size w4 (w4.alloc (Obj.cells #[.int .i64 0, .int .i64 0, .int .i64 0, .string ⟨#[]⟩] 29)) := (Below.refl _ _).alloc (Nat.le_refl _) _
  have B4 := Lib.hid (below_on (below_on B3.out hb4) hq4)
  have RA4 := Lib.hid (row_on (row_on RA3.out hb4) hq4)
  have RB4 := Lib.hid (row_on (row_on RB3.out hb4) hq4)
  have RX4 := Lib.hid (heap_alloc_new w4 (Obj.cells #[.int .i64 0, .int .i64 0, .int .i64 0, .string ⟨#[]⟩] 29))
  have H4 := Lib.hid ((H3.out.on hb4).on hq4)
  have V74 := Lib.hid ((V73.out.on hb4).on hq4)
  have V84 := Lib.hid ((V83.out.on hb4).on hq4)
  clear hb4 hq4 RA3 RB3 H3 B3 V73 V83
  obtain ⟨A8, cap8, hA8, k3, k4, k5⟩ := V84.out
  clear k3 k4 k5
  subst hA8
  have d3 : decide ((0 : Int) < ((srtR ([] : List Cd)).length : Int)) = false := decide_eq_false (by rw [hlen.out]; simp)
  have d4 : decide (0 < (srtR ([] : List Cd)).length) = false := decide_eq_false (by rw [hlen.out]; simp)
  have d5 : decide (0 < ([] : List Cd).length) = false := decide_eq_false (by simp)
  have RF4 := Lib.hid (heap_alloc_new (w4.alloc (Obj.cells #[.int .i64 0, .int .i64 0, .int .i64 0, .string ⟨#[]⟩] 29)) (Obj.cells #[.int .i64 0, .int .i64 0, .int .i64 0, .string ⟨#[]⟩] 29))
  rw [show (w4.alloc (Obj.cells #[.int .i64 0, .int .i64 0, .int .i64 0, .string ⟨#[]⟩] 29)).heap.size = w4.heap.size + 1 from by simp] at RF4
  have hq5 : Below (w4.alloc (Obj.cells #[.int .i64 0, .int .i64 0, .int .i64 0, .string ⟨#[]⟩] 29)).heap.size (w4.alloc (Obj.cells #[.int .i64 0, .int .i64 0, .int .i64 0, .string ⟨#[]⟩] 29)) ((w4.alloc (Obj.cells #[.int .i64 0, .int .i64 0, .int .i64 0, .string ⟨#[]⟩] 29)).alloc (Obj.cells #[.int .i64 0, .int .i64 0, .int .i64 0, .string ⟨#[]⟩] 29)) := (Below.refl _ _).alloc (Nat.le_refl _) _
  obtain ⟨x0, x1, x2, x3⟩ := row_cd (row_on RA4.out hq5)
  obtain ⟨y0, y1, y2, y3⟩ := row_cd (row_on RB4.out hq5)
  go_wp2_with fail
  clear x0 x1 x2 x3 y0 y1 y2 y3
  have e5 : Hid (Below (w4.alloc (Obj.cells #[.int .i64 0, .int .i64 0, .int .i64 0, .string ⟨#[]⟩] 29)).heap.size (w4.alloc (Obj.cells #[.int .i64 0, .int .i64 0, .int .i64 0, .string ⟨#[]⟩] 29)) ((w4.alloc (Obj.cells #[.int .i64 0, .int .i64 0, .int .i64 0, .string ⟨#[]⟩] 29)).alloc (Obj.cells #[.int .i64 0, .int .i64 0, .int .i64 0, .string ⟨#[]⟩] 29))) := Lib.hid hq5
  obtain ⟨u5, hu5⟩ : ∃ u5 : World, u5 = (w4.alloc (Obj.cells #[.int .i64 0, .int .i64 0, .int .i64 0, .string ⟨#[]⟩] 29)).alloc (Obj.cells #[.int .i64 0, .int .i64 0, .int .i64 0, .string ⟨#[]⟩] 29) := ⟨_, rfl⟩
  have RF5 : Hid (u5.heap[w4.heap.size + 1]? = some (Obj.cells #[.int .i64 0, .int .i64 0, .int .i64 0, .string ⟨#[]⟩] 29)) := Lib.hid (by rw [hu5]; exact RF4.out)
  rw [← hu5] at e5
  have hsz5 : Hid (u5.heap.size = w4.heap.size + 1 + 1) := Lib.hid (by rw [hu5]; simp)
  try rw [← hu5]
  have RF6 := RF5
  clear hq5 RF4 RF5
  have B6 := Lib.hid (below_up4 B4.out e5.out)
  have RA6 := Lib.hid (row_on RA4.out e5.out)
  have RB6 := Lib.hid (row_on RB4.out e5.out)
  have RX6 := Lib.hid (row_on RX4.out e5.out)
  have H6 := Lib.hid (H4.out.on e5.out)
  have V76 := Lib.hid (V74.out.on e5.out)
  have V86 := Lib.hid (V84.out.on e5.out)
  clear RA4 RB4 RX4 H4 V74 V84 e5 B4
  have RL := Lib.hid (heap_alloc_new u5 (Obj.cells #[.int .i64 a1, .int .i64 a2, .int .i64 a3, .string a4, .int .i64 b1, .int .i64 b2, .int .i64 b3, .string b4] 24))
  rw [hsz5.out] at RL
  refine (HF.out _ _ _ (by simp) (cs_two (x := (⟨a1, a2, a3, a4⟩ : Cd)) (y := (⟨b1, b2, b3, b4⟩ : Cd)) RL.out)).mono ?_
  rintro e w6 ⟨v12, rfl, hv12, hb6⟩
  obtain ⟨Ap, capp, hAp, _, _, hit⟩ := hv12.cs
  obtain ⟨g, q, rfl, i0⟩ := hit 0 _ rfl
  obtain ⟨g1, s1, f1, i1⟩ := hit 1 _ rfl
  obtain ⟨rfl, rfl⟩ : g = g1 ∧ q = s1 := by cases f1; exact ⟨rfl, rfl⟩
  subst hAp
  have hq7 := Lib.hid (below_mid ((Below.refl u5.heap.size u5).alloc (Nat.le_refl _) _) hb6)
  have B7 := Lib.hid (below_on B6.out hq7.out)
  have RA7 := Lib.hid (row_on RA6.out hq7.out)
  have RB7 := Lib.hid (row_on RB6.out hq7.out)
  have RX7 := Lib.hid (row_on RX6.out hq7.out)
  have RF7 := Lib.hid (row_on RF6.out hq7.out)
  have H7 := Lib.hid (H6.out.on hq7.out)
  have V77 := Lib.hid (V76.out.on hq7.out)
  have V87 := Lib.hid (V86.out.on hq7.out)
  clear hb6 hv12 hit f1 RL RA6 RB6 RX6 RF6 H6 V76 V86 B6 hq7
  obtain ⟨q0, q1, q2, q3⟩ := i0
  obtain ⟨q4, q5, q6, q7⟩ := i1
  obtain ⟨x0, x1, x2, x3⟩ := row_cd RA7.out
  obtain ⟨y0, y1, y2, y3⟩ := row_cd RB7.out
  obtain ⟨m0, m1, m2, m3⟩ := row_cd RX7.out
  obtain ⟨n0, n1, n2, n3⟩ := row_cd RF7.out
  have hE := eq_cd (⟨0, 0, 0, ⟨#[]⟩⟩ : Cd)
  have Hs := Lib.hid (show w6.drew.cell? ⟨g, q, none⟩ = some (.int .i64 a1) ∧ w6.drew.cell? ⟨g, q + 1, none⟩ = some (.int .i64 a2) ∧ w6.drew.cell? ⟨g, q + 2, none⟩ = some (.int .i64 a3) ∧ w6.drew.cell? ⟨g, q + 3, none⟩ = some (.string a4) ∧ w6.drew.cell? ⟨g, q + 4, none⟩ = some (.int .i64 b1) ∧ w6.drew.cell? ⟨g, q + 5, none⟩ = some (.int .i64 b2) ∧ w6.drew.cell? ⟨g, q + 6, none⟩ = some (.int .i64 b3) ∧ w6.drew.cell? ⟨g, q + 7, none⟩ = some (.string b4) ∧ w6.drew.cell? ⟨W.heap.size, 0, none⟩ = some (.int .i64 a1) ∧ w6.drew.cell? ⟨W.heap.size, 1, none⟩ = some (.int .i64 a2) ∧ w6.drew.cell? ⟨W.heap.size, 2, none⟩ = some (.int .i64 a3) ∧ w6.drew.cell? ⟨W.heap.size, 3, none⟩ = some (.string a4) ∧ w6.drew.cell? ⟨W.heap.size + 1, 0, none⟩ = some (.int .i64 b1) ∧ w6.drew.cell? ⟨W.heap.size + 1, 1, none⟩ = some (.int .i64 b2) ∧ w6.drew.cell? ⟨W.heap.size + 1, 2, none⟩ = some (.int .i64 b3) ∧ w6.drew.cell? ⟨W.heap.size + 1, 3, none⟩ = some (.string b4) ∧ w6.drew.cell? ⟨w4.heap.size, 0, none⟩ = some (.int .i64 0) ∧ w6.drew.cell? ⟨w4.heap.size, 1, none⟩ = some (.int .i64 0) ∧ w6.drew.cell? ⟨w4.heap.size, 2, none⟩ = some (.int .i64 0) ∧ w6.drew.cell? ⟨w4.heap.size, 3, none⟩ = some (.string ⟨#[]⟩) ∧ w6.drew.cell? ⟨w4.heap.size + 1, 0, none⟩ = some (.int .i64 0) ∧ w6.drew.cell? ⟨w4.heap.size + 1, 1, none⟩ = some (.int .i64 0) ∧ w6.drew.cell? ⟨w4.heap.size + 1, 2, none⟩ = some (.int .i64 0) ∧ w6.drew.cell? ⟨w4.heap.size + 1, 3, none⟩ = some (.string ⟨#[]⟩) ∧ Below w6.heap.size w6 w6.drew from ⟨q0, q1, q2, q3, q4, q5, q6, q7, x0, x1, x2, x3, y0, y1, y2, y3, m0, m1, m2, m3, n0, n1, n2, n3, below_dn (Below.refl _ _) 1⟩)
  have XP := Lib.hid (fun u (hu : u.cell? ⟨g, q, none⟩ = some (.int .i64 a1) ∧ u.cell? ⟨g, q + 1, none⟩ = some (.int .i64 a2) ∧ u.cell? ⟨g, q + 2, none⟩ = some (.int .i64 a3) ∧ u.cell? ⟨g, q + 3, none⟩ = some (.string a4) ∧ u.cell? ⟨g, q + 4, none⟩ = some (.int .i64 b1) ∧ u.cell? ⟨g, q + 5, none⟩ = some (.int .i64 b2) ∧ u.cell? ⟨g, q + 6, none⟩ = some (.int .i64 b3) ∧ u.cell? ⟨g, q + 7, none⟩ = some (.string b4) ∧ u.cell? ⟨W.heap.size, 0, none⟩ = some (.int .i64 a1) ∧ u.cell? ⟨W.heap.size, 1, none⟩ = some (.int .i64 a2) ∧ u.cell? ⟨W.heap.size, 2, none⟩ = some (.int .i64 a3) ∧ u.cell? ⟨W.heap.size, 3, none⟩ = some (.string a4) ∧ u.cell? ⟨W.heap.size + 1, 0, none⟩ = some (.int .i64 b1) ∧ u.cell? ⟨W.heap.size + 1, 1, none⟩ = some (.int .i64 b2) ∧ u.cell? ⟨W.heap.size + 1, 2, none⟩ = some (.int .i64 b3) ∧ u.cell? ⟨W.heap.size + 1, 3, none⟩ = some (.string b4) ∧ u.cell? ⟨w4.heap.size, 0, none⟩ = some (.int .i64 0) ∧ u.cell? ⟨w4.heap.size, 1, none⟩ = some (.int .i64 0) ∧ u.cell? ⟨w4.heap.size, 2, none⟩ = some (.int .i64 0) ∧ u.cell? ⟨w4.heap.size, 3, none⟩ = some (.string ⟨#[]⟩) ∧ u.cell? ⟨w4.heap.size + 1, 0, none⟩ = some (.int .i64 0) ∧ u.cell? ⟨w4.heap.size + 1, 1, none⟩ = some (.int .i64 0) ∧ u.cell? ⟨w4.heap.size + 1, 2, none⟩ = some (.int .i64 0) ∧ u.cell? ⟨w4.heap.size + 1, 3, none⟩ = some (.string ⟨#[]⟩) ∧ Below w6.heap.size w6 u) => (HX u).mono (R' := fun e u' => e = .returned (.bool X) ∧ (u'.cell? ⟨g, q, none⟩ = some (.int .i64 a1) ∧ u'.cell? ⟨g, q + 1, none⟩ = some (.int .i64 a2) ∧ u'.cell? ⟨g, q + 2, none⟩ = some (.int .i64 a3) ∧ u'.cell? ⟨g, q + 3, none⟩ = some (.string a4) ∧ u'.cell? ⟨g, q + 4, none⟩ = some (.int .i64 b1) ∧ u'.cell? ⟨g, q + 5, none⟩ = some (.int .i64 b2) ∧ u'.cell? ⟨g, q + 6, none⟩ = some (.int .i64 b3) ∧ u'.cell? ⟨g, q + 7, none⟩ = some (.string b4) ∧ u'.cell? ⟨W.heap.size, 0, none⟩ = some (.int .i64 a1) ∧ u'.cell? ⟨W.heap.size, 1, none⟩ = some (.int .i64 a2) ∧ u'.cell? ⟨W.heap.size, 2, none⟩ = some (.int .i64 a3) ∧ u'.cell? ⟨W.heap.size, 3, none⟩ = some (.string a4) ∧ u'.cell? ⟨W.heap.size + 1, 0, none⟩ = some (.int .i64 b1) ∧ u'.cell? ⟨W.heap.size + 1, 1, none⟩ = some (.int .i64 b2) ∧ u'.cell? ⟨W.heap.size + 1, 2, none⟩ = some (.int .i64 b3) ∧ u'.cell? ⟨W.heap.size + 1, 3, none⟩ = some (.string b4) ∧ u'.cell? ⟨w4.heap.size, 0, none⟩ = some (.int .i64 0) ∧ u'.cell? ⟨w4.heap.size, 1, none⟩ = some (.int .i64 0) ∧ u'.cell? ⟨w4.heap.size, 2, none⟩ = some (.int .i64 0) ∧ u'.cell? ⟨w4.heap.size, 3, none⟩ = some (.string ⟨#[]⟩) ∧ u'.cell? ⟨w4.heap.size + 1, 0, none⟩ = some (.int .i64 0) ∧ u'.cell? ⟨w4.heap.size + 1, 1, none⟩ = some (.int .i64 0) ∧ u'.cell? ⟨w4.heap.size + 1, 2, none⟩ = some (.int .i64 0) ∧ u'.cell? ⟨w4.heap.size + 1, 3, none⟩ = some (.string ⟨#[]⟩) ∧ Below w6.heap.size w6 u')) fun e u' ⟨he, hq⟩ => ⟨he, ⟨cell_below hu.1 hq, cell_below hu.2.1 hq, cell_below hu.2.2.1 hq, cell_below hu.2.2.2.1 hq, cell_below hu.2.2.2.2.1 hq, cell_below hu.2.2.2.2.2.1 hq, cell_below hu.2.2.2.2.2.2.1 hq, cell_below hu.2.2.2.2.2.2.2.1 hq, cell_below hu.2.2.2.2.2.2.2.2.1 hq, cell_below hu.2.2.2.2.2.2.2.2.2.1 hq, cell_below hu.2.2.2.2.2.2.2.2.2.2.1 hq, cell_below hu.2.2.2.2.2.2.2.2.2.2.2.1 hq, cell_below hu.2.2.2.2.2.2.2.2.2.2.2.2.1 hq, cell_below hu.2.2.2.2.2.2.2.2.2.2.2.2.2.1 hq, cell_below hu.2.2.2.2.2.2.2.2.2.2.2.2.2.2.1 hq, cell_below hu.2.2.2.2.2.2.2.2.2.2.2.2.2.2.2.1 hq, cell_below hu.2.2.2.2.2.2.2.2.2.2.2.2.2.2.2.2.1 hq, cell_below hu.2.2.2.2.2.2.2.2.2.2.2.2.2.2.2.2.2.1 hq, cell_below hu.2.2.2.2.2.2.2.2.2.2.2.2.2.2.2.2.2.2.1 hq, cell_below hu.2.2.2.2.2.2.2.2.2.2.2.2.2.2.2.2.2.2.2.1 hq, cell_below hu.2.2.2.2.2.2.2.2.2.2.2.2.2.2.2.2.2.2.2.2.1 hq, cell_below hu.2.2.2.2.2.2.2.2.2.2.2.2.2.2.2.2.2.2.2.2.2.1 hq, cell_below hu.2.2.2.2.2.2.2.2.2.2.2.2.2.2.2.2.2.2.2.2.2.2.1 hq, cell_below hu.2.2.2.2.2.2.2.2.2.2.2.2.2.2.2.2.2.2.2.2.2.2.2.1 hq, below_on hu.2.2.2.2.2.2.2.2.2.2.2.2.2.2.2.2.2.2.2.2.2.2.2.2 hq⟩⟩)
  have XY := Lib.hid (fun u (hu : u.cell? ⟨g, q, none⟩ = some (.int .i64 a1) ∧ u.cell? ⟨g, q + 1, none⟩ = some (.int .i64 a2) ∧ u.cell? ⟨g, q + 2, none⟩ = some (.int .i64 a3) ∧ u.cell? ⟨g, q + 3, none⟩ = some (.string a4) ∧ u.cell? ⟨g, q + 4, none⟩ = some (.int .i64 b1) ∧ u.cell? ⟨g, q + 5, none⟩ = some (.int .i64 b2) ∧ u.cell? ⟨g, q + 6, none⟩ = some (.int .i64 b3) ∧ u.cell? ⟨g, q + 7, none⟩ = some (.string b4) ∧ u.cell? ⟨W.heap.size, 0, none⟩ = some (.int .i64 a1) ∧ u.cell? ⟨W.heap.size, 1, none⟩ = some (.int .i64 a2) ∧ u.cell? ⟨W.heap.size, 2, none⟩ = some (.int .i64 a3) ∧ u.cell? ⟨W.heap.size, 3, none⟩ = some (.string a4) ∧ u.cell? ⟨W.heap.size + 1, 0, none⟩ = some (.int .i64 b1) ∧ u.cell? ⟨W.heap.size + 1, 1, none⟩ = some (.int .i64 b2) ∧ u.cell? ⟨W.heap.size + 1, 2, none⟩ = some (.int .i64 b3) ∧ u.cell? ⟨W.heap.size + 1, 3, none⟩ = some (.string b4) ∧ u.cell? ⟨w4.heap.size, 0, none⟩ = some (.int .i64 0) ∧ u.cell? ⟨w4.heap.size, 1, none⟩ = some (.int .i64 0) ∧ u.cell? ⟨w4.heap.size, 2, none⟩ = some (.int .i64 0) ∧ u.cell? ⟨w4.heap.size, 3, none⟩ = some (.string ⟨#[]⟩) ∧ u.cell? ⟨w4.heap.size + 1, 0, none⟩ = some (.int .i64 0) ∧ u.cell? ⟨w4.heap.size + 1, 1, none⟩ = some (.int .i64 0) ∧ u.cell? ⟨w4.heap.size + 1, 2, none⟩ = some (.int .i64 0) ∧ u.cell? ⟨w4.heap.size + 1, 3, none⟩ = some (.string ⟨#[]⟩) ∧ Below w6.heap.size w6 u) => (HY u).mono (R' := fun e u' => e = .returned (.bool X) ∧ (u'.cell? ⟨g, q, none⟩ = some (.int .i64 a1) ∧ u'.cell? ⟨g, q + 1, none⟩ = some (.int .i64 a2) ∧ u'.cell? ⟨g, q + 2, none⟩ = some (.int .i64 a3) ∧ u'.cell? ⟨g, q + 3, none⟩ = some (.string a4) ∧ u'.cell? ⟨g, q + 4, none⟩ = some (.int .i64 b1) ∧ u'.cell? ⟨g, q + 5, none⟩ = some (.int .i64 b2) ∧ u'.cell? ⟨g, q + 6, none⟩ = some (.int .i64 b3) ∧ u'.cell? ⟨g, q + 7, none⟩ = some (.string b4) ∧ u'.cell? ⟨W.heap.size, 0, none⟩ = some (.int .i64 a1) ∧ u'.cell? ⟨W.heap.size, 1, none⟩ = some (.int .i64 a2) ∧ u'.cell? ⟨W.heap.size, 2, none⟩ = some (.int .i64 a3) ∧ u'.cell? ⟨W.heap.size, 3, none⟩ = some (.string a4) ∧ u'.cell? ⟨W.heap.size + 1, 0, none⟩ = some (.int .i64 b1) ∧ u'.cell? ⟨W.heap.size + 1, 1, none⟩ = some (.int .i64 b2) ∧ u'.cell? ⟨W.heap.size + 1, 2, none⟩ = some (.int .i64 b3) ∧ u'.cell? ⟨W.heap.size + 1, 3, none⟩ = some (.string b4) ∧ u'.cell? ⟨w4.heap.size, 0, none⟩ = some (.int .i64 0) ∧ u'.cell? ⟨w4.heap.size, 1, none⟩ = some (.int .i64 0) ∧ u'.cell? ⟨w4.heap.size, 2, none⟩ = some (.int .i64 0) ∧ u'.cell? ⟨w4.heap.size, 3, none⟩ = some (.string ⟨#[]⟩) ∧ u'.cell? ⟨w4.heap.size + 1, 0, none⟩ = some (.int .i64 0) ∧ u'.cell? ⟨w4.heap.size + 1, 1, none⟩ = some (.int .i64 0) ∧ u'.cell? ⟨w4.heap.size + 1, 2, none⟩ = some (.int .i64 0) ∧ u'.cell? ⟨w4.heap.size + 1, 3, none⟩ = some (.string ⟨#[]⟩) ∧ Below w6.heap.size w6 u')) fun e u' ⟨he, hq⟩ => ⟨he, ⟨cell_below hu.1 hq, cell_below hu.2.1 hq, cell_below hu.2.2.1 hq, cell_below hu.2.2.2.1 hq, cell_below hu.2.2.2.2.1 hq, cell_below hu.2.2.2.2.2.1 hq, cell_below hu.2.2.2.2.2.2.1 hq, cell_below hu.2.2.2.2.2.2.2.1 hq, cell_below hu.2.2.2.2.2.2.2.2.1 hq, cell_below hu.2.2.2.2.2.2.2.2.2.1 hq, cell_below hu.2.2.2.2.2.2.2.2.2.2.1 hq, cell_below hu.2.2.2.2.2.2.2.2.2.2.2.1 hq, cell_below hu.2.2.2.2.2.2.2.2.2.2.2.2.1 hq, cell_below hu.2.2.2.2.2.2.2.2.2.2.2.2.2.1 hq, cell_below hu.2.2.2.2.2.2.2.2.2.2.2.2.2.2.1 hq, cell_below hu.2.2.2.2.2.2.2.2.2.2.2.2.2.2.2.1 hq, cell_below hu.2.2.2.2.2.2.2.2.2.2.2.2.2.2.2.2.1 hq, cell_below hu.2.2.2.2.2.2.2.2.2.2.2.2.2.2.2.2.2.1 hq, cell_below hu.2.2.2.2.2.2.2.2.2.2.2.2.2.2.2.2.2.2.1 hq, cell_below hu.2.2.2.2.2.2.2.2.2.2.2.2.2.2.2.2.2.2.2.1 hq, cell_below hu.2.2.2.2.2.2.2.2.2.2.2.2.2.2.2.2.2.2.2.2.1 hq, cell_below hu.2.2.2.2.2.2.2.2.2.2.2.2.2.2.2.2.2.2.2.2.2.1 hq, cell_below hu.2.2.2.2.2.2.2.2.2.2.2.2.2.2.2.2.2.2.2.2.2.2.1 hq, cell_below hu.2.2.2.2.2.2.2.2.2.2.2.2.2.2.2.2.2.2.2.2.2.2.2.1 hq, below_on hu.2.2.2.2.2.2.2.2.2.2.2.2.2.2.2.2.2.2.2.2.2.2.2.2 hq⟩⟩)
  clear HX HY
  go_wp2_with fail
  refine wp_region_held_drew (S := fun u => u.cell? ⟨g, q, none⟩ = some (.int .i64 a1) ∧ u.cell? ⟨g, q + 1, none⟩ = some (.int .i64 a2) ∧ u.cell? ⟨g, q + 2, none⟩ = some (.int .i64 a3) ∧ u.cell? ⟨g, q + 3, none⟩ = some (.string a4) ∧ u.cell? ⟨g, q + 4, none⟩ = some (.int .i64 b1) ∧ u.cell? ⟨g, q + 5, none⟩ = some (.int .i64 b2) ∧ u.cell? ⟨g, q + 6, none⟩ = some (.int .i64 b3) ∧ u.cell? ⟨g, q + 7, none⟩ = some (.string b4) ∧ u.cell? ⟨W.heap.size, 0, none⟩ = some (.int .i64 a1) ∧ u.cell? ⟨W.heap.size, 1, none⟩ = some (.int .i64 a2) ∧ u.cell? ⟨W.heap.size, 2, none⟩ = some (.int .i64 a3) ∧ u.cell? ⟨W.heap.size, 3, none⟩ = some (.string a4) ∧ u.cell? ⟨W.heap.size + 1, 0, none⟩ = some (.int .i64 b1) ∧ u.cell? ⟨W.heap.size + 1, 1, none⟩ = some (.int .i64 b2) ∧ u.cell? ⟨W.heap.size + 1, 2, none⟩ = some (.int .i64 b3) ∧ u.cell? ⟨W.heap.size + 1, 3, none⟩ = some (.string b4) ∧ u.cell? ⟨w4.heap.size, 0, none⟩ = some (.int .i64 0) ∧ u.cell? ⟨w4.heap.size, 1, none⟩ = some (.int .i64 0) ∧ u.cell? ⟨w4.heap.size, 2, none⟩ = some (.int .i64 0) ∧ u.cell? ⟨w4.heap.size, 3, none⟩ = some (.string ⟨#[]⟩) ∧ u.cell? ⟨w4.heap.size + 1, 0, none⟩ = some (.int .i64 0) ∧ u.cell? ⟨w4.heap.size + 1, 1, none⟩ = some (.int .i64 0) ∧ u.cell? ⟨w4.heap.size + 1, 2, none⟩ = some (.int .i64 0) ∧ u.cell? ⟨w4.heap.size + 1, 3, none⟩ = some (.string ⟨#[]⟩) ∧ Below w6.heap.size w6 u) (by kernel_rfl) Hs.out (fun hHeld => ?_)
  refine wpAnyH_take (i := 0) (oi := { dst := some 42, op := _, type := _, pos := _, after := _, guard := _ }) (v := ?v2_0) rfl (by kernel_rfl) (by kernel_rfl) (by kernel_rfl) (fun _ _ _ h => h) (Or.inl ⟨by rfl, ?hy2_0⟩) hHeld ?_
  case hy2_0 => (intro w hSw; (try dsimp only at hSw); go_simp; try with_reducible rfl)
  simp only [Act.put, List.setIfInBounds_toArray, List.set_cons_zero, List.set_cons_succ]
  refine wpAnyH_take (i := 1) (oi := { dst := some 43, op := _, type := _, pos := _, after := _, guard := _ }) (v := ?v2_1) rfl (by kernel_rfl) (by kernel_rfl) (by kernel_rfl) (fun _ _ _ h => h) (Or.inl ⟨by rfl, ?hy2_1⟩) hHeld ?_
  case hy2_1 => (intro w hSw; (try dsimp only at hSw); go_simp; try with_reducible rfl)
  simp only [Act.put, List.setIfInBounds_toArray, List.set_cons_zero, List.set_cons_succ]
  refine wpAnyH_take (i := 2) (oi := { dst := some 44, op := _, type := _, pos := _, after := _, guard := _ }) (v := ?v2_2) rfl (by kernel_rfl) (by kernel_rfl) (by kernel_rfl) (fun _ _ _ h => h) (Or.inl ⟨by rfl, ?hy2_2⟩) hHeld ?_
  case hy2_2 => (intro w hSw; (try dsimp only at hSw); go_simp; try with_reducible rfl)
  simp only [Act.put, List.setIfInBounds_toArray, List.set_cons_zero, List.set_cons_succ]
  refine wpAnyH_take (i := 3) (oi := { dst := some 45, op := _, type := _, pos := _, after := _, guard := _ }) (v := ?v2_3) rfl (by kernel_rfl) (by kernel_rfl) (by kernel_rfl) (fun _ _ _ h => h) (Or.inl ⟨by rfl, ?hy2_3⟩) hHeld ?_
  case hy2_3 => (intro w hSw; (try dsimp only at hSw); go_simp; try with_reducible rfl)
  simp only [Act.put, List.setIfInBounds_toArray, List.set_cons_zero, List.set_cons_succ]
  refine wpAnyH_take (i := 4) (oi := { dst := some 46, op := _, type := _, pos := _, after := _, guard := _ }) (v := ?v2_4) rfl (by kernel_rfl) (by kernel_rfl) (by kernel_rfl) (fun _ _ _ h => h) (Or.inl ⟨by rfl, ?hy2_4⟩) hHeld ?_
  case hy2_4 => (intro w hSw; (try dsimp only at hSw); go_simp; try with_reducible rfl)
  simp only [Act.put, List.setIfInBounds_toArray, List.set_cons_zero, List.set_cons_succ]
  refine wpAnyH_take (i := 5) (oi := { dst := some 47, op := _, type := _, pos := _, after := _, guard := _ }) (v := ?v2_5) rfl (by kernel_rfl) (by kernel_rfl) (by kernel_rfl) (fun _ _ _ h => h) (Or.inl ⟨by rfl, ?hy2_5⟩) hHeld ?_
  case hy2_5 => (intro w hSw; (try dsimp only at hSw); go_simp; try with_reducible rfl)
  simp only [Act.put, List.setIfInBounds_toArray, List.set_cons_zero, List.set_cons_succ]
  refine wpAnyH_take (i := 7) (oi := { dst := some 49, op := _, type := _, pos := _, after := _, guard := _ }) (v := ?v2_7) rfl (by kernel_rfl) (by kernel_rfl) (by kernel_rfl) (fun _ _ _ h => h) (Or.inl ⟨by rfl, ?hy2_7⟩) hHeld ?_
  case hy2_7 => (intro w hSw; (try dsimp only at hSw); go_simp; try with_reducible rfl)
  simp only [Act.put, List.setIfInBounds_toArray, List.set_cons_zero, List.set_cons_succ]
  refine wpAnyH_take (i := 8) (oi := { dst := some 50, op := _, type := _, pos := _, after := _, guard := _ }) (v := ?v2_8) rfl (by kernel_rfl) (by kernel_rfl) (by kernel_rfl) (fun _ _ _ h => h) (Or.inl ⟨by rfl, ?hy2_8⟩) hHeld ?_
  case hy2_8 => (intro w hSw; (try dsimp only at hSw); go_simp; try with_reducible rfl)
  simp only [Act.put, List.setIfInBounds_toArray, List.set_cons_zero, List.set_cons_succ]
  refine wpAnyH_ready (rs := [6]) (by kernel_rfl) (by simp) ?_
  refine AllReadyH.cons (o := { dst := some 48, op := _, type := _, pos := _, after := _, guard := _ }) rfl (fun K hK => ?_) AllReadyH.nil
  go_simp
  go_at_call 10
  refine (XP.out _ (by assumption)).mono ?_
  rintro ee0 t0 ⟨rfl, hs0⟩
  refine hK.out _ _ hs0 (fun hHeld => ?_)
  clear hK K
  refine wpAnyH_ready (rs := [9]) (by kernel_rfl) (by simp) ?_
  refine AllReadyH.cons (o := { dst := some 51, op := _, type := _, pos := _, after := _, guard := _ }) rfl (fun K hK => ?_) AllReadyH.nil
  go_simp
  go_at_call 11
  refine (XY.out _ (by assumption)).mono ?_
  rintro ee1 t1 ⟨rfl, hs1⟩
  refine hK.out _ _ hs1 (fun hHeld => ?_)
  clear hK K
  refine wpAnyH_take (i := 10) (oi := { dst := some 52, op := _, type := _, pos := _, after := _, guard := _ }) (v := ?v2_10) rfl (by kernel_rfl) (by kernel_rfl) (by kernel_rfl) (fun _ _ _ h => h) (Or.inl ⟨by rfl, ?hy2_10⟩) hHeld ?_
  case hy2_10 => (intro w hSw; (try dsimp only at hSw); go_simp; try with_reducible rfl)
  simp only [Act.put, List.setIfInBounds_toArray, List.set_cons_zero, List.set_cons_succ]
  refine wpAnyH_take (i := 11) (oi := { dst := some 53, op := _, type := _, pos := _, after := _, guard := _ }) (v := ?v2_11) rfl (by kernel_rfl) (by kernel_rfl) (by kernel_rfl) (fun _ _ _ h => h) (Or.inl ⟨by rfl, ?hy2_11⟩) hHeld ?_
  case hy2_11 => (intro w hSw; (try dsimp only at hSw); go_simp; try with_reducible rfl)
  simp only [Act.put, List.setIfInBounds_toArray, List.set_cons_zero, List.set_cons_succ]
  refine wpAnyH_take (i := 12) (oi := { dst := some 54, op := _, type := _, pos := _, after := _, guard := _ }) (v := ?v2_12) rfl (by kernel_rfl) (by kernel_rfl) (by kernel_rfl) (fun _ _ _ h => h) (Or.inl ⟨by rfl, ?hy2_12⟩) hHeld ?_
  case hy2_12 => (intro w hSw; (try dsimp only at hSw); go_simp; try with_reducible rfl)
  simp only [Act.put, List.setIfInBounds_toArray, List.set_cons_zero, List.set_cons_succ]
  refine wpAnyH_take (i := 15) (oi := { dst := some 57, op := _, type := _, pos := _, after := _, guard := _ }) (v := ?v2_15) rfl (by kernel_rfl) (by kernel_rfl) (by kernel_rfl) (fun _ _ _ h => h) (Or.inl ⟨by rfl, ?hy2_15⟩) hHeld ?_
  case hy2_15 => (intro w hSw; (try dsimp only at hSw); go_simp; try with_reducible rfl)
  simp only [Act.put, List.setIfInBounds_toArray, List.set_cons_zero, List.set_cons_succ]
  refine wpAnyH_ready (rs := [13]) (by kernel_rfl) (by simp) ?_
  refine AllReadyH.cons (o := { dst := some 55, op := _, type := _, pos := _, after := _, guard := _ }) rfl (fun K hK => ?_) AllReadyH.nil
  go_simp
  go_at_call 14
  refine (HP.out _ ([] : List Cd) _ (by simp) (V77.out.on hs1.2.2.2.2.2.2.2.2.2.2.2.2.2.2.2.2.2.2.2.2.2.2.2.2)).mono ?_
  rintro ee2 t2 ⟨v55, rfl, hv55, hb55⟩
  have hs2 : t2.cell? ⟨g, q, none⟩ = some (.int .i64 a1) ∧ t2.cell? ⟨g, q + 1, none⟩ = some (.int .i64 a2) ∧ t2.cell? ⟨g, q + 2, none⟩ = some (.int .i64 a3) ∧ t2.cell? ⟨g, q + 3, none⟩ = some (.string a4) ∧ t2.cell? ⟨g, q + 4, none⟩ = some (.int .i64 b1) ∧ t2.cell? ⟨g, q + 5, none⟩ = some (.int .i64 b2) ∧ t2.cell? ⟨g, q + 6, none⟩ = some (.int .i64 b3) ∧ t2.cell? ⟨g, q + 7, none⟩ = some (.string b4) ∧ t2.cell? ⟨W.heap.size, 0, none⟩ = some (.int .i64 a1) ∧ t2.cell? ⟨W.heap.size, 1, none⟩ = some (.int .i64 a2) ∧ t2.cell? ⟨W.heap.size, 2, none⟩ = some (.int .i64 a3) ∧ t2.cell? ⟨W.heap.size, 3, none⟩ = some (.string a4) ∧ t2.cell? ⟨W.heap.size + 1, 0, none⟩ = some (.int .i64 b1) ∧ t2.cell? ⟨W.heap.size + 1, 1, none⟩ = some (.int .i64 b2) ∧ t2.cell? ⟨W.heap.size + 1, 2, none⟩ = some (.int .i64 b3) ∧ t2.cell? ⟨W.heap.size + 1, 3, none⟩ = some (.string b4) ∧ t2.cell? ⟨w4.heap.size, 0, none⟩ = some (.int .i64 0) ∧ t2.cell? ⟨w4.heap.size, 1, none⟩ = some (.int .i64 0) ∧ t2.cell? ⟨w4.heap.size, 2, none⟩ = some (.int .i64 0) ∧ t2.cell? ⟨w4.heap.size, 3, none⟩ = some (.string ⟨#[]⟩) ∧ t2.cell? ⟨w4.heap.size + 1, 0, none⟩ = some (.int .i64 0) ∧ t2.cell? ⟨w4.heap.size + 1, 1, none⟩ = some (.int .i64 0) ∧ t2.cell? ⟨w4.heap.size + 1, 2, none⟩ = some (.int .i64 0) ∧ t2.cell? ⟨w4.heap.size + 1, 3, none⟩ = some (.string ⟨#[]⟩) ∧ Below w6.heap.size w6 t2 := ⟨cell_below hs1.1 hb55, cell_below hs1.2.1 hb55, cell_below hs1.2.2.1 hb55, cell_below hs1.2.2.2.1 hb55, cell_below hs1.2.2.2.2.1 hb55, cell_below hs1.2.2.2.2.2.1 hb55, cell_below hs1.2.2.2.2.2.2.1 hb55, cell_below hs1.2.2.2.2.2.2.2.1 hb55, cell_below hs1.2.2.2.2.2.2.2.2.1 hb55, cell_below hs1.2.2.2.2.2.2.2.2.2.1 hb55, cell_below hs1.2.2.2.2.2.2.2.2.2.2.1 hb55, cell_below hs1.2.2.2.2.2.2.2.2.2.2.2.1 hb55, cell_below hs1.2.2.2.2.2.2.2.2.2.2.2.2.1 hb55, cell_below hs1.2.2.2.2.2.2.2.2.2.2.2.2.2.1 hb55, cell_below hs1.2.2.2.2.2.2.2.2.2.2.2.2.2.2.1 hb55, cell_below hs1.2.2.2.2.2.2.2.2.2.2.2.2.2.2.2.1 hb55, cell_below hs1.2.2.2.2.2.2.2.2.2.2.2.2.2.2.2.2.1 hb55, cell_below hs1.2.2.2.2.2.2.2.2.2.2.2.2.2.2.2.2.2.1 hb55, cell_below hs1.2.2.2.2.2.2.2.2.2.2.2.2.2.2.2.2.2.2.1 hb55, cell_below hs1.2.2.2.2.2.2.2.2.2.2.2.2.2.2.2.2.2.2.2.1 hb55, cell_below hs1.2.2.2.2.2.2.2.2.2.2.2.2.2.2.2.2.2.2.2.2.1 hb55, cell_below hs1.2.2.2.2.2.2.2.2.2.2.2.2.2.2.2.2.2.2.2.2.2.1 hb55, cell_below hs1.2.2.2.2.2.2.2.2.2.2.2.2.2.2.2.2.2.2.2.2.2.2.1 hb55, cell_below hs1.2.2.2.2.2.2.2.2.2.2.2.2.2.2.2.2.2.2.2.2.2.2.2.1 hb55, below_on hs1.2.2.2.2.2.2.2.2.2.2.2.2.2.2.2.2.2.2.2.2.2.2.2.2 hb55⟩
  refine hK.out _ _ hs2 (fun hHeld => ?_)
  clear hK K
  refine wpAnyH_ready (rs := [14]) (by kernel_rfl) (by simp) ?_
  refine AllReadyH.cons (o := { dst := some 56, op := _, type := _, pos := _, after := _, guard := _ }) rfl (fun K hK => ?_) AllReadyH.nil
  go_simp
  go_at_call 13
  refine (HB.out _ (srtR ([] : List Cd)) _ (by rw [hlen.out]; simp) hv55).mono ?_
  rintro ee3 t3 ⟨v56, rfl, hv56, hb56⟩
  have hs3 : t3.cell? ⟨g, q, none⟩ = some (.int .i64 a1) ∧ t3.cell? ⟨g, q + 1, none⟩ = some (.int .i64 a2) ∧ t3.cell? ⟨g, q + 2, none⟩ = some (.int .i64 a3) ∧ t3.cell? ⟨g, q + 3, none⟩ = some (.string a4) ∧ t3.cell? ⟨g, q + 4, none⟩ = some (.int .i64 b1) ∧ t3.cell? ⟨g, q + 5, none⟩ = some (.int .i64 b2) ∧ t3.cell? ⟨g, q + 6, none⟩ = some (.int .i64 b3) ∧ t3.cell? ⟨g, q + 7, none⟩ = some (.string b4) ∧ t3.cell? ⟨W.heap.size, 0, none⟩ = some (.int .i64 a1) ∧ t3.cell? ⟨W.heap.size, 1, none⟩ = some (.int .i64 a2) ∧ t3.cell? ⟨W.heap.size, 2, none⟩ = some (.int .i64 a3) ∧ t3.cell? ⟨W.heap.size, 3, none⟩ = some (.string a4) ∧ t3.cell? ⟨W.heap.size + 1, 0, none⟩ = some (.int .i64 b1) ∧ t3.cell? ⟨W.heap.size + 1, 1, none⟩ = some (.int .i64 b2) ∧ t3.cell? ⟨W.heap.size + 1, 2, none⟩ = some (.int .i64 b3) ∧ t3.cell? ⟨W.heap.size + 1, 3, none⟩ = some (.string b4) ∧ t3.cell? ⟨w4.heap.size, 0, none⟩ = some (.int .i64 0) ∧ t3.cell? ⟨w4.heap.size, 1, none⟩ = some (.int .i64 0) ∧ t3.cell? ⟨w4.heap.size, 2, none⟩ = some (.int .i64 0) ∧ t3.cell? ⟨w4.heap.size, 3, none⟩ = some (.string ⟨#[]⟩) ∧ t3.cell? ⟨w4.heap.size + 1, 0, none⟩ = some (.int .i64 0) ∧ t3.cell? ⟨w4.heap.size + 1, 1, none⟩ = some (.int .i64 0) ∧ t3.cell? ⟨w4.heap.size + 1, 2, none⟩ = some (.int .i64 0) ∧ t3.cell? ⟨w4.heap.size + 1, 3, none⟩ = some (.string ⟨#[]⟩) ∧ Below w6.heap.size w6 t3 := ⟨cell_below hs2.1 hb56, cell_below hs2.2.1 hb56, cell_below hs2.2.2.1 hb56, cell_below hs2.2.2.2.1 hb56, cell_below hs2.2.2.2.2.1 hb56, cell_below hs2.2.2.2.2.2.1 hb56, cell_below hs2.2.2.2.2.2.2.1 hb56, cell_below hs2.2.2.2.2.2.2.2.1 hb56, cell_below hs2.2.2.2.2.2.2.2.2.1 hb56, cell_below hs2.2.2.2.2.2.2.2.2.2.1 hb56, cell_below hs2.2.2.2.2.2.2.2.2.2.2.1 hb56, cell_below hs2.2.2.2.2.2.2.2.2.2.2.2.1 hb56, cell_below hs2.2.2.2.2.2.2.2.2.2.2.2.2.1 hb56, cell_below hs2.2.2.2.2.2.2.2.2.2.2.2.2.2.1 hb56, cell_below hs2.2.2.2.2.2.2.2.2.2.2.2.2.2.2.1 hb56, cell_below hs2.2.2.2.2.2.2.2.2.2.2.2.2.2.2.2.1 hb56, cell_below hs2.2.2.2.2.2.2.2.2.2.2.2.2.2.2.2.2.1 hb56, cell_below hs2.2.2.2.2.2.2.2.2.2.2.2.2.2.2.2.2.2.1 hb56, cell_below hs2.2.2.2.2.2.2.2.2.2.2.2.2.2.2.2.2.2.2.1 hb56, cell_below hs2.2.2.2.2.2.2.2.2.2.2.2.2.2.2.2.2.2.2.2.1 hb56, cell_below hs2.2.2.2.2.2.2.2.2.2.2.2.2.2.2.2.2.2.2.2.2.1 hb56, cell_below hs2.2.2.2.2.2.2.2.2.2.2.2.2.2.2.2.2.2.2.2.2.2.1 hb56, cell_below hs2.2.2.2.2.2.2.2.2.2.2.2.2.2.2.2.2.2.2.2.2.2.2.1 hb56, cell_below hs2.2.2.2.2.2.2.2.2.2.2.2.2.2.2.2.2.2.2.2.2.2.2.2.1 hb56, below_on hs2.2.2.2.2.2.2.2.2.2.2.2.2.2.2.2.2.2.2.2.2.2.2.2.2 hb56⟩
  refine hK.out _ _ hs3 (fun hHeld => ?_)
  clear hK K
  refine wpAnyH_ready (rs := [16]) (by kernel_rfl) (by simp) ?_
  refine AllReadyH.cons (o := { dst := some 58, op := _, type := _, pos := _, after := _, guard := _ }) rfl (fun K hK => ?_) AllReadyH.nil
  go_simp
  go_at_call 12
  refine (HE.out _ _ (srtR ([] : List Cd)) _ (by rw [hlen.out]; simp) hv56.cs (V87.out.on hs3.2.2.2.2.2.2.2.2.2.2.2.2.2.2.2.2.2.2.2.2.2.2.2.2)).mono ?_
  rintro ee4 t4 ⟨rfl, hb57⟩
  have hs4 : t4.cell? ⟨g, q, none⟩ = some (.int .i64 a1) ∧ t4.cell? ⟨g, q + 1, none⟩ = some (.int .i64 a2) ∧ t4.cell? ⟨g, q + 2, none⟩ = some (.int .i64 a3) ∧ t4.cell? ⟨g, q + 3, none⟩ = some (.string a4) ∧ t4.cell? ⟨g, q + 4, none⟩ = some (.int .i64 b1) ∧ t4.cell? ⟨g, q + 5, none⟩ = some (.int .i64 b2) ∧ t4.cell? ⟨g, q + 6, none⟩ = some (.int .i64 b3) ∧ t4.cell? ⟨g, q + 7, none⟩ = some (.string b4) ∧ t4.cell? ⟨W.heap.size, 0, none⟩ = some (.int .i64 a1) ∧ t4.cell? ⟨W.heap.size, 1, none⟩ = some (.int .i64 a2) ∧ t4.cell? ⟨W.heap.size, 2, none⟩ = some (.int .i64 a3) ∧ t4.cell? ⟨W.heap.size, 3, none⟩ = some (.string a4) ∧ t4.cell? ⟨W.heap.size + 1, 0, none⟩ = some (.int .i64 b1) ∧ t4.cell? ⟨W.heap.size + 1, 1, none⟩ = some (.int .i64 b2) ∧ t4.cell? ⟨W.heap.size + 1, 2, none⟩ = some (.int .i64 b3) ∧ t4.cell? ⟨W.heap.size + 1, 3, none⟩ = some (.string b4) ∧ t4.cell? ⟨w4.heap.size, 0, none⟩ = some (.int .i64 0) ∧ t4.cell? ⟨w4.heap.size, 1, none⟩ = some (.int .i64 0) ∧ t4.cell? ⟨w4.heap.size, 2, none⟩ = some (.int .i64 0) ∧ t4.cell? ⟨w4.heap.size, 3, none⟩ = some (.string ⟨#[]⟩) ∧ t4.cell? ⟨w4.heap.size + 1, 0, none⟩ = some (.int .i64 0) ∧ t4.cell? ⟨w4.heap.size + 1, 1, none⟩ = some (.int .i64 0) ∧ t4.cell? ⟨w4.heap.size + 1, 2, none⟩ = some (.int .i64 0) ∧ t4.cell? ⟨w4.heap.size + 1, 3, none⟩ = some (.string ⟨#[]⟩) ∧ Below w6.heap.size w6 t4 := ⟨cell_below hs3.1 hb57, cell_below hs3.2.1 hb57, cell_below hs3.2.2.1 hb57, cell_below hs3.2.2.2.1 hb57, cell_below hs3.2.2.2.2.1 hb57, cell_below hs3.2.2.2.2.2.1 hb57, cell_below hs3.2.2.2.2.2.2.1 hb57, cell_below hs3.2.2.2.2.2.2.2.1 hb57, cell_below hs3.2.2.2.2.2.2.2.2.1 hb57, cell_below hs3.2.2.2.2.2.2.2.2.2.1 hb57, cell_below hs3.2.2.2.2.2.2.2.2.2.2.1 hb57, cell_below hs3.2.2.2.2.2.2.2.2.2.2.2.1 hb57, cell_below hs3.2.2.2.2.2.2.2.2.2.2.2.2.1 hb57, cell_below hs3.2.2.2.2.2.2.2.2.2.2.2.2.2.1 hb57, cell_below hs3.2.2.2.2.2.2.2.2.2.2.2.2.2.2.1 hb57, cell_below hs3.2.2.2.2.2.2.2.2.2.2.2.2.2.2.2.1 hb57, cell_below hs3.2.2.2.2.2.2.2.2.2.2.2.2.2.2.2.2.1 hb57, cell_below hs3.2.2.2.2.2.2.2.2.2.2.2.2.2.2.2.2.2.1 hb57, cell_below hs3.2.2.2.2.2.2.2.2.2.2.2.2.2.2.2.2.2.2.1 hb57, cell_below hs3.2.2.2.2.2.2.2.2.2.2.2.2.2.2.2.2.2.2.2.1 hb57, cell_below hs3.2.2.2.2.2.2.2.2.2.2.2.2.2.2.2.2.2.2.2.2.1 hb57, cell_below hs3.2.2.2.2.2.2.2.2.2.2.2.2.2.2.2.2.2.2.2.2.2.1 hb57, cell_below hs3.2.2.2.2.2.2.2.2.2.2.2.2.2.2.2.2.2.2.2.2.2.2.1 hb57, cell_below hs3.2.2.2.2.2.2.2.2.2.2.2.2.2.2.2.2.2.2.2.2.2.2.2.1 hb57, below_on hs3.2.2.2.2.2.2.2.2.2.2.2.2.2.2.2.2.2.2.2.2.2.2.2.2 hb57⟩
  refine hK.out _ _ hs4 (fun hHeld => ?_)
  clear hK K
  refine wpAnyH_take (i := 17) (oi := { dst := some 59, op := _, type := _, pos := _, after := _, guard := _ }) (v := ?v2_17) rfl (by kernel_rfl) (by kernel_rfl) (by kernel_rfl) (fun _ _ _ h => h) (Or.inl ⟨by rfl, ?hy2_17⟩) hHeld ?_
  case hy2_17 => (intro w hSw; (try dsimp only at hSw); go_simp; try with_reducible rfl)
  simp only [Act.put, List.setIfInBounds_toArray, List.set_cons_zero, List.set_cons_succ]
  refine wpAnyH_take (i := 18) (oi := { dst := some 60, op := _, type := _, pos := _, after := _, guard := _ }) (v := ?v2_18) rfl (by kernel_rfl) (by kernel_rfl) (by kernel_rfl) (fun _ _ _ h => h) (Or.inl ⟨by rfl, ?hy2_18⟩) hHeld ?_
  case hy2_18 => (intro w hSw; (try dsimp only at hSw); go_simp; try with_reducible rfl)
  simp only [Act.put, List.setIfInBounds_toArray, List.set_cons_zero, List.set_cons_succ]
  refine wpAnyH_take (i := 19) (oi := { dst := some 61, op := _, type := _, pos := _, after := _, guard := _ }) (v := ?v2_19) rfl (by kernel_rfl) (by kernel_rfl) (by kernel_rfl) (fun _ _ _ h => h) (Or.inl ⟨by rfl, ?hy2_19⟩) hHeld ?_
  case hy2_19 => (intro w hSw; (try dsimp only at hSw); go_simp; try with_reducible rfl)
  simp only [Act.put, List.setIfInBounds_toArray, List.set_cons_zero, List.set_cons_succ]
  refine wpAnyH_take (i := 20) (oi := { dst := some 62, op := _, type := _, pos := _, after := _, guard := _ }) (v := ?v2_20) rfl (by kernel_rfl) (by kernel_rfl) (by kernel_rfl) (fun _ _ _ h => h) (Or.inl ⟨by rfl, ?hy2_20⟩) hHeld ?_
  case hy2_20 => (intro w hSw; (try dsimp only at hSw); go_simp; try with_reducible rfl)
  simp only [Act.put, List.setIfInBounds_toArray, List.set_cons_zero, List.set_cons_succ]
  refine wpAnyH_take (i := 21) (oi := { dst := some 63, op := _, type := _, pos := _, after := _, guard := _ }) (v := ?v2_21) rfl (by kernel_rfl) (by kernel_rfl) (by kernel_rfl) (fun _ _ _ h => h) (Or.inl ⟨by rfl, ?hy2_21⟩) hHeld ?_
  case hy2_21 => (intro w hSw; (try dsimp only at hSw); go_simp; try with_reducible rfl)
  simp only [Act.put, List.setIfInBounds_toArray, List.set_cons_zero, List.set_cons_succ]
  refine wpAnyH_take (i := 22) (oi := { dst := some 64, op := _, type := _, pos := _, after := _, guard := _ }) (v := ?v2_22) rfl (by kernel_rfl) (by kernel_rfl) (by kernel_rfl) (fun _ _ _ h => h) (Or.inl ⟨by rfl, ?hy2_22⟩) hHeld ?_
  case hy2_22 => (intro w hSw; (try dsimp only at hSw); go_simp; try with_reducible rfl)
  simp only [Act.put, List.setIfInBounds_toArray, List.set_cons_zero, List.set_cons_succ]
  refine wpAnyH_take (i := 23) (oi := { dst := some 65, op := _, type := _, pos := _, after := _, guard := _ }) (v := ?v2_23) rfl (by kernel_rfl) (by kernel_rfl) (by kernel_rfl) (fun _ _ _ h => h) (Or.inl ⟨by rfl, ?hy2_23⟩) hHeld ?_
  case hy2_23 => (intro w hSw; (try dsimp only at hSw); go_simp; try with_reducible rfl)
  simp only [Act.put, List.setIfInBounds_toArray, List.set_cons_zero, List.set_cons_succ]
  refine wpAnyH_take (i := 24) (oi := { dst := some 66, op := _, type := _, pos := _, after := _, guard := _ }) (v := ?v2_24) rfl (by kernel_rfl) (by kernel_rfl) (by kernel_rfl) (fun _ _ _ h => h) (Or.inl ⟨by rfl, ?hy2_24⟩) hHeld ?_
  case hy2_24 => (intro w hSw; (try dsimp only at hSw); go_simp; try with_reducible rfl)
  simp only [Act.put, List.setIfInBounds_toArray, List.set_cons_zero, List.set_cons_succ]
  refine wpAnyH_take (i := 25) (oi := { dst := some 67, op := _, type := _, pos := _, after := _, guard := _ }) (v := ?v2_25) rfl (by kernel_rfl) (by kernel_rfl) (by kernel_rfl) (fun _ _ _ h => h) (Or.inl ⟨by rfl, ?hy2_25⟩) hHeld ?_
  case hy2_25 => (intro w hSw; (try dsimp only at hSw); go_simp; try with_reducible rfl)
  simp only [Act.put, List.setIfInBounds_toArray, List.set_cons_zero, List.set_cons_succ]
  refine wpAnyH_take (i := 26) (oi := { dst := some 68, op := _, type := _, pos := _, after := _, guard := _ }) (v := ?v2_26) rfl (by kernel_rfl) (by kernel_rfl) (by kernel_rfl) (fun _ _ _ h => h) (Or.inl ⟨by rfl, ?hy2_26⟩) hHeld ?_
  case hy2_26 => (intro w hSw; (try dsimp only at hSw); go_simp; try with_reducible rfl)
  simp only [Act.put, List.setIfInBounds_toArray, List.set_cons_zero, List.set_cons_succ]
  refine wpAnyH_take (i := 27) (oi := { dst := some 69, op := _, type := _, pos := _, after := _, guard := _ }) (v := ?v2_27) rfl (by kernel_rfl) (by kernel_rfl) (by kernel_rfl) (fun _ _ _ h => h) (Or.inl ⟨by rfl, ?hy2_27⟩) hHeld ?_
  case hy2_27 => (intro w hSw; (try dsimp only at hSw); go_simp; try with_reducible rfl)
  simp only [Act.put, List.setIfInBounds_toArray, List.set_cons_zero, List.set_cons_succ]
  refine wpAnyH_take (i := 28) (oi := { dst := some 70, op := _, type := _, pos := _, after := _, guard := _ }) (v := ?v2_28) rfl (by kernel_rfl) (by kernel_rfl) (by kernel_rfl) (fun _ _ _ h => h) (Or.inl ⟨by rfl, ?hy2_28⟩) hHeld ?_
  case hy2_28 => (intro w hSw; (try dsimp only at hSw); go_simp; try with_reducible rfl)
  simp only [Act.put, List.setIfInBounds_toArray, List.set_cons_zero, List.set_cons_succ]
  refine wpAnyH_take (i := 29) (oi := { dst := some 71, op := _, type := _, pos := _, after := _, guard := _ }) (v := ?v2_29) rfl (by kernel_rfl) (by kernel_rfl) (by kernel_rfl) (fun _ _ _ h => h) (Or.inl ⟨by rfl, ?hy2_29⟩) hHeld ?_
  case hy2_29 => (intro w hSw; (try dsimp only at hSw); go_simp; try with_reducible rfl)
  simp only [Act.put, List.setIfInBounds_toArray, List.set_cons_zero, List.set_cons_succ]
  refine wpAnyH_take (i := 30) (oi := { dst := some 72, op := _, type := _, pos := _, after := _, guard := _ }) (v := ?v2_30) rfl (by kernel_rfl) (by kernel_rfl) (by kernel_rfl) (fun _ _ _ h => h) (Or.inl ⟨by rfl, ?hy2_30⟩) hHeld ?_
  case hy2_30 => (intro w hSw; (try dsimp only at hSw); go_simp; try with_reducible rfl)
  simp only [Act.put, List.setIfInBounds_toArray, List.set_cons_zero, List.set_cons_succ]
  refine wpAnyH_take (i := 31) (oi := { dst := some 73, op := _, type := _, pos := _, after := _, guard := _ }) (v := ?v2_31) rfl (by kernel_rfl) (by kernel_rfl) (by kernel_rfl) (fun _ _ _ h => h) (Or.inl ⟨by rfl, ?hy2_31⟩) hHeld ?_
  case hy2_31 => (intro w hSw; (try dsimp only at hSw); go_simp; try with_reducible rfl)
  simp only [Act.put, List.setIfInBounds_toArray, List.set_cons_zero, List.set_cons_succ]
  refine wpAnyH_take (i := 33) (oi := { dst := some 75, op := _, type := _, pos := _, after := _, guard := _ }) (v := ?v2_33) rfl (by kernel_rfl) (by kernel_rfl) (by kernel_rfl) (fun _ _ _ h => h) (Or.inl ⟨by rfl, ?hy2_33⟩) hHeld ?_
  case hy2_33 => (intro w hSw; (try dsimp only at hSw); go_simp; try with_reducible rfl)
  simp only [Act.put, List.setIfInBounds_toArray, List.set_cons_zero, List.set_cons_succ]
  refine wpAnyH_ready (rs := [32]) (by kernel_rfl) (by simp) ?_
  refine AllReadyH.cons (o := { dst := some 74, op := _, type := _, pos := _, after := _, guard := _ }) rfl (fun K hK => ?_) AllReadyH.nil
  go_simp
  go_at_call 13
  refine (HB.out _ ([] : List Cd) _ (by simp) (V77.out.on hs4.2.2.2.2.2.2.2.2.2.2.2.2.2.2.2.2.2.2.2.2.2.2.2.2)).mono ?_
  rintro ee5 t5 ⟨v74, rfl, hv74, hb74⟩
  have hs5 : t5.cell? ⟨g, q, none⟩ = some (.int .i64 a1) ∧ t5.cell? ⟨g, q + 1, none⟩ = some (.int .i64 a2) ∧ t5.cell? ⟨g, q + 2, none⟩ = some (.int .i64 a3) ∧ t5.cell? ⟨g, q + 3, none⟩ = some (.string a4) ∧ t5.cell? ⟨g, q + 4, none⟩ = some (.int .i64 b1) ∧ t5.cell? ⟨g, q + 5, none⟩ = some (.int .i64 b2) ∧ t5.cell? ⟨g, q + 6, none⟩ = some (.int .i64 b3) ∧ t5.cell? ⟨g, q + 7, none⟩ = some (.string b4) ∧ t5.cell? ⟨W.heap.size, 0, none⟩ = some (.int .i64 a1) ∧ t5.cell? ⟨W.heap.size, 1, none⟩ = some (.int .i64 a2) ∧ t5.cell? ⟨W.heap.size, 2, none⟩ = some (.int .i64 a3) ∧ t5.cell? ⟨W.heap.size, 3, none⟩ = some (.string a4) ∧ t5.cell? ⟨W.heap.size + 1, 0, none⟩ = some (.int .i64 b1) ∧ t5.cell? ⟨W.heap.size + 1, 1, none⟩ = some (.int .i64 b2) ∧ t5.cell? ⟨W.heap.size + 1, 2, none⟩ = some (.int .i64 b3) ∧ t5.cell? ⟨W.heap.size + 1, 3, none⟩ = some (.string b4) ∧ t5.cell? ⟨w4.heap.size, 0, none⟩ = some (.int .i64 0) ∧ t5.cell? ⟨w4.heap.size, 1, none⟩ = some (.int .i64 0) ∧ t5.cell? ⟨w4.heap.size, 2, none⟩ = some (.int .i64 0) ∧ t5.cell? ⟨w4.heap.size, 3, none⟩ = some (.string ⟨#[]⟩) ∧ t5.cell? ⟨w4.heap.size + 1, 0, none⟩ = some (.int .i64 0) ∧ t5.cell? ⟨w4.heap.size + 1, 1, none⟩ = some (.int .i64 0) ∧ t5.cell? ⟨w4.heap.size + 1, 2, none⟩ = some (.int .i64 0) ∧ t5.cell? ⟨w4.heap.size + 1, 3, none⟩ = some (.string ⟨#[]⟩) ∧ Below w6.heap.size w6 t5 := ⟨cell_below hs4.1 hb74, cell_below hs4.2.1 hb74, cell_below hs4.2.2.1 hb74, cell_below hs4.2.2.2.1 hb74, cell_below hs4.2.2.2.2.1 hb74, cell_below hs4.2.2.2.2.2.1 hb74, cell_below hs4.2.2.2.2.2.2.1 hb74, cell_below hs4.2.2.2.2.2.2.2.1 hb74, cell_below hs4.2.2.2.2.2.2.2.2.1 hb74, cell_below hs4.2.2.2.2.2.2.2.2.2.1 hb74, cell_below hs4.2.2.2.2.2.2.2.2.2.2.1 hb74, cell_below hs4.2.2.2.2.2.2.2.2.2.2.2.1 hb74, cell_below hs4.2.2.2.2.2.2.2.2.2.2.2.2.1 hb74, cell_below hs4.2.2.2.2.2.2.2.2.2.2.2.2.2.1 hb74, cell_below hs4.2.2.2.2.2.2.2.2.2.2.2.2.2.2.1 hb74, cell_below hs4.2.2.2.2.2.2.2.2.2.2.2.2.2.2.2.1 hb74, cell_below hs4.2.2.2.2.2.2.2.2.2.2.2.2.2.2.2.2.1 hb74, cell_below hs4.2.2.2.2.2.2.2.2.2.2.2.2.2.2.2.2.2.1 hb74, cell_below hs4.2.2.2.2.2.2.2.2.2.2.2.2.2.2.2.2.2.2.1 hb74, cell_below hs4.2.2.2.2.2.2.2.2.2.2.2.2.2.2.2.2.2.2.2.1 hb74, cell_below hs4.2.2.2.2.2.2.2.2.2.2.2.2.2.2.2.2.2.2.2.2.1 hb74, cell_below hs4.2.2.2.2.2.2.2.2.2.2.2.2.2.2.2.2.2.2.2.2.2.1 hb74, cell_below hs4.2.2.2.2.2.2.2.2.2.2.2.2.2.2.2.2.2.2.2.2.2.2.1 hb74, cell_below hs4.2.2.2.2.2.2.2.2.2.2.2.2.2.2.2.2.2.2.2.2.2.2.2.1 hb74, below_on hs4.2.2.2.2.2.2.2.2.2.2.2.2.2.2.2.2.2.2.2.2.2.2.2.2 hb74⟩
  refine hK.out _ _ hs5 (fun hHeld => ?_)
  clear hK K
  refine wpAnyH_ready (rs := [34]) (by kernel_rfl) (by simp) ?_
  refine AllReadyH.cons (o := { dst := some 76, op := _, type := _, pos := _, after := _, guard := _ }) rfl (fun K hK => ?_) AllReadyH.nil
  go_simp
  go_at_call 12
  refine (HE.out _ _ ([] : List Cd) _ (by simp) hv74.cs (H7.out.on hs5.2.2.2.2.2.2.2.2.2.2.2.2.2.2.2.2.2.2.2.2.2.2.2.2)).mono ?_
  rintro ee6 t6 ⟨rfl, hb75⟩
  have hs6 : t6.cell? ⟨g, q, none⟩ = some (.int .i64 a1) ∧ t6.cell? ⟨g, q + 1, none⟩ = some (.int .i64 a2) ∧ t6.cell? ⟨g, q + 2, none⟩ = some (.int .i64 a3) ∧ t6.cell? ⟨g, q + 3, none⟩ = some (.string a4) ∧ t6.cell? ⟨g, q + 4, none⟩ = some (.int .i64 b1) ∧ t6.cell? ⟨g, q + 5, none⟩ = some (.int .i64 b2) ∧ t6.cell? ⟨g, q + 6, none⟩ = some (.int .i64 b3) ∧ t6.cell? ⟨g, q + 7, none⟩ = some (.string b4) ∧ t6.cell? ⟨W.heap.size, 0, none⟩ = some (.int .i64 a1) ∧ t6.cell? ⟨W.heap.size, 1, none⟩ = some (.int .i64 a2) ∧ t6.cell? ⟨W.heap.size, 2, none⟩ = some (.int .i64 a3) ∧ t6.cell? ⟨W.heap.size, 3, none⟩ = some (.string a4) ∧ t6.cell? ⟨W.heap.size + 1, 0, none⟩ = some (.int .i64 b1) ∧ t6.cell? ⟨W.heap.size + 1, 1, none⟩ = some (.int .i64 b2) ∧ t6.cell? ⟨W.heap.size + 1, 2, none⟩ = some (.int .i64 b3) ∧ t6.cell? ⟨W.heap.size + 1, 3, none⟩ = some (.string b4) ∧ t6.cell? ⟨w4.heap.size, 0, none⟩ = some (.int .i64 0) ∧ t6.cell? ⟨w4.heap.size, 1, none⟩ = some (.int .i64 0) ∧ t6.cell? ⟨w4.heap.size, 2, none⟩ = some (.int .i64 0) ∧ t6.cell? ⟨w4.heap.size, 3, none⟩ = some (.string ⟨#[]⟩) ∧ t6.cell? ⟨w4.heap.size + 1, 0, none⟩ = some (.int .i64 0) ∧ t6.cell? ⟨w4.heap.size + 1, 1, none⟩ = some (.int .i64 0) ∧ t6.cell? ⟨w4.heap.size + 1, 2, none⟩ = some (.int .i64 0) ∧ t6.cell? ⟨w4.heap.size + 1, 3, none⟩ = some (.string ⟨#[]⟩) ∧ Below w6.heap.size w6 t6 := ⟨cell_below hs5.1 hb75, cell_below hs5.2.1 hb75, cell_below hs5.2.2.1 hb75, cell_below hs5.2.2.2.1 hb75, cell_below hs5.2.2.2.2.1 hb75, cell_below hs5.2.2.2.2.2.1 hb75, cell_below hs5.2.2.2.2.2.2.1 hb75, cell_below hs5.2.2.2.2.2.2.2.1 hb75, cell_below hs5.2.2.2.2.2.2.2.2.1 hb75, cell_below hs5.2.2.2.2.2.2.2.2.2.1 hb75, cell_below hs5.2.2.2.2.2.2.2.2.2.2.1 hb75, cell_below hs5.2.2.2.2.2.2.2.2.2.2.2.1 hb75, cell_below hs5.2.2.2.2.2.2.2.2.2.2.2.2.1 hb75, cell_below hs5.2.2.2.2.2.2.2.2.2.2.2.2.2.1 hb75, cell_below hs5.2.2.2.2.2.2.2.2.2.2.2.2.2.2.1 hb75, cell_below hs5.2.2.2.2.2.2.2.2.2.2.2.2.2.2.2.1 hb75, cell_below hs5.2.2.2.2.2.2.2.2.2.2.2.2.2.2.2.2.1 hb75, cell_below hs5.2.2.2.2.2.2.2.2.2.2.2.2.2.2.2.2.2.1 hb75, cell_below hs5.2.2.2.2.2.2.2.2.2.2.2.2.2.2.2.2.2.2.1 hb75, cell_below hs5.2.2.2.2.2.2.2.2.2.2.2.2.2.2.2.2.2.2.2.1 hb75, cell_below hs5.2.2.2.2.2.2.2.2.2.2.2.2.2.2.2.2.2.2.2.2.1 hb75, cell_below hs5.2.2.2.2.2.2.2.2.2.2.2.2.2.2.2.2.2.2.2.2.2.1 hb75, cell_below hs5.2.2.2.2.2.2.2.2.2.2.2.2.2.2.2.2.2.2.2.2.2.2.1 hb75, cell_below hs5.2.2.2.2.2.2.2.2.2.2.2.2.2.2.2.2.2.2.2.2.2.2.2.1 hb75, below_on hs5.2.2.2.2.2.2.2.2.2.2.2.2.2.2.2.2.2.2.2.2.2.2.2.2 hb75⟩
  refine hK.out _ _ hs6 (fun hHeld => ?_)
  clear hK K
  refine wpAnyH_take (i := 35) (oi := { dst := some 77, op := _, type := _, pos := _, after := _, guard := _ }) (v := ?v2_35) rfl (by kernel_rfl) (by kernel_rfl) (by kernel_rfl) (fun _ _ _ h => h) (Or.inl ⟨by rfl, ?hy2_35⟩) hHeld ?_
  case hy2_35 => (intro w hSw; (try dsimp only at hSw); go_simp; try with_reducible rfl)
  simp only [Act.put, List.setIfInBounds_toArray, List.set_cons_zero, List.set_cons_succ]
  refine wpAnyH_take (i := 36) (oi := { dst := some 6, op := _, type := _, pos := _, after := _, guard := _ }) (v := ?v2_36) rfl (by kernel_rfl) (by kernel_rfl) (by kernel_rfl) (fun _ _ _ h => h) (Or.inl ⟨by rfl, ?hy2_36⟩) hHeld ?_
  case hy2_36 => (intro w hSw; (try dsimp only at hSw); go_simp; try with_reducible rfl)
  simp only [Act.put, List.setIfInBounds_toArray, List.set_cons_zero, List.set_cons_succ]
  refine wpAnyH_done (by kernel_rfl) ?_ _
  go_wp2_with fail
  go_ret
  exact ⟨rfl, below_on B7.out hs6.2.2.2.2.2.2.2.2.2.2.2.2.2.2.2.2.2.2.2.2.2.2.2.2⟩
theorem l20matches (M : PP) (v : Value) (l : List Cd) (a b : Cd) (W : World) (h : CsAt W v l) : Calls Try.prog 3 #[v, cdv a, cdv b] W fun e w' => e = .returned (.bool true) ∧ Below W.heap.size W w' := by
  by_cases g : 60 < l.length
  · exact l20m_far M v l a b W h g
  · have HX := fun u => M.pr a b u
    have HY := fun u => r20pr_any a b u
    obtain ⟨a1, a2, a3, a4⟩ := a
    obtain ⟨b1, b2, b3, b4⟩ := b
    by_cases z : l.length = 0
    · obtain rfl : l = [] := List.eq_nil_of_length_eq_zero z
      exact l20m_nil M v a1 a2 a3 b1 b2 b3 a4 b4 W h _ HX HY
    · exact l20m_ok M v l a1 a2 a3 b1 b2 b3 (hdR l).k (hdR l).i (hdR l).r a4 b4 (hdR l).id W h (by omega) (by omega) rfl _ HX HY
end Go.Proofs.Ytomoaolomddidaa
