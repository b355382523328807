/- Same of stage 19's reference, of equal lists; what package precedence's functions must answer (PP); the law's examples (awake). -/
import Derived.Test.YtomoaolomddidaaBi
import Derived.Deep.RegionHeld3
namespace Go.Proofs.Ytomoaolomddidaa
open Go.RowKit

theorem neq_cdr (c : Cd) (u : World) : (binOp .neq 24 (cdv c) (cdv c)).run Try.prog u = .ok (.bool false) u := by simp [go_sem]
set_option maxHeartbeats 1000000 in
set_option maxRecDepth 100000 in
theorem r19same_eq (v v' : Value) (l : List Cd) (W : World) (hl : l.length ≤ 1000) (h : CsAt W v l) (h' : CsAt W v' l) : Calls Try.prog 12 #[v, v'] W fun e w' => e = .returned (.bool true) ∧ Below W.heap.size W w' := by
  obtain ⟨A, cap, rfl, h1, h2, h3⟩ := h
  obtain ⟨A', cap', rfl, h1', h2', h3'⟩ := h'
  have Q := Lib.hid h3
  have Q' := Lib.hid h3'
  have hE := neq_cdr
  clear h3 h3'
  go_enter Try.func12, Try.ntmps12
  go_wp2_with fail
  go_loopw [5] (fun i wr => ∃ k : Nat, k ≤ l.length ∧ i = .int .i64 k ∧ Below W.heap.size W wr) (fun i _ => l.length - (intOf i).toNat)
  case atStart => exact ⟨0, Nat.zero_le _, rfl, Below.refl _ _⟩
  case round =>
    obtain ⟨k, hk, rfl, hb⟩ := hrel
    have HB := Lib.hid hb
    clear hb
    by_cases hlt : k < l.length
    · obtain ⟨c, hc⟩ : ∃ c, l[k]? = some c := ⟨_, List.getElem?_eq_getElem hlt⟩
      obtain ⟨b, p, hA, hit⟩ := Q.out k c hc
      obtain ⟨b', p', hA', hit'⟩ := Q'.out k c hc
      subst hA hA'
      have C1 := hit.on HB.out
      have C2 := hit'.on HB.out
      have hE1 := hE c
      clear hit hit' hc hE
      obtain ⟨c1, c2, c3, c4⟩ := c
      obtain ⟨q0, q1, q2, q3⟩ := C1
      obtain ⟨r0, r1, r2, r3⟩ := C2
      go_wp2_with fail
      go_quiet (fail)
      go_wp2_with fail
      go_roundw
      case rel => exact ⟨k + 1, by omega, by go_num, below_dn HB.out _⟩
      case measure => simp [intOf]; omega
    · obtain rfl : k = l.length := by omega
      go_wp2_with fail
      go_ret
      exact ⟨rfl, HB.out⟩
/-- The first of a list that no other one precedes. -/
def hdR (l : List Cd) : Cd := (srtR l).headD zcd
/-- A slice of candidates, handed back. -/
def RetC (W : World) (l : List Cd) (e : Ending) (w' : World) : Prop := ∃ v, e = .returned v ∧ CsAt w' v l ∧ Below W.heap.size W w'
/-- What package precedence's functions must answer. -/
structure PP : Prop where
  pr : ∀ (a b : Cd) (u : World), Calls Try.prog 10 #[cdv a, cdv b] u fun e w' => e = .returned (.bool (prc a b)) ∧ Below u.heap.size u w'
  so : ∀ (v : Value) (l : List Cd) (u : World), l.length ≤ 60 → CsAt u v l → Calls Try.prog 14 #[v] u (RetC u (srtR l))
  fi : ∀ (v : Value) (l : List Cd) (u : World), l.length ≤ 60 → CsAt u v l → Calls Try.prog 9 #[v] u fun e w' => e = .returned (.tuple #[cdv (hdR l), .bool (!l.isEmpty)]) ∧ Below u.heap.size u w'
/-- A literal of three. -/
theorem cs_three {w : World} {b t : Nat} {x y z : Cd} (h : w.heap[b]? = some (.cells #[.int .i64 x.k, .int .i64 x.i, .int .i64 x.r, .string x.id, .int .i64 y.k, .int .i64 y.i, .int .i64 y.r, .string y.id, .int .i64 z.k, .int .i64 z.i, .int .i64 z.r, .string z.id] t (0, 0))) :
    CsAt w (.slice (some ⟨b, 0, none⟩) 3 3) [x, y, z] := by
  have c := fun j => cell_of_row w b j _ _ _ h
  refine ⟨_, 3, rfl, Nat.le_refl _, by unfold maxLen; omega, fun i d hd => ⟨b, 0, rfl, ?_⟩⟩
  match i, hd with
  | 0, hd => obtain rfl : x = d := by simpa using hd
             exact ⟨(c 0).trans rfl, (c 1).trans rfl, (c 2).trans rfl, (c 3).trans rfl⟩
  | 1, hd => obtain rfl : y = d := by simpa using hd
             exact ⟨(c 4).trans rfl, (c 5).trans rfl, (c 6).trans rfl, (c 7).trans rfl⟩
  | 2, hd => obtain rfl : z = d := by simpa using hd
             exact ⟨(c 8).trans rfl, (c 9).trans rfl, (c 10).trans rfl, (c 11).trans rfl⟩
  | n + 3, hd => simp at hd
theorem cs_nil (w : World) : CsAt w (.slice none 0 0) [] := ⟨none, 0, rfl, Nat.le_refl _, Nat.zero_le _, fun i c hc => by simp at hc⟩
theorem rw_new2 (w : World) (a b c : Obj) : (((w.alloc a).alloc b).alloc c).heap[w.heap.size + 1 + 1]? = some c := by
  have h := heap_alloc_new ((w.alloc a).alloc b) c
  rwa [show ((w.alloc a).alloc b).heap.size = w.heap.size + 1 + 1 from by simp] at h
theorem rw_new3 (w : World) (a b c d : Obj) : ((((w.alloc a).alloc b).alloc c).alloc d).heap[w.heap.size + 1 + 1 + 1]? = some d := by
  have h := heap_alloc_new (((w.alloc a).alloc b).alloc c) d
  rwa [show (((w.alloc a).alloc b).alloc c).heap.size = w.heap.size + 1 + 1 + 1 from by simp] at h
theorem eq_cd (c : Cd) (u : World) : (binOp .eql 29 (cdv c) (cdv c)).run Try.prog u = .ok (.bool true) u := by simp [go_sem]
/-- A row of four cells. -/
theorem cd_row {w : World} {b t : Nat} {x : Cd} (h : w.heap[b]? = some (.cells #[.int .i64 x.k, .int .i64 x.i, .int .i64 x.r, .string x.id] t (0, 0))) : CdAt w b 0 x := by
  have c := fun j => cell_of_row w b j _ _ _ h
  exact ⟨(c 0).trans rfl, (c 1).trans rfl, (c 2).trans rfl, (c 3).trans rfl⟩
set_option maxHeartbeats 4000000 in
set_option maxRecDepth 100000 in
theorem c20awake_any (M : PP) (W : World) : Calls Try.prog 6 #[] W fun e w' => e = .returned (.bool true) ∧ Below W.heap.size W w' := by
  have HS := Lib.hid (fun v u (h : CsAt u v [(⟨2, 0, 4, ⟨#[]⟩⟩ : Cd), (⟨1, 0, 4, ⟨#[]⟩⟩ : Cd), (⟨2, 7, 3, ⟨#[]⟩⟩ : Cd)]) => (show Calls Try.prog 14 #[v] u (RetC u [(⟨2, 7, 3, ⟨#[]⟩⟩ : Cd), (⟨1, 0, 4, ⟨#[]⟩⟩ : Cd), (⟨2, 0, 4, ⟨#[]⟩⟩ : Cd)]) from M.so v _ u (by simp) h))
  have HF := Lib.hid (fun v u (h : CsAt u v [(⟨2, 0, 4, ⟨#[]⟩⟩ : Cd), (⟨1, 0, 4, ⟨#[]⟩⟩ : Cd), (⟨2, 7, 3, ⟨#[]⟩⟩ : Cd)]) => (show Calls Try.prog 9 #[v] u (fun e w' => e = .returned (.tuple #[cdv (⟨2, 7, 3, ⟨#[]⟩⟩ : Cd), .bool true]) ∧ Below u.heap.size u w') from M.fi v _ u (by simp) h))
  have HG := Lib.hid (fun v u (h : CsAt u v []) => (show Calls Try.prog 9 #[v] u (fun e w' => e = .returned (.tuple #[cdv zcd, .bool false]) ∧ Below u.heap.size u w') from M.fi v _ u (by simp) h))
  have HP0 := Lib.hid (fun u => (show Calls Try.prog 10 #[cdv (⟨1, 0, 4, ⟨#[]⟩⟩ : Cd), cdv (⟨2, 0, 4, ⟨#[]⟩⟩ : Cd)] u (fun e w' => e = .returned (.bool true) ∧ Below u.heap.size u w') from M.pr _ _ u))
  have HP1 := Lib.hid (fun u => (show Calls Try.prog 10 #[cdv (⟨2, 7, 3, ⟨#[]⟩⟩ : Cd), cdv (⟨1, 0, 4, ⟨#[]⟩⟩ : Cd)] u (fun e w' => e = .returned (.bool true) ∧ Below u.heap.size u w') from M.pr _ _ u))
  have HP2 := Lib.hid (fun u => (show Calls Try.prog 10 #[cdv (⟨1, 0, 4, ⟨#[]⟩⟩ : Cd), cdv (⟨1, 0, 4, ⟨#[]⟩⟩ : Cd)] u (fun e w' => e = .returned (.bool false) ∧ Below u.heap.size u w') from M.pr _ _ u))
  have Ea := eq_cd (⟨1, 0, 4, ⟨#[]⟩⟩ : Cd)
  have Eb := eq_cd (⟨2, 0, 4, ⟨#[]⟩⟩ : Cd)
  have Ec := eq_cd (⟨2, 7, 3, ⟨#[]⟩⟩ : Cd)
  clear M
  go_enter Try.func6, Try.ntmps6
  go_wp2_with fail
  have RA := Lib.hid (row_al (row_al (row_al (heap_alloc_new W (Obj.cells #[.int .i64 1, .int .i64 0, .int .i64 4, .string ⟨#[]⟩] 29)) (Obj.cells #[.int .i64 2, .int .i64 0, .int .i64 4, .string ⟨#[]⟩] 29)) (Obj.cells #[.int .i64 2, .int .i64 7, .int .i64 3, .string ⟨#[]⟩] 29)) (Obj.cells #[.int .i64 2, .int .i64 0, .int .i64 4, .string ⟨#[]⟩, .int .i64 1, .int .i64 0, .int .i64 4, .string ⟨#[]⟩, .int .i64 2, .int .i64 7, .int .i64 3, .string ⟨#[]⟩] 29))
  have RB := Lib.hid (row_al (row_al (row_new1 W (Obj.cells #[.int .i64 1, .int .i64 0, .int .i64 4, .string ⟨#[]⟩] 29) (Obj.cells #[.int .i64 2, .int .i64 0, .int .i64 4, .string ⟨#[]⟩] 29)) (Obj.cells #[.int .i64 2, .int .i64 7, .int .i64 3, .string ⟨#[]⟩] 29)) (Obj.cells #[.int .i64 2, .int .i64 0, .int .i64 4, .string ⟨#[]⟩, .int .i64 1, .int .i64 0, .int .i64 4, .string ⟨#[]⟩, .int .i64 2, .int .i64 7, .int .i64 3, .string ⟨#[]⟩] 29))
  have RC := Lib.hid (row_al (rw_new2 W (Obj.cells #[.int .i64 1, .int .i64 0, .int .i64 4, .string ⟨#[]⟩] 29) (Obj.cells #[.int .i64 2, .int .i64 0, .int .i64 4, .string ⟨#[]⟩] 29) (Obj.cells #[.int .i64 2, .int .i64 7, .int .i64 3, .string ⟨#[]⟩] 29)) (Obj.cells #[.int .i64 2, .int .i64 0, .int .i64 4, .string ⟨#[]⟩, .int .i64 1, .int .i64 0, .int .i64 4, .string ⟨#[]⟩, .int .i64 2, .int .i64 7, .int .i64 3, .string ⟨#[]⟩] 29))
  have RL := Lib.hid (rw_new3 W (Obj.cells #[.int .i64 1, .int .i64 0, .int .i64 4, .string ⟨#[]⟩] 29) (Obj.cells #[.int .i64 2, .int .i64 0, .int .i64 4, .string ⟨#[]⟩] 29) (Obj.cells #[.int .i64 2, .int .i64 7, .int .i64 3, .string ⟨#[]⟩] 29) (Obj.cells #[.int .i64 2, .int .i64 0, .int .i64 4, .string ⟨#[]⟩, .int .i64 1, .int .i64 0, .int .i64 4, .string ⟨#[]⟩, .int .i64 2, .int .i64 7, .int .i64 3, .string ⟨#[]⟩] 29))
  have B0 : Hid (Below W.heap.size W ((((W.alloc (Obj.cells #[.int .i64 1, .int .i64 0, .int .i64 4, .string ⟨#[]⟩] 29)).alloc (Obj.cells #[.int .i64 2, .int .i64 0, .int .i64 4, .string ⟨#[]⟩] 29)).alloc (Obj.cells #[.int .i64 2, .int .i64 7, .int .i64 3, .string ⟨#[]⟩] 29)).alloc (Obj.cells #[.int .i64 2, .int .i64 0, .int .i64 4, .string ⟨#[]⟩, .int .i64 1, .int .i64 0, .int .i64 4, .string ⟨#[]⟩, .int .i64 2, .int .i64 7, .int .i64 3, .string ⟨#[]⟩] 29))) := Lib.hid (((((Below.refl _ _).alloc (Nat.le_refl _) _).alloc (by simp) _).alloc (by simp; omega) _).alloc (by simp; omega) _)
  refine (HS.out _ _ (cs_three (x := (⟨2, 0, 4, ⟨#[]⟩⟩ : Cd)) (y := (⟨1, 0, 4, ⟨#[]⟩⟩ : Cd)) (z := (⟨2, 7, 3, ⟨#[]⟩⟩ : Cd)) RL.out)).mono ?_
  rintro e w1 ⟨v, rfl, hv, hb1⟩
  have HV1 := Lib.hid hv
  have B1 := Lib.hid (below_on B0.out hb1)
  have RA1 := Lib.hid (row_on RA.out hb1)
  have RB1 := Lib.hid (row_on RB.out hb1)
  have RC1 := Lib.hid (row_on RC.out hb1)
  have hz1 : Hid (W.heap.size ≤ w1.heap.size) := Lib.hid B1.out.size
  clear hb1 RA RB RC RL B0 hv
  obtain ⟨qa0, qa1, qa2, qa3⟩ := cd_row (x := (⟨1, 0, 4, ⟨#[]⟩⟩ : Cd)) RA1.out
  obtain ⟨qb0, qb1, qb2, qb3⟩ := cd_row (x := (⟨2, 0, 4, ⟨#[]⟩⟩ : Cd)) RB1.out
  obtain ⟨qc0, qc1, qc2, qc3⟩ := cd_row (x := (⟨2, 7, 3, ⟨#[]⟩⟩ : Cd)) RC1.out
  go_wp2_with fail
  have RL := Lib.hid (heap_alloc_new w1 (Obj.cells #[.int .i64 2, .int .i64 0, .int .i64 4, .string ⟨#[]⟩, .int .i64 1, .int .i64 0, .int .i64 4, .string ⟨#[]⟩, .int .i64 2, .int .i64 7, .int .i64 3, .string ⟨#[]⟩] 29))
  refine (HF.out _ _ (cs_three (x := (⟨2, 0, 4, ⟨#[]⟩⟩ : Cd)) (y := (⟨1, 0, 4, ⟨#[]⟩⟩ : Cd)) (z := (⟨2, 7, 3, ⟨#[]⟩⟩ : Cd)) RL.out)).mono ?_
  rintro e w2 ⟨rfl, hb2⟩
  have B2 := Lib.hid (below_on (B1.out.alloc hz1.out _) hb2)
  have RA2 := Lib.hid (row_on (row_al RA1.out _) hb2)
  have RB2 := Lib.hid (row_on (row_al RB1.out _) hb2)
  have RC2 := Lib.hid (row_on (row_al RC1.out _) hb2)
  have HV2 := Lib.hid ((HV1.out.on ((Below.refl _ _).alloc (Nat.le_refl _) _)).on hb2)
  clear hb2 RL RA1 RB1 RC1 HV1 B1 qa0 qa1 qa2 qa3 qb0 qb1 qb2 qb3 qc0 qc1 qc2 qc3
  go_wp2_with fail
  refine (HG.out _ _ (cs_nil _)).mono ?_
  rintro e w3 ⟨rfl, hb3⟩
  have RA3 := Lib.hid (row_on (row_al RA2.out _) hb3)
  have RB3 := Lib.hid (row_on (row_al RB2.out _) hb3)
  have RC3 := Lib.hid (row_on (row_al RC2.out _) hb3)
  have RX3 := Lib.hid (row_on (heap_alloc_new w2 (Obj.cells #[.int .i64 2, .int .i64 7, .int .i64 3, .string ⟨#[]⟩] 29)) hb3)
  have B3 := Lib.hid (below_on (B2.out.alloc B2.out.size _) hb3)
  obtain ⟨A, cap, hA, hc1, hc2, hit⟩ := (HV2.out.on ((Below.refl _ _).alloc (Nat.le_refl _) _)).on hb3
  obtain ⟨g, q, rfl, i0⟩ := hit 0 _ rfl
  obtain ⟨g1, q1, e1, i1⟩ := hit 1 _ rfl
  obtain ⟨g2, q2, e2, i2⟩ := hit 2 _ rfl
  obtain ⟨rfl, rfl⟩ : g = g1 ∧ q = q1 := by cases e1; exact ⟨rfl, rfl⟩
  obtain ⟨rfl, rfl⟩ : g = g2 ∧ q = q2 := by cases e2; exact ⟨rfl, rfl⟩
  subst hA
  clear hb3 hit e1 e2 RA2 RB2 RC2 HV2 B2 hc1 hc2
  obtain ⟨qa0, qa1, qa2, qa3⟩ := cd_row (x := (⟨1, 0, 4, ⟨#[]⟩⟩ : Cd)) RA3.out
  obtain ⟨qb0, qb1, qb2, qb3⟩ := cd_row (x := (⟨2, 0, 4, ⟨#[]⟩⟩ : Cd)) RB3.out
  obtain ⟨qc0, qc1, qc2, qc3⟩ := cd_row (x := (⟨2, 7, 3, ⟨#[]⟩⟩ : Cd)) RC3.out
  obtain ⟨qx0, qx1, qx2, qx3⟩ := cd_row (x := (⟨2, 7, 3, ⟨#[]⟩⟩ : Cd)) RX3.out
  obtain ⟨r0, r1, r2, r3⟩ := i0
  obtain ⟨s0, s1, s2, s3⟩ := i1
  obtain ⟨t0, t1, t2, t3⟩ := i2
  clear RA3 RB3 RC3 RX3
  have Hs0 : w3.cell? ⟨W.heap.size, 0, none⟩ = some (.int .i64 1) ∧ w3.cell? ⟨W.heap.size, 1, none⟩ = some (.int .i64 0) ∧ w3.cell? ⟨W.heap.size, 2, none⟩ = some (.int .i64 4) ∧ w3.cell? ⟨W.heap.size, 3, none⟩ = some (.string ⟨#[]⟩) ∧ w3.cell? ⟨W.heap.size + 1, 0, none⟩ = some (.int .i64 2) ∧ w3.cell? ⟨W.heap.size + 1, 1, none⟩ = some (.int .i64 0) ∧ w3.cell? ⟨W.heap.size + 1, 2, none⟩ = some (.int .i64 4) ∧ w3.cell? ⟨W.heap.size + 1, 3, none⟩ = some (.string ⟨#[]⟩) ∧ w3.cell? ⟨W.heap.size + 1 + 1, 0, none⟩ = some (.int .i64 2) ∧ w3.cell? ⟨W.heap.size + 1 + 1, 1, none⟩ = some (.int .i64 7) ∧ w3.cell? ⟨W.heap.size + 1 + 1, 2, none⟩ = some (.int .i64 3) ∧ w3.cell? ⟨W.heap.size + 1 + 1, 3, none⟩ = some (.string ⟨#[]⟩) ∧ w3.cell? ⟨g, q, none⟩ = some (.int .i64 2) ∧ w3.cell? ⟨g, q + 1, none⟩ = some (.int .i64 7) ∧ w3.cell? ⟨g, q + 2, none⟩ = some (.int .i64 3) ∧ w3.cell? ⟨g, q + 3, none⟩ = some (.string ⟨#[]⟩) ∧ w3.cell? ⟨g, q + 4, none⟩ = some (.int .i64 1) ∧ w3.cell? ⟨g, q + 5, none⟩ = some (.int .i64 0) ∧ w3.cell? ⟨g, q + 6, none⟩ = some (.int .i64 4) ∧ w3.cell? ⟨g, q + 7, none⟩ = some (.string ⟨#[]⟩) ∧ w3.cell? ⟨g, q + 8, none⟩ = some (.int .i64 2) ∧ w3.cell? ⟨g, q + 9, none⟩ = some (.int .i64 0) ∧ w3.cell? ⟨g, q + 10, none⟩ = some (.int .i64 4) ∧ w3.cell? ⟨g, q + 11, none⟩ = some (.string ⟨#[]⟩) ∧ w3.cell? ⟨w2.heap.size, 0, none⟩ = some (.int .i64 2) ∧ w3.cell? ⟨w2.heap.size, 1, none⟩ = some (.int .i64 7) ∧ w3.cell? ⟨w2.heap.size, 2, none⟩ = some (.int .i64 3) ∧ w3.cell? ⟨w2.heap.size, 3, none⟩ = some (.string ⟨#[]⟩) ∧ Below w3.heap.size w3 w3 := ⟨qa0, qa1, qa2, qa3, qb0, qb1, qb2, qb3, qc0, qc1, qc2, qc3, r0, r1, r2, r3, s0, s1, s2, s3, t0, t1, t2, t3, qx0, qx1, qx2, qx3, Below.refl _ _⟩
  have hq0 : Below w3.heap.size w3 (w3.alloc (Obj.cells #[.int .i64 0, .int .i64 0, .int .i64 0, .string ⟨#[]⟩] 29)).drew := below_dn ((Below.refl _ _).alloc (Nat.le_refl _) _) 1
  have Hs := Lib.hid (show (w3.alloc (Obj.cells #[.int .i64 0, .int .i64 0, .int .i64 0, .string ⟨#[]⟩] 29)).drew.cell? ⟨W.heap.size, 0, none⟩ = some (.int .i64 1) ∧ (w3.alloc (Obj.cells #[.int .i64 0, .int .i64 0, .int .i64 0, .string ⟨#[]⟩] 29)).drew.cell? ⟨W.heap.size, 1, none⟩ = some (.int .i64 0) ∧ (w3.alloc (Obj.cells #[.int .i64 0, .int .i64 0, .int .i64 0, .string ⟨#[]⟩] 29)).drew.cell? ⟨W.heap.size, 2, none⟩ = some (.int .i64 4) ∧ (w3.alloc (Obj.cells #[.int .i64 0, .int .i64 0, .int .i64 0, .string ⟨#[]⟩] 29)).drew.cell? ⟨W.heap.size, 3, none⟩ = some (.string ⟨#[]⟩) ∧ (w3.alloc (Obj.cells #[.int .i64 0, .int .i64 0, .int .i64 0, .string ⟨#[]⟩] 29)).drew.cell? ⟨W.heap.size + 1, 0, none⟩ = some (.int .i64 2) ∧ (w3.alloc (Obj.cells #[.int .i64 0, .int .i64 0, .int .i64 0, .string ⟨#[]⟩] 29)).drew.cell? ⟨W.heap.size + 1, 1, none⟩ = some (.int .i64 0) ∧ (w3.alloc (Obj.cells #[.int .i64 0, .int .i64 0, .int .i64 0, .string ⟨#[]⟩] 29)).drew.cell? ⟨W.heap.size + 1, 2, none⟩ = some (.int .i64 4) ∧ (w3.alloc (Obj.cells #[.int .i64 0, .int .i64 0, .int .i64 0, .string ⟨#[]⟩] 29)).drew.cell? ⟨W.heap.size + 1, 3, none⟩ = some (.string ⟨#[]⟩) ∧ (w3.alloc (Obj.cells #[.int .i64 0, .int .i64 0, .int .i64 0, .string ⟨#[]⟩] 29)).drew.cell? ⟨W.heap.size + 1 + 1, 0, none⟩ = some (.int .i64 2) ∧ (w3.alloc (Obj.cells #[.int .i64 0, .int .i64 0, .int .i64 0, .string ⟨#[]⟩] 29)).drew.cell? ⟨W.heap.size + 1 + 1, 1, none⟩ = some (.int .i64 7) ∧ (w3.alloc (Obj.cells #[.int .i64 0, .int .i64 0, .int .i64 0, .string ⟨#[]⟩] 29)).drew.cell? ⟨W.heap.size + 1 + 1, 2, none⟩ = some (.int .i64 3) ∧ (w3.alloc (Obj.cells #[.int .i64 0, .int .i64 0, .int .i64 0, .string ⟨#[]⟩] 29)).drew.cell? ⟨W.heap.size + 1 + 1, 3, none⟩ = some (.string ⟨#[]⟩) ∧ (w3.alloc (Obj.cells #[.int .i64 0, .int .i64 0, .int .i64 0, .string ⟨#[]⟩] 29)).drew.cell? ⟨g, q, none⟩ = some (.int .i64 2) ∧ (w3.alloc (Obj.cells #[.int .i64 0, .int .i64 0, .int .i64 0, .string ⟨#[]⟩] 29)).drew.cell? ⟨g, q + 1, none⟩ = some (.int .i64 7) ∧ (w3.alloc (Obj.cells #[.int .i64 0, .int .i64 0, .int .i64 0, .string ⟨#[]⟩] 29)).drew.cell? ⟨g, q + 2, none⟩ = some (.int .i64 3) ∧ (w3.alloc (Obj.cells #[.int .i64 0, .int .i64 0, .int .i64 0, .string ⟨#[]⟩] 29)).drew.cell? ⟨g, q + 3, none⟩ = some (.string ⟨#[]⟩) ∧ (w3.alloc (Obj.cells #[.int .i64 0, .int .i64 0, .int .i64 0, .string ⟨#[]⟩] 29)).drew.cell? ⟨g, q + 4, none⟩ = some (.int .i64 1) ∧ (w3.alloc (Obj.cells #[.int .i64 0, .int .i64 0, .int .i64 0, .string ⟨#[]⟩] 29)).drew.cell? ⟨g, q + 5, none⟩ = some (.int .i64 0) ∧ (w3.alloc (Obj.cells #[.int .i64 0, .int .i64 0, .int .i64 0, .string ⟨#[]⟩] 29)).drew.cell? ⟨g, q + 6, none⟩ = some (.int .i64 4) ∧ (w3.alloc (Obj.cells #[.int .i64 0, .int .i64 0, .int .i64 0, .string ⟨#[]⟩] 29)).drew.cell? ⟨g, q + 7, none⟩ = some (.string ⟨#[]⟩) ∧ (w3.alloc (Obj.cells #[.int .i64 0, .int .i64 0, .int .i64 0, .string ⟨#[]⟩] 29)).drew.cell? ⟨g, q + 8, none⟩ = some (.int .i64 2) ∧ (w3.alloc (Obj.cells #[.int .i64 0, .int .i64 0, .int .i64 0, .string ⟨#[]⟩] 29)).drew.cell? ⟨g, q + 9, none⟩ = some (.int .i64 0) ∧ (w3.alloc (Obj.cells #[.int .i64 0, .int .i64 0, .int .i64 0, .string ⟨#[]⟩] 29)).drew.cell? ⟨g, q + 10, none⟩ = some (.int .i64 4) ∧ (w3.alloc (Obj.cells #[.int .i64 0, .int .i64 0, .int .i64 0, .string ⟨#[]⟩] 29)).drew.cell? ⟨g, q + 11, none⟩ = some (.string ⟨#[]⟩) ∧ (w3.alloc (Obj.cells #[.int .i64 0, .int .i64 0, .int .i64 0, .string ⟨#[]⟩] 29)).drew.cell? ⟨w2.heap.size, 0, none⟩ = some (.int .i64 2) ∧ (w3.alloc (Obj.cells #[.int .i64 0, .int .i64 0, .int .i64 0, .string ⟨#[]⟩] 29)).drew.cell? ⟨w2.heap.size, 1, none⟩ = some (.int .i64 7) ∧ (w3.alloc (Obj.cells #[.int .i64 0, .int .i64 0, .int .i64 0, .string ⟨#[]⟩] 29)).drew.cell? ⟨w2.heap.size, 2, none⟩ = some (.int .i64 3) ∧ (w3.alloc (Obj.cells #[.int .i64 0, .int .i64 0, .int .i64 0, .string ⟨#[]⟩] 29)).drew.cell? ⟨w2.heap.size, 3, none⟩ = some (.string ⟨#[]⟩) ∧ Below w3.heap.size w3 (w3.alloc (Obj.cells #[.int .i64 0, .int .i64 0, .int .i64 0, .string ⟨#[]⟩] 29)).drew from ⟨cell_below Hs0.1 hq0, cell_below Hs0.2.1 hq0, cell_below Hs0.2.2.1 hq0, cell_below Hs0.2.2.2.1 hq0, cell_below Hs0.2.2.2.2.1 hq0, cell_below Hs0.2.2.2.2.2.1 hq0, cell_below Hs0.2.2.2.2.2.2.1 hq0, cell_below Hs0.2.2.2.2.2.2.2.1 hq0, cell_below Hs0.2.2.2.2.2.2.2.2.1 hq0, cell_below Hs0.2.2.2.2.2.2.2.2.2.1 hq0, cell_below Hs0.2.2.2.2.2.2.2.2.2.2.1 hq0, cell_below Hs0.2.2.2.2.2.2.2.2.2.2.2.1 hq0, cell_below Hs0.2.2.2.2.2.2.2.2.2.2.2.2.1 hq0, cell_below Hs0.2.2.2.2.2.2.2.2.2.2.2.2.2.1 hq0, cell_below Hs0.2.2.2.2.2.2.2.2.2.2.2.2.2.2.1 hq0, cell_below Hs0.2.2.2.2.2.2.2.2.2.2.2.2.2.2.2.1 hq0, cell_below Hs0.2.2.2.2.2.2.2.2.2.2.2.2.2.2.2.2.1 hq0, cell_below Hs0.2.2.2.2.2.2.2.2.2.2.2.2.2.2.2.2.2.1 hq0, cell_below Hs0.2.2.2.2.2.2.2.2.2.2.2.2.2.2.2.2.2.2.1 hq0, cell_below Hs0.2.2.2.2.2.2.2.2.2.2.2.2.2.2.2.2.2.2.2.1 hq0, cell_below Hs0.2.2.2.2.2.2.2.2.2.2.2.2.2.2.2.2.2.2.2.2.1 hq0, cell_below Hs0.2.2.2.2.2.2.2.2.2.2.2.2.2.2.2.2.2.2.2.2.2.1 hq0, cell_below Hs0.2.2.2.2.2.2.2.2.2.2.2.2.2.2.2.2.2.2.2.2.2.2.1 hq0, cell_below Hs0.2.2.2.2.2.2.2.2.2.2.2.2.2.2.2.2.2.2.2.2.2.2.2.1 hq0, cell_below Hs0.2.2.2.2.2.2.2.2.2.2.2.2.2.2.2.2.2.2.2.2.2.2.2.2.1 hq0, cell_below Hs0.2.2.2.2.2.2.2.2.2.2.2.2.2.2.2.2.2.2.2.2.2.2.2.2.2.1 hq0, cell_below Hs0.2.2.2.2.2.2.2.2.2.2.2.2.2.2.2.2.2.2.2.2.2.2.2.2.2.2.1 hq0, cell_below Hs0.2.2.2.2.2.2.2.2.2.2.2.2.2.2.2.2.2.2.2.2.2.2.2.2.2.2.2.1 hq0, below_on Hs0.2.2.2.2.2.2.2.2.2.2.2.2.2.2.2.2.2.2.2.2.2.2.2.2.2.2.2.2 hq0⟩)
  clear Hs0 hq0
  have XP0 := Lib.hid (fun u (hu : u.cell? ⟨W.heap.size, 0, none⟩ = some (.int .i64 1) ∧ u.cell? ⟨W.heap.size, 1, none⟩ = some (.int .i64 0) ∧ u.cell? ⟨W.heap.size, 2, none⟩ = some (.int .i64 4) ∧ u.cell? ⟨W.heap.size, 3, none⟩ = some (.string ⟨#[]⟩) ∧ u.cell? ⟨W.heap.size + 1, 0, none⟩ = some (.int .i64 2) ∧ u.cell? ⟨W.heap.size + 1, 1, none⟩ = some (.int .i64 0) ∧ u.cell? ⟨W.heap.size + 1, 2, none⟩ = some (.int .i64 4) ∧ u.cell? ⟨W.heap.size + 1, 3, none⟩ = some (.string ⟨#[]⟩) ∧ u.cell? ⟨W.heap.size + 1 + 1, 0, none⟩ = some (.int .i64 2) ∧ u.cell? ⟨W.heap.size + 1 + 1, 1, none⟩ = some (.int .i64 7) ∧ u.cell? ⟨W.heap.size + 1 + 1, 2, none⟩ = some (.int .i64 3) ∧ u.cell? ⟨W.heap.size + 1 + 1, 3, none⟩ = some (.string ⟨#[]⟩) ∧ u.cell? ⟨g, q, none⟩ = some (.int .i64 2) ∧ u.cell? ⟨g, q + 1, none⟩ = some (.int .i64 7) ∧ u.cell? ⟨g, q + 2, none⟩ = some (.int .i64 3) ∧ u.cell? ⟨g, q + 3, none⟩ = some (.string ⟨#[]⟩) ∧ u.cell? ⟨g, q + 4, none⟩ = some (.int .i64 1) ∧ u.cell? ⟨g, q + 5, none⟩ = some (.int .i64 0) ∧ u.cell? ⟨g, q + 6, none⟩ = some (.int .i64 4) ∧ u.cell? ⟨g, q + 7, none⟩ = some (.string ⟨#[]⟩) ∧ u.cell? ⟨g, q + 8, none⟩ = some (.int .i64 2) ∧ u.cell? ⟨g, q + 9, none⟩ = some (.int .i64 0) ∧ u.cell? ⟨g, q + 10, none⟩ = some (.int .i64 4) ∧ u.cell? ⟨g, q + 11, none⟩ = some (.string ⟨#[]⟩) ∧ u.cell? ⟨w2.heap.size, 0, none⟩ = some (.int .i64 2) ∧ u.cell? ⟨w2.heap.size, 1, none⟩ = some (.int .i64 7) ∧ u.cell? ⟨w2.heap.size, 2, none⟩ = some (.int .i64 3) ∧ u.cell? ⟨w2.heap.size, 3, none⟩ = some (.string ⟨#[]⟩) ∧ Below w3.heap.size w3 u) => (HP0.out u).mono (R' := fun e u' => e = .returned (.bool true) ∧ (u'.cell? ⟨W.heap.size, 0, none⟩ = some (.int .i64 1) ∧ u'.cell? ⟨W.heap.size, 1, none⟩ = some (.int .i64 0) ∧ u'.cell? ⟨W.heap.size, 2, none⟩ = some (.int .i64 4) ∧ u'.cell? ⟨W.heap.size, 3, none⟩ = some (.string ⟨#[]⟩) ∧ u'.cell? ⟨W.heap.size + 1, 0, none⟩ = some (.int .i64 2) ∧ u'.cell? ⟨W.heap.size + 1, 1, none⟩ = some (.int .i64 0) ∧ u'.cell? ⟨W.heap.size + 1, 2, none⟩ = some (.int .i64 4) ∧ u'.cell? ⟨W.heap.size + 1, 3, none⟩ = some (.string ⟨#[]⟩) ∧ u'.cell? ⟨W.heap.size + 1 + 1, 0, none⟩ = some (.int .i64 2) ∧ u'.cell? ⟨W.heap.size + 1 + 1, 1, none⟩ = some (.int .i64 7) ∧ u'.cell? ⟨W.heap.size + 1 + 1, 2, none⟩ = some (.int .i64 3) ∧ u'.cell? ⟨W.heap.size + 1 + 1, 3, none⟩ = some (.string ⟨#[]⟩) ∧ u'.cell? ⟨g, q, none⟩ = some (.int .i64 2) ∧ u'.cell? ⟨g, q + 1, none⟩ = some (.int .i64 7) ∧ u'.cell? ⟨g, q + 2, none⟩ = some (.int .i64 3) ∧ u'.cell? ⟨g, q + 3, none⟩ = some (.string ⟨#[]⟩) ∧ u'.cell? ⟨g, q + 4, none⟩ = some (.int .i64 1) ∧ u'.cell? ⟨g, q + 5, none⟩ = some (.int .i64 0) ∧ u'.cell? ⟨g, q + 6, none⟩ = some (.int .i64 4) ∧ u'.cell? ⟨g, q + 7, none⟩ = some (.string ⟨#[]⟩) ∧ u'.cell? ⟨g, q + 8, none⟩ = some (.int .i64 2) ∧ u'.cell? ⟨g, q + 9, none⟩ = some (.int .i64 0) ∧ u'.cell? ⟨g, q + 10, none⟩ = some (.int .i64 4) ∧ u'.cell? ⟨g, q + 11, none⟩ = some (.string ⟨#[]⟩) ∧ u'.cell? ⟨w2.heap.size, 0, none⟩ = some (.int .i64 2) ∧ u'.cell? ⟨w2.heap.size, 1, none⟩ = some (.int .i64 7) ∧ u'.cell? ⟨w2.heap.size, 2, none⟩ = some (.int .i64 3) ∧ u'.cell? ⟨w2.heap.size, 3, none⟩ = some (.string ⟨#[]⟩) ∧ Below w3.heap.size w3 u')) fun e u' ⟨he, hq⟩ => ⟨he, ⟨cell_below hu.1 hq, cell_below hu.2.1 hq, cell_below hu.2.2.1 hq, cell_below hu.2.2.2.1 hq, cell_below hu.2.2.2.2.1 hq, cell_below hu.2.2.2.2.2.1 hq, cell_below hu.2.2.2.2.2.2.1 hq, cell_below hu.2.2.2.2.2.2.2.1 hq, cell_below hu.2.2.2.2.2.2.2.2.1 hq, cell_below hu.2.2.2.2.2.2.2.2.2.1 hq, cell_below hu.2.2.2.2.2.2.2.2.2.2.1 hq, cell_below hu.2.2.2.2.2.2.2.2.2.2.2.1 hq, cell_below hu.2.2.2.2.2.2.2.2.2.2.2.2.1 hq, cell_below hu.2.2.2.2.2.2.2.2.2.2.2.2.2.1 hq, cell_below hu.2.2.2.2.2.2.2.2.2.2.2.2.2.2.1 hq, cell_below hu.2.2.2.2.2.2.2.2.2.2.2.2.2.2.2.1 hq, cell_below hu.2.2.2.2.2.2.2.2.2.2.2.2.2.2.2.2.1 hq, cell_below hu.2.2.2.2.2.2.2.2.2.2.2.2.2.2.2.2.2.1 hq, cell_below hu.2.2.2.2.2.2.2.2.2.2.2.2.2.2.2.2.2.2.1 hq, cell_below hu.2.2.2.2.2.2.2.2.2.2.2.2.2.2.2.2.2.2.2.1 hq, cell_below hu.2.2.2.2.2.2.2.2.2.2.2.2.2.2.2.2.2.2.2.2.1 hq, cell_below hu.2.2.2.2.2.2.2.2.2.2.2.2.2.2.2.2.2.2.2.2.2.1 hq, cell_below hu.2.2.2.2.2.2.2.2.2.2.2.2.2.2.2.2.2.2.2.2.2.2.1 hq, cell_below hu.2.2.2.2.2.2.2.2.2.2.2.2.2.2.2.2.2.2.2.2.2.2.2.1 hq, cell_below hu.2.2.2.2.2.2.2.2.2.2.2.2.2.2.2.2.2.2.2.2.2.2.2.2.1 hq, cell_below hu.2.2.2.2.2.2.2.2.2.2.2.2.2.2.2.2.2.2.2.2.2.2.2.2.2.1 hq, cell_below hu.2.2.2.2.2.2.2.2.2.2.2.2.2.2.2.2.2.2.2.2.2.2.2.2.2.2.1 hq, cell_below hu.2.2.2.2.2.2.2.2.2.2.2.2.2.2.2.2.2.2.2.2.2.2.2.2.2.2.2.1 hq, below_on hu.2.2.2.2.2.2.2.2.2.2.2.2.2.2.2.2.2.2.2.2.2.2.2.2.2.2.2.2 hq⟩⟩)
  have XP1 := Lib.hid (fun u (hu : u.cell? ⟨W.heap.size, 0, none⟩ = some (.int .i64 1) ∧ u.cell? ⟨W.heap.size, 1, none⟩ = some (.int .i64 0) ∧ u.cell? ⟨W.heap.size, 2, none⟩ = some (.int .i64 4) ∧ u.cell? ⟨W.heap.size, 3, none⟩ = some (.string ⟨#[]⟩) ∧ u.cell? ⟨W.heap.size + 1, 0, none⟩ = some (.int .i64 2) ∧ u.cell? ⟨W.heap.size + 1, 1, none⟩ = some (.int .i64 0) ∧ u.cell? ⟨W.heap.size + 1, 2, none⟩ = some (.int .i64 4) ∧ u.cell? ⟨W.heap.size + 1, 3, none⟩ = some (.string ⟨#[]⟩) ∧ u.cell? ⟨W.heap.size + 1 + 1, 0, none⟩ = some (.int .i64 2) ∧ u.cell? ⟨W.heap.size + 1 + 1, 1, none⟩ = some (.int .i64 7) ∧ u.cell? ⟨W.heap.size + 1 + 1, 2, none⟩ = some (.int .i64 3) ∧ u.cell? ⟨W.heap.size + 1 + 1, 3, none⟩ = some (.string ⟨#[]⟩) ∧ u.cell? ⟨g, q, none⟩ = some (.int .i64 2) ∧ u.cell? ⟨g, q + 1, none⟩ = some (.int .i64 7) ∧ u.cell? ⟨g, q + 2, none⟩ = some (.int .i64 3) ∧ u.cell? ⟨g, q + 3, none⟩ = some (.string ⟨#[]⟩) ∧ u.cell? ⟨g, q + 4, none⟩ = some (.int .i64 1) ∧ u.cell? ⟨g, q + 5, none⟩ = some (.int .i64 0) ∧ u.cell? ⟨g, q + 6, none⟩ = some (.int .i64 4) ∧ u.cell? ⟨g, q + 7, none⟩ = some (.string ⟨#[]⟩) ∧ u.cell? ⟨g, q + 8, none⟩ = some (.int .i64 2) ∧ u.cell? ⟨g, q + 9, none⟩ = some (.int .i64 0) ∧ u.cell? ⟨g, q + 10, none⟩ = some (.int .i64 4) ∧ u.cell? ⟨g, q + 11, none⟩ = some (.string ⟨#[]⟩) ∧ u.cell? ⟨w2.heap.size, 0, none⟩ = some (.int .i64 2) ∧ u.cell? ⟨w2.heap.size, 1, none⟩ = some (.int .i64 7) ∧ u.cell? ⟨w2.heap.size, 2, none⟩ = some (.int .i64 3) ∧ u.cell? ⟨w2.heap.size, 3, none⟩ = some (.string ⟨#[]⟩) ∧ Below w3.heap.size w3 u) => (HP1.out u).mono (R' := fun e u' => e = .returned (.bool true) ∧ (u'.cell? ⟨W.heap.size, 0, none⟩ = some (.int .i64 1) ∧ u'.cell? ⟨W.heap.size, 1, none⟩ = some (.int .i64 0) ∧ u'.cell? ⟨W.heap.size, 2, none⟩ = some (.int .i64 4) ∧ u'.cell? ⟨W.heap.size, 3, none⟩ = some (.string ⟨#[]⟩) ∧ u'.cell? ⟨W.heap.size + 1, 0, none⟩ = some (.int .i64 2) ∧ u'.cell? ⟨W.heap.size + 1, 1, none⟩ = some (.int .i64 0) ∧ u'.cell? ⟨W.heap.size + 1, 2, none⟩ = some (.int .i64 4) ∧ u'.cell? ⟨W.heap.size + 1, 3, none⟩ = some (.string ⟨#[]⟩) ∧ u'.cell? ⟨W.heap.size + 1 + 1, 0, none⟩ = some (.int .i64 2) ∧ u'.cell? ⟨W.heap.size + 1 + 1, 1, none⟩ = some (.int .i64 7) ∧ u'.cell? ⟨W.heap.size + 1 + 1, 2, none⟩ = some (.int .i64 3) ∧ u'.cell? ⟨W.heap.size + 1 + 1, 3, none⟩ = some (.string ⟨#[]⟩) ∧ u'.cell? ⟨g, q, none⟩ = some (.int .i64 2) ∧ u'.cell? ⟨g, q + 1, none⟩ = some (.int .i64 7) ∧ u'.cell? ⟨g, q + 2, none⟩ = some (.int .i64 3) ∧ u'.cell? ⟨g, q + 3, none⟩ = some (.string ⟨#[]⟩) ∧ u'.cell? ⟨g, q + 4, none⟩ = some (.int .i64 1) ∧ u'.cell? ⟨g, q + 5, none⟩ = some (.int .i64 0) ∧ u'.cell? ⟨g, q + 6, none⟩ = some (.int .i64 4) ∧ u'.cell? ⟨g, q + 7, none⟩ = some (.string ⟨#[]⟩) ∧ u'.cell? ⟨g, q + 8, none⟩ = some (.int .i64 2) ∧ u'.cell? ⟨g, q + 9, none⟩ = some (.int .i64 0) ∧ u'.cell? ⟨g, q + 10, none⟩ = some (.int .i64 4) ∧ u'.cell? ⟨g, q + 11, none⟩ = some (.string ⟨#[]⟩) ∧ u'.cell? ⟨w2.heap.size, 0, none⟩ = some (.int .i64 2) ∧ u'.cell? ⟨w2.heap.size, 1, none⟩ = some (.int .i64 7) ∧ u'.cell? ⟨w2.heap.size, 2, none⟩ = some (.int .i64 3) ∧ u'.cell? ⟨w2.heap.size, 3, none⟩ = some (.string ⟨#[]⟩) ∧ Below w3.heap.size w3 u')) fun e u' ⟨he, hq⟩ => ⟨he, ⟨cell_below hu.1 hq, cell_below hu.2.1 hq, cell_below hu.2.2.1 hq, cell_below hu.2.2.2.1 hq, cell_below hu.2.2.2.2.1 hq, cell_below hu.2.2.2.2.2.1 hq, cell_below hu.2.2.2.2.2.2.1 hq, cell_below hu.2.2.2.2.2.2.2.1 hq, cell_below hu.2.2.2.2.2.2.2.2.1 hq, cell_below hu.2.2.2.2.2.2.2.2.2.1 hq, cell_below hu.2.2.2.2.2.2.2.2.2.2.1 hq, cell_below hu.2.2.2.2.2.2.2.2.2.2.2.1 hq, cell_below hu.2.2.2.2.2.2.2.2.2.2.2.2.1 hq, cell_below hu.2.2.2.2.2.2.2.2.2.2.2.2.2.1 hq, cell_below hu.2.2.2.2.2.2.2.2.2.2.2.2.2.2.1 hq, cell_below hu.2.2.2.2.2.2.2.2.2.2.2.2.2.2.2.1 hq, cell_below hu.2.2.2.2.2.2.2.2.2.2.2.2.2.2.2.2.1 hq, cell_below hu.2.2.2.2.2.2.2.2.2.2.2.2.2.2.2.2.2.1 hq, cell_below hu.2.2.2.2.2.2.2.2.2.2.2.2.2.2.2.2.2.2.1 hq, cell_below hu.2.2.2.2.2.2.2.2.2.2.2.2.2.2.2.2.2.2.2.1 hq, cell_below hu.2.2.2.2.2.2.2.2.2.2.2.2.2.2.2.2.2.2.2.2.1 hq, cell_below hu.2.2.2.2.2.2.2.2.2.2.2.2.2.2.2.2.2.2.2.2.2.1 hq, cell_below hu.2.2.2.2.2.2.2.2.2.2.2.2.2.2.2.2.2.2.2.2.2.2.1 hq, cell_below hu.2.2.2.2.2.2.2.2.2.2.2.2.2.2.2.2.2.2.2.2.2.2.2.1 hq, cell_below hu.2.2.2.2.2.2.2.2.2.2.2.2.2.2.2.2.2.2.2.2.2.2.2.2.1 hq, cell_below hu.2.2.2.2.2.2.2.2.2.2.2.2.2.2.2.2.2.2.2.2.2.2.2.2.2.1 hq, cell_below hu.2.2.2.2.2.2.2.2.2.2.2.2.2.2.2.2.2.2.2.2.2.2.2.2.2.2.1 hq, cell_below hu.2.2.2.2.2.2.2.2.2.2.2.2.2.2.2.2.2.2.2.2.2.2.2.2.2.2.2.1 hq, below_on hu.2.2.2.2.2.2.2.2.2.2.2.2.2.2.2.2.2.2.2.2.2.2.2.2.2.2.2.2 hq⟩⟩)
  have XP2 := Lib.hid (fun u (hu : u.cell? ⟨W.heap.size, 0, none⟩ = some (.int .i64 1) ∧ u.cell? ⟨W.heap.size, 1, none⟩ = some (.int .i64 0) ∧ u.cell? ⟨W.heap.size, 2, none⟩ = some (.int .i64 4) ∧ u.cell? ⟨W.heap.size, 3, none⟩ = some (.string ⟨#[]⟩) ∧ u.cell? ⟨W.heap.size + 1, 0, none⟩ = some (.int .i64 2) ∧ u.cell? ⟨W.heap.size + 1, 1, none⟩ = some (.int .i64 0) ∧ u.cell? ⟨W.heap.size + 1, 2, none⟩ = some (.int .i64 4) ∧ u.cell? ⟨W.heap.size + 1, 3, none⟩ = some (.string ⟨#[]⟩) ∧ u.cell? ⟨W.heap.size + 1 + 1, 0, none⟩ = some (.int .i64 2) ∧ u.cell? ⟨W.heap.size + 1 + 1, 1, none⟩ = some (.int .i64 7) ∧ u.cell? ⟨W.heap.size + 1 + 1, 2, none⟩ = some (.int .i64 3) ∧ u.cell? ⟨W.heap.size + 1 + 1, 3, none⟩ = some (.string ⟨#[]⟩) ∧ u.cell? ⟨g, q, none⟩ = some (.int .i64 2) ∧ u.cell? ⟨g, q + 1, none⟩ = some (.int .i64 7) ∧ u.cell? ⟨g, q + 2, none⟩ = some (.int .i64 3) ∧ u.cell? ⟨g, q + 3, none⟩ = some (.string ⟨#[]⟩) ∧ u.cell? ⟨g, q + 4, none⟩ = some (.int .i64 1) ∧ u.cell? ⟨g, q + 5, none⟩ = some (.int .i64 0) ∧ u.cell? ⟨g, q + 6, none⟩ = some (.int .i64 4) ∧ u.cell? ⟨g, q + 7, none⟩ = some (.string ⟨#[]⟩) ∧ u.cell? ⟨g, q + 8, none⟩ = some (.int .i64 2) ∧ u.cell? ⟨g, q + 9, none⟩ = some (.int .i64 0) ∧ u.cell? ⟨g, q + 10, none⟩ = some (.int .i64 4) ∧ u.cell? ⟨g, q + 11, none⟩ = some (.string ⟨#[]⟩) ∧ u.cell? ⟨w2.heap.size, 0, none⟩ = some (.int .i64 2) ∧ u.cell? ⟨w2.heap.size, 1, none⟩ = some (.int .i64 7) ∧ u.cell? ⟨w2.heap.size, 2, none⟩ = some (.int .i64 3) ∧ u.cell? ⟨w2.heap.size, 3, none⟩ = some (.string ⟨#[]⟩) ∧ Below w3.heap.size w3 u) => (HP2.out u).mono (R' := fun e u' => e = .returned (.bool false) ∧ (u'.cell? ⟨W.heap.size, 0, none⟩ = some (.int .i64 1) ∧ u'.cell? ⟨W.heap.size, 1, none⟩ = some (.int .i64 0) ∧ u'.cell? ⟨W.heap.size, 2, none⟩ = some (.int .i64 4) ∧ u'.cell? ⟨W.heap.size, 3, none⟩ = some (.string ⟨#[]⟩) ∧ u'.cell? ⟨W.heap.size + 1, 0, none⟩ = some (.int .i64 2) ∧ u'.cell? ⟨W.heap.size + 1, 1, none⟩ = some (.int .i64 0) ∧ u'.cell? ⟨W.heap.size + 1, 2, none⟩ = some (.int .i64 4) ∧ u'.cell? ⟨W.heap.size + 1, 3, none⟩ = some (.string ⟨#[]⟩) ∧ u'.cell? ⟨W.heap.size + 1 + 1, 0, none⟩ = some (.int .i64 2) ∧ u'.cell? ⟨W.heap.size + 1 + 1, 1, none⟩ = some (.int .i64 7) ∧ u'.cell? ⟨W.heap.size + 1 + 1, 2, none⟩ = some (.int .i64 3) ∧ u'.cell? ⟨W.heap.size + 1 + 1, 3, none⟩ = some (.string ⟨#[]⟩) ∧ u'.cell? ⟨g, q, none⟩ = some (.int .i64 2) ∧ u'.cell? ⟨g, q + 1, none⟩ = some (.int .i64 7) ∧ u'.cell? ⟨g, q + 2, none⟩ = some (.int .i64 3) ∧ u'.cell? ⟨g, q + 3, none⟩ = some (.string ⟨#[]⟩) ∧ u'.cell? ⟨g, q + 4, none⟩ = some (.int .i64 1) ∧ u'.cell? ⟨g, q + 5, none⟩ = some (.int .i64 0) ∧ u'.cell? ⟨g, q + 6, none⟩ = some (.int .i64 4) ∧ u'.cell? ⟨g, q + 7, none⟩ = some (.string ⟨#[]⟩) ∧ u'.cell? ⟨g, q + 8, none⟩ = some (.int .i64 2) ∧ u'.cell? ⟨g, q + 9, none⟩ = some (.int .i64 0) ∧ u'.cell? ⟨g, q + 10, none⟩ = some (.int .i64 4) ∧ u'.cell? ⟨g, q + 11, none⟩ = some (.string ⟨#[]⟩) ∧ u'.cell? ⟨w2.heap.size, 0, none⟩ = some (.int .i64 2) ∧ u'.cell? ⟨w2.heap.size, 1, none⟩ = some (.int .i64 7) ∧ u'.cell? ⟨w2.heap.size, 2, none⟩ = some (.int .i64 3) ∧ u'.cell? ⟨w2.heap.size, 3, none⟩ = some (.string ⟨#[]⟩) ∧ Below w3.heap.size w3 u')) fun e u' ⟨he, hq⟩ => ⟨he, ⟨cell_below hu.1 hq, cell_below hu.2.1 hq, cell_below hu.2.2.1 hq, cell_below hu.2.2.2.1 hq, cell_below hu.2.2.2.2.1 hq, cell_below hu.2.2.2.2.2.1 hq, cell_below hu.2.2.2.2.2.2.1 hq, cell_below hu.2.2.2.2.2.2.2.1 hq, cell_below hu.2.2.2.2.2.2.2.2.1 hq, cell_below hu.2.2.2.2.2.2.2.2.2.1 hq, cell_below hu.2.2.2.2.2.2.2.2.2.2.1 hq, cell_below hu.2.2.2.2.2.2.2.2.2.2.2.1 hq, cell_below hu.2.2.2.2.2.2.2.2.2.2.2.2.1 hq, cell_below hu.2.2.2.2.2.2.2.2.2.2.2.2.2.1 hq, cell_below hu.2.2.2.2.2.2.2.2.2.2.2.2.2.2.1 hq, cell_below hu.2.2.2.2.2.2.2.2.2.2.2.2.2.2.2.1 hq, cell_below hu.2.2.2.2.2.2.2.2.2.2.2.2.2.2.2.2.1 hq, cell_below hu.2.2.2.2.2.2.2.2.2.2.2.2.2.2.2.2.2.1 hq, cell_below hu.2.2.2.2.2.2.2.2.2.2.2.2.2.2.2.2.2.2.1 hq, cell_below hu.2.2.2.2.2.2.2.2.2.2.2.2.2.2.2.2.2.2.2.1 hq, cell_below hu.2.2.2.2.2.2.2.2.2.2.2.2.2.2.2.2.2.2.2.2.1 hq, cell_below hu.2.2.2.2.2.2.2.2.2.2.2.2.2.2.2.2.2.2.2.2.2.1 hq, cell_below hu.2.2.2.2.2.2.2.2.2.2.2.2.2.2.2.2.2.2.2.2.2.2.1 hq, cell_below hu.2.2.2.2.2.2.2.2.2.2.2.2.2.2.2.2.2.2.2.2.2.2.2.1 hq, cell_below hu.2.2.2.2.2.2.2.2.2.2.2.2.2.2.2.2.2.2.2.2.2.2.2.2.1 hq, cell_below hu.2.2.2.2.2.2.2.2.2.2.2.2.2.2.2.2.2.2.2.2.2.2.2.2.2.1 hq, cell_below hu.2.2.2.2.2.2.2.2.2.2.2.2.2.2.2.2.2.2.2.2.2.2.2.2.2.2.1 hq, cell_below hu.2.2.2.2.2.2.2.2.2.2.2.2.2.2.2.2.2.2.2.2.2.2.2.2.2.2.2.1 hq, below_on hu.2.2.2.2.2.2.2.2.2.2.2.2.2.2.2.2.2.2.2.2.2.2.2.2.2.2.2.2 hq⟩⟩)
  go_wp2_with fail
  refine wp_region_held_drew (S := fun u => u.cell? ⟨W.heap.size, 0, none⟩ = some (.int .i64 1) ∧ u.cell? ⟨W.heap.size, 1, none⟩ = some (.int .i64 0) ∧ u.cell? ⟨W.heap.size, 2, none⟩ = some (.int .i64 4) ∧ u.cell? ⟨W.heap.size, 3, none⟩ = some (.string ⟨#[]⟩) ∧ u.cell? ⟨W.heap.size + 1, 0, none⟩ = some (.int .i64 2) ∧ u.cell? ⟨W.heap.size + 1, 1, none⟩ = some (.int .i64 0) ∧ u.cell? ⟨W.heap.size + 1, 2, none⟩ = some (.int .i64 4) ∧ u.cell? ⟨W.heap.size + 1, 3, none⟩ = some (.string ⟨#[]⟩) ∧ u.cell? ⟨W.heap.size + 1 + 1, 0, none⟩ = some (.int .i64 2) ∧ u.cell? ⟨W.heap.size + 1 + 1, 1, none⟩ = some (.int .i64 7) ∧ u.cell? ⟨W.heap.size + 1 + 1, 2, none⟩ = some (.int .i64 3) ∧ u.cell? ⟨W.heap.size + 1 + 1, 3, none⟩ = some (.string ⟨#[]⟩) ∧ u.cell? ⟨g, q, none⟩ = some (.int .i64 2) ∧ u.cell? ⟨g, q + 1, none⟩ = some (.int .i64 7) ∧ u.cell? ⟨g, q + 2, none⟩ = some (.int .i64 3) ∧ u.cell? ⟨g, q + 3, none⟩ = some (.string ⟨#[]⟩) ∧ u.cell? ⟨g, q + 4, none⟩ = some (.int .i64 1) ∧ u.cell? ⟨g, q + 5, none⟩ = some (.int .i64 0) ∧ u.cell? ⟨g, q + 6, none⟩ = some (.int .i64 4) ∧ u.cell? ⟨g, q + 7, none⟩ = some (.string ⟨#[]⟩) ∧ u.cell? ⟨g, q + 8, none⟩ = some (.int .i64 2) ∧ u.cell? ⟨g, q + 9, none⟩ = some (.int .i64 0) ∧ u.cell? ⟨g, q + 10, none⟩ = some (.int .i64 4) ∧ u.cell? ⟨g, q + 11, none⟩ = some (.string ⟨#[]⟩) ∧ u.cell? ⟨w2.heap.size, 0, none⟩ = some (.int .i64 2) ∧ u.cell? ⟨w2.heap.size, 1, none⟩ = some (.int .i64 7) ∧ u.cell? ⟨w2.heap.size, 2, none⟩ = some (.int .i64 3) ∧ u.cell? ⟨w2.heap.size, 3, none⟩ = some (.string ⟨#[]⟩) ∧ Below w3.heap.size w3 u) (by kernel_rfl) Hs.out (fun hHeld => ?_)
  refine wpAnyH_take (i := 0) (oi := { dst := some 32, op := _, type := _, pos := _, after := _, guard := _ }) (v := ?v1_0) rfl (by kernel_rfl) (by kernel_rfl) (by kernel_rfl) (fun _ _ _ h => h) (Or.inl ⟨by rfl, ?hy1_0⟩) hHeld ?_
  case hy1_0 => (intro w hSw; (try dsimp only at hSw); go_simp; try with_reducible rfl)
  simp only [Act.put, List.setIfInBounds_toArray, List.set_cons_zero, List.set_cons_succ]
  refine wpAnyH_take (i := 1) (oi := { dst := some 33, op := _, type := _, pos := _, after := _, guard := _ }) (v := ?v1_1) rfl (by kernel_rfl) (by kernel_rfl) (by kernel_rfl) (fun _ _ _ h => h) (Or.inl ⟨by rfl, ?hy1_1⟩) hHeld ?_
  case hy1_1 => (intro w hSw; (try dsimp only at hSw); go_simp; try with_reducible rfl)
  simp only [Act.put, List.setIfInBounds_toArray, List.set_cons_zero, List.set_cons_succ]
  refine wpAnyH_ready (rs := [2]) (by kernel_rfl) (by simp) ?_
  refine AllReadyH.cons (o := { dst := some 34, op := _, type := _, pos := _, after := _, guard := _ }) rfl (fun K hK => ?_) AllReadyH.nil
  go_simp
  go_at_call 10
  refine (XP0.out _ (by assumption)).mono ?_
  rintro e1 u1 ⟨rfl, hs0⟩
  refine hK.out _ _ hs0 (fun hHeld => ?_)
  clear hK K
  refine wpAnyH_take (i := 3) (oi := { dst := some 35, op := _, type := _, pos := _, after := _, guard := _ }) (v := ?v1_3) rfl (by kernel_rfl) (by kernel_rfl) (by kernel_rfl) (fun _ _ _ h => h) (Or.inl ⟨by rfl, ?hy1_3⟩) hHeld ?_
  case hy1_3 => (intro w hSw; (try dsimp only at hSw); go_simp; try with_reducible rfl)
  simp only [Act.put, List.setIfInBounds_toArray, List.set_cons_zero, List.set_cons_succ]
  refine wpAnyH_take (i := 4) (oi := { dst := some 36, op := _, type := _, pos := _, after := _, guard := _ }) (v := ?v1_4) rfl (by kernel_rfl) (by kernel_rfl) (by kernel_rfl) (fun _ _ _ h => h) (Or.inl ⟨by rfl, ?hy1_4⟩) hHeld ?_
  case hy1_4 => (intro w hSw; (try dsimp only at hSw); go_simp; try with_reducible rfl)
  simp only [Act.put, List.setIfInBounds_toArray, List.set_cons_zero, List.set_cons_succ]
  refine wpAnyH_take (i := 5) (oi := { dst := some 37, op := _, type := _, pos := _, after := _, guard := _ }) (v := ?v1_5) rfl (by kernel_rfl) (by kernel_rfl) (by kernel_rfl) (fun _ _ _ h => h) (Or.inl ⟨by rfl, ?hy1_5⟩) hHeld ?_
  case hy1_5 => (intro w hSw; (try dsimp only at hSw); go_simp; try with_reducible rfl)
  simp only [Act.put, List.setIfInBounds_toArray, List.set_cons_zero, List.set_cons_succ]
  refine wpAnyH_ready (rs := [6]) (by kernel_rfl) (by simp) ?_
  refine AllReadyH.cons (o := { dst := some 38, op := _, type := _, pos := _, after := _, guard := _ }) rfl (fun K hK => ?_) AllReadyH.nil
  go_simp
  go_at_call 10
  refine (XP1.out _ (by assumption)).mono ?_
  rintro e2 u2 ⟨rfl, hs1⟩
  refine hK.out _ _ hs1 (fun hHeld => ?_)
  clear hK K
  refine wpAnyH_take (i := 7) (oi := { dst := some 39, op := _, type := _, pos := _, after := _, guard := _ }) (v := ?v1_7) rfl (by kernel_rfl) (by kernel_rfl) (by kernel_rfl) (fun _ _ _ h => h) (Or.inl ⟨by rfl, ?hy1_7⟩) hHeld ?_
  case hy1_7 => (intro w hSw; (try dsimp only at hSw); go_simp; try with_reducible rfl)
  simp only [Act.put, List.setIfInBounds_toArray, List.set_cons_zero, List.set_cons_succ]
  refine wpAnyH_take (i := 8) (oi := { dst := some 40, op := _, type := _, pos := _, after := _, guard := _ }) (v := ?v1_8) rfl (by kernel_rfl) (by kernel_rfl) (by kernel_rfl) (fun _ _ _ h => h) (Or.inl ⟨by rfl, ?hy1_8⟩) hHeld ?_
  case hy1_8 => (intro w hSw; (try dsimp only at hSw); go_simp; try with_reducible rfl)
  simp only [Act.put, List.setIfInBounds_toArray, List.set_cons_zero, List.set_cons_succ]
  refine wpAnyH_take (i := 9) (oi := { dst := some 41, op := _, type := _, pos := _, after := _, guard := _ }) (v := ?v1_9) rfl (by kernel_rfl) (by kernel_rfl) (by kernel_rfl) (fun _ _ _ h => h) (Or.inl ⟨by rfl, ?hy1_9⟩) hHeld ?_
  case hy1_9 => (intro w hSw; (try dsimp only at hSw); go_simp; try with_reducible rfl)
  simp only [Act.put, List.setIfInBounds_toArray, List.set_cons_zero, List.set_cons_succ]
  refine wpAnyH_take (i := 10) (oi := { dst := some 42, op := _, type := _, pos := _, after := _, guard := _ }) (v := ?v1_10) rfl (by kernel_rfl) (by kernel_rfl) (by kernel_rfl) (fun _ _ _ h => h) (Or.inl ⟨by rfl, ?hy1_10⟩) hHeld ?_
  case hy1_10 => (intro w hSw; (try dsimp only at hSw); go_simp; try with_reducible rfl)
  simp only [Act.put, List.setIfInBounds_toArray, List.set_cons_zero, List.set_cons_succ]
  refine wpAnyH_ready (rs := [11]) (by kernel_rfl) (by simp) ?_
  refine AllReadyH.cons (o := { dst := some 43, op := _, type := _, pos := _, after := _, guard := _ }) rfl (fun K hK => ?_) AllReadyH.nil
  go_simp
  go_at_call 10
  refine (XP2.out _ (by assumption)).mono ?_
  rintro e3 u3 ⟨rfl, hs2⟩
  refine hK.out _ _ hs2 (fun hHeld => ?_)
  clear hK K
  refine wpAnyH_take (i := 12) (oi := { dst := some 44, op := _, type := _, pos := _, after := _, guard := _ }) (v := ?v1_12) rfl (by kernel_rfl) (by kernel_rfl) (by kernel_rfl) (fun _ _ _ h => h) (Or.inl ⟨by rfl, ?hy1_12⟩) hHeld ?_
  case hy1_12 => (intro w hSw; (try dsimp only at hSw); go_simp; try with_reducible rfl)
  simp only [Act.put, List.setIfInBounds_toArray, List.set_cons_zero, List.set_cons_succ]
  refine wpAnyH_take (i := 13) (oi := { dst := some 45, op := _, type := _, pos := _, after := _, guard := _ }) (v := ?v1_13) rfl (by kernel_rfl) (by kernel_rfl) (by kernel_rfl) (fun _ _ _ h => h) (Or.inl ⟨by rfl, ?hy1_13⟩) hHeld ?_
  case hy1_13 => (intro w hSw; (try dsimp only at hSw); go_simp; try with_reducible rfl)
  simp only [Act.put, List.setIfInBounds_toArray, List.set_cons_zero, List.set_cons_succ]
  refine wpAnyH_take (i := 14) (oi := { dst := some 46, op := _, type := _, pos := _, after := _, guard := _ }) (v := ?v1_14) rfl (by kernel_rfl) (by kernel_rfl) (by kernel_rfl) (fun _ _ _ h => h) (Or.inl ⟨by rfl, ?hy1_14⟩) hHeld ?_
  case hy1_14 => (intro w hSw; (try dsimp only at hSw); go_simp; try with_reducible rfl)
  simp only [Act.put, List.setIfInBounds_toArray, List.set_cons_zero, List.set_cons_succ]
  refine wpAnyH_take (i := 15) (oi := { dst := some 47, op := _, type := _, pos := _, after := _, guard := _ }) (v := ?v1_15) rfl (by kernel_rfl) (by kernel_rfl) (by kernel_rfl) (fun _ _ _ h => h) (Or.inl ⟨by rfl, ?hy1_15⟩) hHeld ?_
  case hy1_15 => (intro w hSw; (try dsimp only at hSw); go_simp; try with_reducible rfl)
  simp only [Act.put, List.setIfInBounds_toArray, List.set_cons_zero, List.set_cons_succ]
  refine wpAnyH_take (i := 16) (oi := { dst := some 48, op := _, type := _, pos := _, after := _, guard := _ }) (v := ?v1_16) rfl (by kernel_rfl) (by kernel_rfl) (by kernel_rfl) (fun _ _ _ h => h) (Or.inl ⟨by rfl, ?hy1_16⟩) hHeld ?_
  case hy1_16 => (intro w hSw; (try dsimp only at hSw); go_simp; try with_reducible rfl)
  simp only [Act.put, List.setIfInBounds_toArray, List.set_cons_zero, List.set_cons_succ]
  refine wpAnyH_take (i := 17) (oi := { dst := some 49, op := _, type := _, pos := _, after := _, guard := _ }) (v := ?v1_17) rfl (by kernel_rfl) (by kernel_rfl) (by kernel_rfl) (fun _ _ _ h => h) (Or.inl ⟨by rfl, ?hy1_17⟩) hHeld ?_
  case hy1_17 => (intro w hSw; (try dsimp only at hSw); go_simp; try with_reducible rfl)
  simp only [Act.put, List.setIfInBounds_toArray, List.set_cons_zero, List.set_cons_succ]
  refine wpAnyH_take (i := 18) (oi := { dst := some 50, op := _, type := _, pos := _, after := _, guard := _ }) (v := ?v1_18) rfl (by kernel_rfl) (by kernel_rfl) (by kernel_rfl) (fun _ _ _ h => h) (Or.inl ⟨by rfl, ?hy1_18⟩) hHeld ?_
  case hy1_18 => (intro w hSw; (try dsimp only at hSw); go_simp; try with_reducible rfl)
  simp only [Act.put, List.setIfInBounds_toArray, List.set_cons_zero, List.set_cons_succ]
  refine wpAnyH_take (i := 19) (oi := { dst := some 51, op := _, type := _, pos := _, after := _, guard := _ }) (v := ?v1_19) rfl (by kernel_rfl) (by kernel_rfl) (by kernel_rfl) (fun _ _ _ h => h) (Or.inl ⟨by rfl, ?hy1_19⟩) hHeld ?_
  case hy1_19 => (intro w hSw; (try dsimp only at hSw); go_simp; try with_reducible rfl)
  simp only [Act.put, List.setIfInBounds_toArray, List.set_cons_zero, List.set_cons_succ]
  refine wpAnyH_take (i := 20) (oi := { dst := some 52, op := _, type := _, pos := _, after := _, guard := _ }) (v := ?v1_20) rfl (by kernel_rfl) (by kernel_rfl) (by kernel_rfl) (fun _ _ _ h => h) (Or.inl ⟨by rfl, ?hy1_20⟩) hHeld ?_
  case hy1_20 => (intro w hSw; (try dsimp only at hSw); go_simp; try with_reducible rfl)
  simp only [Act.put, List.setIfInBounds_toArray, List.set_cons_zero, List.set_cons_succ]
  refine wpAnyH_take (i := 21) (oi := { dst := some 53, op := _, type := _, pos := _, after := _, guard := _ }) (v := ?v1_21) rfl (by kernel_rfl) (by kernel_rfl) (by kernel_rfl) (fun _ _ _ h => h) (Or.inl ⟨by rfl, ?hy1_21⟩) hHeld ?_
  case hy1_21 => (intro w hSw; (try dsimp only at hSw); go_simp; try with_reducible rfl)
  simp only [Act.put, List.setIfInBounds_toArray, List.set_cons_zero, List.set_cons_succ]
  refine wpAnyH_take (i := 22) (oi := { dst := some 54, op := _, type := _, pos := _, after := _, guard := _ }) (v := ?v1_22) rfl (by kernel_rfl) (by kernel_rfl) (by kernel_rfl) (fun _ _ _ h => h) (Or.inl ⟨by rfl, ?hy1_22⟩) hHeld ?_
  case hy1_22 => (intro w hSw; (try dsimp only at hSw); go_simp; try with_reducible rfl)
  simp only [Act.put, List.setIfInBounds_toArray, List.set_cons_zero, List.set_cons_succ]
  refine wpAnyH_take (i := 23) (oi := { dst := some 55, op := _, type := _, pos := _, after := _, guard := _ }) (v := ?v1_23) rfl (by kernel_rfl) (by kernel_rfl) (by kernel_rfl) (fun _ _ _ h => h) (Or.inl ⟨by rfl, ?hy1_23⟩) hHeld ?_
  case hy1_23 => (intro w hSw; (try dsimp only at hSw); go_simp; try with_reducible rfl)
  simp only [Act.put, List.setIfInBounds_toArray, List.set_cons_zero, List.set_cons_succ]
  refine wpAnyH_take (i := 24) (oi := { dst := some 56, op := _, type := _, pos := _, after := _, guard := _ }) (v := ?v1_24) rfl (by kernel_rfl) (by kernel_rfl) (by kernel_rfl) (fun _ _ _ h => h) (Or.inl ⟨by rfl, ?hy1_24⟩) hHeld ?_
  case hy1_24 => (intro w hSw; (try dsimp only at hSw); go_simp; try with_reducible rfl)
  simp only [Act.put, List.setIfInBounds_toArray, List.set_cons_zero, List.set_cons_succ]
  refine wpAnyH_take (i := 25) (oi := { dst := some 57, op := _, type := _, pos := _, after := _, guard := _ }) (v := ?v1_25) rfl (by kernel_rfl) (by kernel_rfl) (by kernel_rfl) (fun _ _ _ h => h) (Or.inl ⟨by rfl, ?hy1_25⟩) hHeld ?_
  case hy1_25 => (intro w hSw; (try dsimp only at hSw); go_simp; try with_reducible rfl)
  simp only [Act.put, List.setIfInBounds_toArray, List.set_cons_zero, List.set_cons_succ]
  refine wpAnyH_take (i := 26) (oi := { dst := some 58, op := _, type := _, pos := _, after := _, guard := _ }) (v := ?v1_26) rfl (by kernel_rfl) (by kernel_rfl) (by kernel_rfl) (fun _ _ _ h => h) (Or.inl ⟨by rfl, ?hy1_26⟩) hHeld ?_
  case hy1_26 => (intro w hSw; (try dsimp only at hSw); go_simp; try with_reducible rfl)
  simp only [Act.put, List.setIfInBounds_toArray, List.set_cons_zero, List.set_cons_succ]
  refine wpAnyH_take (i := 27) (oi := { dst := some 59, op := _, type := _, pos := _, after := _, guard := _ }) (v := ?v1_27) rfl (by kernel_rfl) (by kernel_rfl) (by kernel_rfl) (fun _ _ _ h => h) (Or.inl ⟨by rfl, ?hy1_27⟩) hHeld ?_
  case hy1_27 => (intro w hSw; (try dsimp only at hSw); go_simp; try with_reducible rfl)
  simp only [Act.put, List.setIfInBounds_toArray, List.set_cons_zero, List.set_cons_succ]
  refine wpAnyH_take (i := 28) (oi := { dst := some 60, op := _, type := _, pos := _, after := _, guard := _ }) (v := ?v1_28) rfl (by kernel_rfl) (by kernel_rfl) (by kernel_rfl) (fun _ _ _ h => h) (Or.inl ⟨by rfl, ?hy1_28⟩) hHeld ?_
  case hy1_28 => (intro w hSw; (try dsimp only at hSw); go_simp; try with_reducible rfl)
  simp only [Act.put, List.setIfInBounds_toArray, List.set_cons_zero, List.set_cons_succ]
  refine wpAnyH_take (i := 29) (oi := { dst := some 61, op := _, type := _, pos := _, after := _, guard := _ }) (v := ?v1_29) rfl (by kernel_rfl) (by kernel_rfl) (by kernel_rfl) (fun _ _ _ h => h) (Or.inl ⟨by rfl, ?hy1_29⟩) hHeld ?_
  case hy1_29 => (intro w hSw; (try dsimp only at hSw); go_simp; try with_reducible rfl)
  simp only [Act.put, List.setIfInBounds_toArray, List.set_cons_zero, List.set_cons_succ]
  refine wpAnyH_take (i := 30) (oi := { dst := some 62, op := _, type := _, pos := _, after := _, guard := _ }) (v := ?v1_30) rfl (by kernel_rfl) (by kernel_rfl) (by kernel_rfl) (fun _ _ _ h => h) (Or.inl ⟨by rfl, ?hy1_30⟩) hHeld ?_
  case hy1_30 => (intro w hSw; (try dsimp only at hSw); go_simp; try with_reducible rfl)
  simp only [Act.put, List.setIfInBounds_toArray, List.set_cons_zero, List.set_cons_succ]
  refine wpAnyH_take (i := 31) (oi := { dst := some 63, op := _, type := _, pos := _, after := _, guard := _ }) (v := ?v1_31) rfl (by kernel_rfl) (by kernel_rfl) (by kernel_rfl) (fun _ _ _ h => h) (Or.inl ⟨by rfl, ?hy1_31⟩) hHeld ?_
  case hy1_31 => (intro w hSw; (try dsimp only at hSw); go_simp; try with_reducible rfl)
  simp only [Act.put, List.setIfInBounds_toArray, List.set_cons_zero, List.set_cons_succ]
  refine wpAnyH_take (i := 32) (oi := { dst := some 64, op := _, type := _, pos := _, after := _, guard := _ }) (v := ?v1_32) rfl (by kernel_rfl) (by kernel_rfl) (by kernel_rfl) (fun _ _ _ h => h) (Or.inl ⟨by rfl, ?hy1_32⟩) hHeld ?_
  case hy1_32 => (intro w hSw; (try dsimp only at hSw); go_simp; try with_reducible rfl)
  simp only [Act.put, List.setIfInBounds_toArray, List.set_cons_zero, List.set_cons_succ]
  refine wpAnyH_take (i := 33) (oi := { dst := some 65, op := _, type := _, pos := _, after := _, guard := _ }) (v := ?v1_33) rfl (by kernel_rfl) (by kernel_rfl) (by kernel_rfl) (fun _ _ _ h => h) (Or.inl ⟨by rfl, ?hy1_33⟩) hHeld ?_
  case hy1_33 => (intro w hSw; (try dsimp only at hSw); go_simp; try with_reducible rfl)
  simp only [Act.put, List.setIfInBounds_toArray, List.set_cons_zero, List.set_cons_succ]
  refine wpAnyH_take (i := 34) (oi := { dst := some 66, op := _, type := _, pos := _, after := _, guard := _ }) (v := ?v1_34) rfl (by kernel_rfl) (by kernel_rfl) (by kernel_rfl) (fun _ _ _ h => h) (Or.inl ⟨by rfl, ?hy1_34⟩) hHeld ?_
  case hy1_34 => (intro w hSw; (try dsimp only at hSw); go_simp; try with_reducible rfl)
  simp only [Act.put, List.setIfInBounds_toArray, List.set_cons_zero, List.set_cons_succ]
  refine wpAnyH_take (i := 35) (oi := { dst := some 67, op := _, type := _, pos := _, after := _, guard := _ }) (v := ?v1_35) rfl (by kernel_rfl) (by kernel_rfl) (by kernel_rfl) (fun _ _ _ h => h) (Or.inl ⟨by rfl, ?hy1_35⟩) hHeld ?_
  case hy1_35 => (intro w hSw; (try dsimp only at hSw); go_simp; try with_reducible rfl)
  simp only [Act.put, List.setIfInBounds_toArray, List.set_cons_zero, List.set_cons_succ]
  refine wpAnyH_take (i := 36) (oi := { dst := some 68, op := _, type := _, pos := _, after := _, guard := _ }) (v := ?v1_36) rfl (by kernel_rfl) (by kernel_rfl) (by kernel_rfl) (fun _ _ _ h => h) (Or.inl ⟨by rfl, ?hy1_36⟩) hHeld ?_
  case hy1_36 => (intro w hSw; (try dsimp only at hSw); go_simp; try with_reducible rfl)
  simp only [Act.put, List.setIfInBounds_toArray, List.set_cons_zero, List.set_cons_succ]
  refine wpAnyH_take (i := 37) (oi := { dst := some 69, op := _, type := _, pos := _, after := _, guard := _ }) (v := ?v1_37) rfl (by kernel_rfl) (by kernel_rfl) (by kernel_rfl) (fun _ _ _ h => h) (Or.inl ⟨by rfl, ?hy1_37⟩) hHeld ?_
  case hy1_37 => (intro w hSw; (try dsimp only at hSw); go_simp; try with_reducible rfl)
  simp only [Act.put, List.setIfInBounds_toArray, List.set_cons_zero, List.set_cons_succ]
  refine wpAnyH_take (i := 38) (oi := { dst := some 70, op := _, type := _, pos := _, after := _, guard := _ }) (v := ?v1_38) rfl (by kernel_rfl) (by kernel_rfl) (by kernel_rfl) (fun _ _ _ h => h) (Or.inl ⟨by rfl, ?hy1_38⟩) hHeld ?_
  case hy1_38 => (intro w hSw; (try dsimp only at hSw); go_simp; try with_reducible rfl)
  simp only [Act.put, List.setIfInBounds_toArray, List.set_cons_zero, List.set_cons_succ]
  refine wpAnyH_take (i := 39) (oi := { dst := some 71, op := _, type := _, pos := _, after := _, guard := _ }) (v := ?v1_39) rfl (by kernel_rfl) (by kernel_rfl) (by kernel_rfl) (fun _ _ _ h => h) (Or.inl ⟨by rfl, ?hy1_39⟩) hHeld ?_
  case hy1_39 => (intro w hSw; (try dsimp only at hSw); go_simp; try with_reducible rfl)
  simp only [Act.put, List.setIfInBounds_toArray, List.set_cons_zero, List.set_cons_succ]
  refine wpAnyH_take (i := 40) (oi := { dst := some 72, op := _, type := _, pos := _, after := _, guard := _ }) (v := ?v1_40) rfl (by kernel_rfl) (by kernel_rfl) (by kernel_rfl) (fun _ _ _ h => h) (Or.inl ⟨by rfl, ?hy1_40⟩) hHeld ?_
  case hy1_40 => (intro w hSw; (try dsimp only at hSw); go_simp; try with_reducible rfl)
  simp only [Act.put, List.setIfInBounds_toArray, List.set_cons_zero, List.set_cons_succ]
  refine wpAnyH_take (i := 41) (oi := { dst := some 73, op := _, type := _, pos := _, after := _, guard := _ }) (v := ?v1_41) rfl (by kernel_rfl) (by kernel_rfl) (by kernel_rfl) (fun _ _ _ h => h) (Or.inl ⟨by rfl, ?hy1_41⟩) hHeld ?_
  case hy1_41 => (intro w hSw; (try dsimp only at hSw); go_simp; try with_reducible rfl)
  simp only [Act.put, List.setIfInBounds_toArray, List.set_cons_zero, List.set_cons_succ]
  refine wpAnyH_take (i := 42) (oi := { dst := some 74, op := _, type := _, pos := _, after := _, guard := _ }) (v := ?v1_42) rfl (by kernel_rfl) (by kernel_rfl) (by kernel_rfl) (fun _ _ _ h => h) (Or.inl ⟨by rfl, ?hy1_42⟩) hHeld ?_
  case hy1_42 => (intro w hSw; (try dsimp only at hSw); go_simp; try with_reducible rfl)
  simp only [Act.put, List.setIfInBounds_toArray, List.set_cons_zero, List.set_cons_succ]
  refine wpAnyH_take (i := 43) (oi := { dst := some 75, op := _, type := _, pos := _, after := _, guard := _ }) (v := ?v1_43) rfl (by kernel_rfl) (by kernel_rfl) (by kernel_rfl) (fun _ _ _ h => h) (Or.inl ⟨by rfl, ?hy1_43⟩) hHeld ?_
  case hy1_43 => (intro w hSw; (try dsimp only at hSw); go_simp; try with_reducible rfl)
  simp only [Act.put, List.setIfInBounds_toArray, List.set_cons_zero, List.set_cons_succ]
  refine wpAnyH_take (i := 44) (oi := { dst := some 76, op := _, type := _, pos := _, after := _, guard := _ }) (v := ?v1_44) rfl (by kernel_rfl) (by kernel_rfl) (by kernel_rfl) (fun _ _ _ h => h) (Or.inl ⟨by rfl, ?hy1_44⟩) hHeld ?_
  case hy1_44 => (intro w hSw; (try dsimp only at hSw); go_simp; try with_reducible rfl)
  simp only [Act.put, List.setIfInBounds_toArray, List.set_cons_zero, List.set_cons_succ]
  refine wpAnyH_take (i := 45) (oi := { dst := some 77, op := _, type := _, pos := _, after := _, guard := _ }) (v := ?v1_45) rfl (by kernel_rfl) (by kernel_rfl) (by kernel_rfl) (fun _ _ _ h => h) (Or.inl ⟨by rfl, ?hy1_45⟩) hHeld ?_
  case hy1_45 => (intro w hSw; (try dsimp only at hSw); go_simp; try with_reducible rfl)
  simp only [Act.put, List.setIfInBounds_toArray, List.set_cons_zero, List.set_cons_succ]
  refine wpAnyH_take (i := 46) (oi := { dst := some 78, op := _, type := _, pos := _, after := _, guard := _ }) (v := ?v1_46) rfl (by kernel_rfl) (by kernel_rfl) (by kernel_rfl) (fun _ _ _ h => h) (Or.inl ⟨by rfl, ?hy1_46⟩) hHeld ?_
  case hy1_46 => (intro w hSw; (try dsimp only at hSw); go_simp; try with_reducible rfl)
  simp only [Act.put, List.setIfInBounds_toArray, List.set_cons_zero, List.set_cons_succ]
  refine wpAnyH_take (i := 47) (oi := { dst := some 0, op := _, type := _, pos := _, after := _, guard := _ }) (v := ?v1_47) rfl (by kernel_rfl) (by kernel_rfl) (by kernel_rfl) (fun _ _ _ h => h) (Or.inl ⟨by rfl, ?hy1_47⟩) hHeld ?_
  case hy1_47 => (intro w hSw; (try dsimp only at hSw); go_simp; try with_reducible rfl)
  simp only [Act.put, List.setIfInBounds_toArray, List.set_cons_zero]
  refine wpAnyH_done (by kernel_rfl) ?_ _
  go_wp2_with fail
  go_ret
  exact ⟨rfl, below_on B3.out hs2.2.2.2.2.2.2.2.2.2.2.2.2.2.2.2.2.2.2.2.2.2.2.2.2.2.2.2.2⟩
end Go.Proofs.Ytomoaolomddidaa
