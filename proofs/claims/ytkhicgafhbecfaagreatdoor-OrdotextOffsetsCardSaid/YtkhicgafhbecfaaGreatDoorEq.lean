/- The reference: Texts, SameEntry, Same of equal calendars. -/
import Derived.Test.YtkhicgafhbecfaaGreatDoorEp
namespace Go.Proofs.YtkhicgafhbecfaaGreatDoor
open Go.RowKit

set_option maxRecDepth 100000 in
theorem r23txt {v1 v2 : Value} {xs : List ByteArray} {w : World} (h1 : TxAt w v1 xs) (h2 : TxAt w v2 xs) (hl : xs.length ≤ 1000000) : Calls Tryz.prog 42 #[v1, v2] w fun e w' => e = .returned (.bool true) ∧ Below w.heap.size w w' := by
  obtain ⟨A1, c1, rfl, _, _, a1⟩ := h1
  obtain ⟨A2, c2, rfl, _, _, a2⟩ := h2
  have Q1 := Lib.hid a1
  have Q2 := Lib.hid a2
  clear a1 a2
  go_enter Tryz.func42, Tryz.ntmps42
  go_wp2_with fail
  go_loopw [5] (fun i wr => ∃ k : Nat, k ≤ xs.length ∧ i = .int .i64 k ∧ Below w.heap.size w wr) (fun i _ => xs.length - (intOf i).toNat)
  case atStart => exact ⟨0, Nat.zero_le _, rfl, Below.refl _ _⟩
  case round =>
    obtain ⟨k, hk, rfl, hb⟩ := hrel
    by_cases hlt : k < xs.length
    · obtain ⟨s, hs⟩ : ∃ s, xs[k]? = some s := ⟨_, List.getElem?_eq_getElem hlt⟩
      obtain ⟨b1, o1, rfl, l1, g1⟩ := Q1.out k s hs
      obtain ⟨b2, o2, rfl, l2, g2⟩ := Q2.out k s hs
      have k1 : wr.cell? ⟨b1, o1 + k, none⟩ = some (.string s) := by rw [hb.cell l1]; exact g1
      have k2 : wr.cell? ⟨b2, o2 + k, none⟩ = some (.string s) := by rw [hb.cell l2]; exact g2
      have HB := Lib.hid hb
      clear hb hs g1 g2 l1 l2
      go_wp2_with fail
      go_quiet (fail)
      go_wp2_with fail
      go_roundw
      case rel => exact ⟨k + 1, by omega, by go_num, below_dn HB.out _⟩
      case measure => simp [intOf]; omega
    · obtain rfl : k = xs.length := by omega
      go_wp2_with fail
      go_ret
      exact ⟨rfl, hb⟩
theorem eq_dat (a b c : Int) (u : World) : (binOp .eql 37 (.agg #[.int .i64 a, .int .i64 b, .int .i64 c]) (.agg #[.int .i64 a, .int .i64 b, .int .i64 c])).run Tryz.prog u = .ok (.bool true) u := by simp [go_sem]
set_option maxRecDepth 100000 in
set_option maxHeartbeats 1000000 in
theorem r23ent {ey em ed ewd ewk eki erk efy efm efd : Int} {ese epr : ByteArray} {co om : List ByteArray} {vc vo vc' vo' : Value} {w : World} (h1 : TxAt w vc co) (h2 : TxAt w vo om) (h3 : TxAt w vc' co) (h4 : TxAt w vo' om) (hc : co.length ≤ 1000000) (hm : om.length ≤ 1000000) :
    Calls Tryz.prog 18 #[.agg #[.int .i64 ey, .int .i64 em, .int .i64 ed, .int .i64 ewd, .string ese, .int .i64 ewk, .int .i64 eki, .string epr, .int .i64 erk, .int .i64 efy, .int .i64 efm, .int .i64 efd, vc, vo], .agg #[.int .i64 ey, .int .i64 em, .int .i64 ed, .int .i64 ewd, .string ese, .int .i64 ewk, .int .i64 eki, .string epr, .int .i64 erk, .int .i64 efy, .int .i64 efm, .int .i64 efd, vc', vo']] w fun e w' => e = .returned (.bool true) ∧ Below w.heap.size w w' := by
  have B0 := Lib.hid (al2 w (.cells #[.int .i64 ey, .int .i64 em, .int .i64 ed, .int .i64 ewd, .string ese, .int .i64 ewk, .int .i64 eki, .string epr, .int .i64 erk, .int .i64 efy, .int .i64 efm, .int .i64 efd, vc, vo] 40) (.cells #[.int .i64 ey, .int .i64 em, .int .i64 ed, .int .i64 ewd, .string ese, .int .i64 ewk, .int .i64 eki, .string epr, .int .i64 erk, .int .i64 efy, .int .i64 efm, .int .i64 efd, vc', vo'] 40))
  have R0 := Lib.hid (heap_alloc2_old w (.cells #[.int .i64 ey, .int .i64 em, .int .i64 ed, .int .i64 ewd, .string ese, .int .i64 ewk, .int .i64 eki, .string epr, .int .i64 erk, .int .i64 efy, .int .i64 efm, .int .i64 efd, vc, vo] 40) (.cells #[.int .i64 ey, .int .i64 em, .int .i64 ed, .int .i64 ewd, .string ese, .int .i64 ewk, .int .i64 eki, .string epr, .int .i64 erk, .int .i64 efy, .int .i64 efm, .int .i64 efd, vc', vo'] 40))
  have R1 := Lib.hid (heap_alloc2_new w (.cells #[.int .i64 ey, .int .i64 em, .int .i64 ed, .int .i64 ewd, .string ese, .int .i64 ewk, .int .i64 eki, .string epr, .int .i64 erk, .int .i64 efy, .int .i64 efm, .int .i64 efd, vc, vo] 40) (.cells #[.int .i64 ey, .int .i64 em, .int .i64 ed, .int .i64 ewd, .string ese, .int .i64 ewk, .int .i64 eki, .string epr, .int .i64 erk, .int .i64 efy, .int .i64 efm, .int .i64 efd, vc', vo'] 40))
  have X1 := Lib.hid (h1.on B0.out)
  have X2 := Lib.hid (h2.on B0.out)
  have X3 := Lib.hid (h3.on B0.out)
  have X4 := Lib.hid (h4.on B0.out)
  have HT := Lib.hid (fun (u : World) (a b : Value) (xs : List ByteArray) (p : TxAt u a xs) (q : TxAt u b xs) (l : xs.length ≤ 1000000) => r23txt p q l)
  have H1 := eq_dat ey em ed
  have H2 := eq_dat efy efm efd
  obtain ⟨A1, c1, rfl, -⟩ := h1
  obtain ⟨A2, c2, rfl, -⟩ := h2
  obtain ⟨A3, c3, rfl, -⟩ := h3
  obtain ⟨A4, c4, rfl, -⟩ := h4
  obtain ⟨p0, p1, p2, p3, p4, p5, p6, p7, p8, p9, p10, p11, p12, p13⟩ := row14 R0.out
  obtain ⟨q0, q1, q2, q3, q4, q5, q6, q7, q8, q9, q10, q11, q12, q13⟩ := row14 R1.out
  go_enter Tryz.func18, Tryz.ntmps18
  go_wp2_with fail
  clear p0 q0 p1 q1 p2 q2 p3 q3 p4 q4 p5 q5 p6 q6 p7 q7 p8 q8 p9 q9 p10 q10 p11 q11 p12 q12 p13 q13
  refine (HT.out _ _ _ co X1.out X3.out hc).mono ?_
  rintro e u1 ⟨rfl, hb⟩
  have B1 := Lib.hid (below_on B0.out hb)
  have X2 := Lib.hid (X2.out.on hb)
  have X4 := Lib.hid (X4.out.on hb)
  obtain ⟨p0, p1, p2, p3, p4, p5, p6, p7, p8, p9, p10, p11, p12, p13⟩ := row14 (row_kept R0.out hb)
  obtain ⟨q0, q1, q2, q3, q4, q5, q6, q7, q8, q9, q10, q11, q12, q13⟩ := row14 (row_kept R1.out hb)
  clear hb
  go_wp2_with fail
  clear p0 q0 p1 q1 p2 q2 p3 q3 p4 q4 p5 q5 p6 q6 p7 q7 p8 q8 p9 q9 p10 q10 p11 q11 p12 q12 p13 q13
  refine (HT.out _ _ _ om X2.out X4.out hm).mono ?_
  rintro e u2 ⟨rfl, hb⟩
  have B2x := Lib.hid (below_on B1.out hb)
  clear hb
  go_wp2_with fail
  go_ret
  exact ⟨ret_bool (by simp), B2x.out⟩
set_option maxRecDepth 100000 in
set_option maxHeartbeats 2000000 in
theorem r23same {yr : Int} {v v' : Value} {l l' : List Enz} {w : World} (h : KlAt w v l) (h' : KlAt w v' l') (he : l.map Enz.e = l'.map Enz.e) (hl : l.length ≤ 1000000) (hx : ∀ e ∈ l.map Enz.e, e.co.length ≤ 1000000 ∧ e.om.length ≤ 1000000) :
    Calls Tryz.prog 11 #[.agg #[.int .i64 yr, v], .agg #[.int .i64 yr, v']] w fun e w' => e = .returned (.bool true) ∧ Below w.heap.size w w' := by
  have hlen : l'.length = l.length := by have := congrArg List.length he; simpa using this.symm
  have hz : ∀ (i : Nat) (z z' : Enz), l[i]? = some z → l'[i]? = some z' → z.e = z'.e := fun i z z' h1 h2 => by
    have : (l.map Enz.e)[i]? = (l'.map Enz.e)[i]? := by rw [he]
    rw [List.getElem?_map, List.getElem?_map, h1, h2] at this
    simpa using this
  have B0 := Lib.hid (al2 w (.cells #[.int .i64 yr, v] 25) (.cells #[.int .i64 yr, v'] 25))
  have R0 := Lib.hid (heap_alloc2_old w (.cells #[.int .i64 yr, v] 25) (.cells #[.int .i64 yr, v'] 25))
  have R1 := Lib.hid (heap_alloc2_new w (.cells #[.int .i64 yr, v] 25) (.cells #[.int .i64 yr, v'] 25))
  obtain ⟨A1, c1, rfl, _, _, a1⟩ := h
  obtain ⟨A2, c2, rfl, _, _, a2⟩ := h'
  have Q1 := Lib.hid a1
  have Q2 := Lib.hid a2
  have HZ := Lib.hid hz
  have HXX := Lib.hid hx
  clear a1 a2 hz he hx
  rw [hlen] at R1 B0 R0 ⊢
  have hlen := Lib.hid hlen
  go_enter Tryz.func11, Tryz.ntmps11
  go_wp2_with fail
  obtain ⟨W, hW⟩ : ∃ W, W = (w.alloc (.cells #[.int .i64 yr, .slice A1 l.length c1] 25)).alloc (.cells #[.int .i64 yr, .slice A2 l.length c2] 25) := ⟨_, rfl⟩
  rw [← hW] at B0 R0 R1 ⊢
  clear hW
  go_loopw [5] (fun i wr => ∃ k : Nat, k ≤ l.length ∧ i = .int .i64 k ∧ Below W.heap.size W wr) (fun i _ => l.length - (intOf i).toNat)
  case atStart => exact ⟨0, Nat.zero_le _, rfl, Below.refl _ _⟩
  case round =>
    obtain ⟨k, hk, rfl, hb⟩ := hrel
    have bc := below_on B0.out hb
    have r0 : wr.cell? ⟨w.heap.size, 1, none⟩ = some (.slice A1 l.length c1) := by rw [cell_of_row _ _ _ _ _ _ (row_kept R0.out hb)]; rfl
    have r1 : wr.cell? ⟨w.heap.size + 1, 1, none⟩ = some (.slice A2 l.length c2) := by rw [cell_of_row _ _ _ _ _ _ (row_kept R1.out hb)]; rfl
    by_cases hlt : k < l.length
    · obtain ⟨z, hz⟩ : ∃ z, l[k]? = some z := ⟨_, List.getElem?_eq_getElem hlt⟩
      obtain ⟨z', hz'⟩ : ∃ z, l'[k]? = some z := ⟨_, List.getElem?_eq_getElem (by rw [hlen.out]; exact hlt)⟩
      have hee := HZ.out k z z' hz hz'
      have hxx := HXX.out z.e (List.mem_map.2 ⟨z, List.mem_of_getElem? hz, rfl⟩)
      obtain ⟨⟨b1, o1, rfl, l1, g1⟩, t1, t2⟩ := Q1.out k z hz
      obtain ⟨⟨b2, o2, rfl, l2, g2⟩, t3, t4⟩ := Q2.out k z' hz'
      obtain ⟨⟨ey, em, ed, ewd, ese, ewk, eki, epr, erk, efy, efm, efd, eco, eom⟩, vc, vo⟩ := z
      obtain ⟨e2, vc', vo'⟩ := z'
      obtain rfl : e2 = ⟨ey, em, ed, ewd, ese, ewk, eki, epr, erk, efy, efm, efd, eco, eom⟩ := hee.symm
      have g1 : ∀ j, j < 14 → wr.cell? ⟨b1, o1 + k * 14 + j, none⟩ = _ := fun j hj => (bc.cell l1).trans (g1 j hj)
      have g2 : ∀ j, j < 14 → wr.cell? ⟨b2, o2 + k * 14 + j, none⟩ = _ := fun j hj => (bc.cell l2).trans (g2 j hj)
      have p0 := g1 0 (by omega)
      have q0 := g2 0 (by omega)
      simp only [Enz.vals, List.getElem?_cons_zero, Nat.add_zero] at p0 q0
      have p1 := g1 1 (by omega)
      have q1 := g2 1 (by omega)
      simp only [Enz.vals, List.getElem?_cons_succ, List.getElem?_cons_zero] at p1 q1
      have p2 := g1 2 (by omega)
      have q2 := g2 2 (by omega)
      simp only [Enz.vals, List.getElem?_cons_succ, List.getElem?_cons_zero] at p2 q2
      have p3 := g1 3 (by omega)
      have q3 := g2 3 (by omega)
      simp only [Enz.vals, List.getElem?_cons_succ, List.getElem?_cons_zero] at p3 q3
      have p4 := g1 4 (by omega)
      have q4 := g2 4 (by omega)
      simp only [Enz.vals, List.getElem?_cons_succ, List.getElem?_cons_zero] at p4 q4
      have p5 := g1 5 (by omega)
      have q5 := g2 5 (by omega)
      simp only [Enz.vals, List.getElem?_cons_succ, List.getElem?_cons_zero] at p5 q5
      have p6 := g1 6 (by omega)
      have q6 := g2 6 (by omega)
      simp only [Enz.vals, List.getElem?_cons_succ, List.getElem?_cons_zero] at p6 q6
      have p7 := g1 7 (by omega)
      have q7 := g2 7 (by omega)
      simp only [Enz.vals, List.getElem?_cons_succ, List.getElem?_cons_zero] at p7 q7
      have p8 := g1 8 (by omega)
      have q8 := g2 8 (by omega)
      simp only [Enz.vals, List.getElem?_cons_succ, List.getElem?_cons_zero] at p8 q8
      have p9 := g1 9 (by omega)
      have q9 := g2 9 (by omega)
      simp only [Enz.vals, List.getElem?_cons_succ, List.getElem?_cons_zero] at p9 q9
      have p10 := g1 10 (by omega)
      have q10 := g2 10 (by omega)
      simp only [Enz.vals, List.getElem?_cons_succ, List.getElem?_cons_zero] at p10 q10
      have p11 := g1 11 (by omega)
      have q11 := g2 11 (by omega)
      simp only [Enz.vals, List.getElem?_cons_succ, List.getElem?_cons_zero] at p11 q11
      have p12 := g1 12 (by omega)
      have q12 := g2 12 (by omega)
      simp only [Enz.vals, List.getElem?_cons_succ, List.getElem?_cons_zero] at p12 q12
      have p13 := g1 13 (by omega)
      have q13 := g2 13 (by omega)
      simp only [Enz.vals, List.getElem?_cons_succ, List.getElem?_cons_zero] at p13 q13
      have HE := Lib.hid (fun u (hu : Below w.heap.size w u) => r23ent (ey := ey) (em := em) (ed := ed) (ewd := ewd) (ese := ese) (ewk := ewk) (eki := eki) (epr := epr) (erk := erk) (efy := efy) (efm := efm) (efd := efd) (t1.on hu) (t2.on hu) (t3.on hu) (t4.on hu) hxx.1 hxx.2)
      clear g1 g2 t1 t2 t3 t4 hz hz' hxx l1 l2
      have HBc := Lib.hid bc
      have HB := Lib.hid hb
      clear bc hb
      have lr0 := row_lt (row_kept R0.out HB.out)
      have lr1 := row_lt (row_kept R1.out HB.out)
      have lb1 : b1 < wr.heap.size := World.block_lt_of_cell? wr _ p0
      have lb2 : b2 < wr.heap.size := World.block_lt_of_cell? wr _ q0
      go_wp2_with fail
      refine wp_region_held_drew (S := fun u => Below wr.heap.size wr u) (by kernel_rfl) (below_dn (Below.refl _ _) 1) (fun hHeld => ?_)
      refine wpAnyH_take (i := 0) (oi := { dst := some 27, op := _, type := _, pos := _, after := _, guard := _ }) (v := ?v1_0) rfl (by kernel_rfl) (by kernel_rfl) (by kernel_rfl) (fun _ _ _ h => h) (Or.inl ⟨by rfl, ?hy1_0⟩) hHeld ?_
      case hy1_0 => (intro wq hSw; skip; go_simp; try with_reducible rfl)
      simp only [Act.put, List.setIfInBounds_toArray, List.set_cons_zero, List.set_cons_succ]
      refine wpAnyH_take (i := 2) (oi := { dst := some 29, op := _, type := _, pos := _, after := _, guard := _ }) (v := ?v1_2) rfl (by kernel_rfl) (by kernel_rfl) (by kernel_rfl) (fun _ _ _ h => h) (Or.inl ⟨by rfl, ?hy1_2⟩) hHeld ?_
      case hy1_2 => (intro wq hSw; skip; go_simp; try with_reducible rfl)
      simp only [Act.put, List.setIfInBounds_toArray, List.set_cons_zero, List.set_cons_succ]
      refine wpAnyH_take (i := 5) (oi := { dst := some 32, op := _, type := _, pos := _, after := _, guard := _ }) (v := ?v1_5) rfl (by kernel_rfl) (by kernel_rfl) (by kernel_rfl) (fun _ _ _ h => h) (Or.inl ⟨by rfl, ?hy1_5⟩) hHeld ?_
      case hy1_5 => (intro wq hSw; skip; go_simp; try with_reducible rfl)
      simp only [Act.put, List.setIfInBounds_toArray, List.set_cons_zero, List.set_cons_succ]
      refine wpAnyH_take (i := 7) (oi := { dst := some 34, op := _, type := _, pos := _, after := _, guard := _ }) (v := ?v1_7) rfl (by kernel_rfl) (by kernel_rfl) (by kernel_rfl) (fun _ _ _ h => h) (Or.inl ⟨by rfl, ?hy1_7⟩) hHeld ?_
      case hy1_7 => (intro wq hSw; skip; go_simp; try with_reducible rfl)
      simp only [Act.put, List.setIfInBounds_toArray, List.set_cons_zero, List.set_cons_succ]
      refine wpAnyH_take (i := 1) (oi := { dst := some 28, op := _, type := _, pos := _, after := _, guard := _ }) (v := ?v1_1) rfl (by kernel_rfl) (by kernel_rfl) (by kernel_rfl) (fun _ _ _ h => h) (Or.inl ⟨by rfl, ?hy1_1⟩) hHeld ?_
      case hy1_1 => (intro wq hSw; have s1 := (hSw.cell (p := ⟨w.heap.size, 1, none⟩) lr0).trans r0; go_simp; try with_reducible rfl)
      simp only [Act.put, List.setIfInBounds_toArray, List.set_cons_zero, List.set_cons_succ]
      refine wpAnyH_take (i := 6) (oi := { dst := some 33, op := _, type := _, pos := _, after := _, guard := _ }) (v := ?v1_6) rfl (by kernel_rfl) (by kernel_rfl) (by kernel_rfl) (fun _ _ _ h => h) (Or.inl ⟨by rfl, ?hy1_6⟩) hHeld ?_
      case hy1_6 => (intro wq hSw; have s1 := (hSw.cell (p := ⟨w.heap.size + 1, 1, none⟩) lr1).trans r1; go_simp; try with_reducible rfl)
      simp only [Act.put, List.setIfInBounds_toArray, List.set_cons_zero, List.set_cons_succ]
      refine wpAnyH_take (i := 3) (oi := { dst := some 30, op := _, type := _, pos := _, after := _, guard := _ }) (v := ?v1_3) rfl (by kernel_rfl) (by kernel_rfl) (by kernel_rfl) (fun _ _ _ h => h) (Or.inl ⟨by rfl, ?hy1_3⟩) hHeld ?_
      case hy1_3 => (intro wq hSw; skip; go_simp; try with_reducible rfl)
      simp only [Act.put, List.setIfInBounds_toArray, List.set_cons_zero, List.set_cons_succ]
      refine wpAnyH_take (i := 8) (oi := { dst := some 35, op := _, type := _, pos := _, after := _, guard := _ }) (v := ?v1_8) rfl (by kernel_rfl) (by kernel_rfl) (by kernel_rfl) (fun _ _ _ h => h) (Or.inl ⟨by rfl, ?hy1_8⟩) hHeld ?_
      case hy1_8 => (intro wq hSw; skip; go_simp; try with_reducible rfl)
      simp only [Act.put, List.setIfInBounds_toArray, List.set_cons_zero, List.set_cons_succ]
      refine wpAnyH_take (i := 4) (oi := { dst := some 31, op := _, type := _, pos := _, after := _, guard := _ }) (v := ?v1_4) rfl (by kernel_rfl) (by kernel_rfl) (by kernel_rfl) (fun _ _ _ h => h) (Or.inl ⟨by rfl, ?hy1_4⟩) hHeld ?_
      case hy1_4 => (intro wq hSw; have s0 := (hSw.cell (p := ⟨b1, o1 + k * 14, none⟩) lb1).trans p0; have s1 := (hSw.cell (p := ⟨b1, o1 + k * 14 + 1, none⟩) lb1).trans p1; have s2 := (hSw.cell (p := ⟨b1, o1 + k * 14 + 2, none⟩) lb1).trans p2; have s3 := (hSw.cell (p := ⟨b1, o1 + k * 14 + 3, none⟩) lb1).trans p3; have s4 := (hSw.cell (p := ⟨b1, o1 + k * 14 + 4, none⟩) lb1).trans p4; have s5 := (hSw.cell (p := ⟨b1, o1 + k * 14 + 5, none⟩) lb1).trans p5; have s6 := (hSw.cell (p := ⟨b1, o1 + k * 14 + 6, none⟩) lb1).trans p6; have s7 := (hSw.cell (p := ⟨b1, o1 + k * 14 + 7, none⟩) lb1).trans p7; have s8 := (hSw.cell (p := ⟨b1, o1 + k * 14 + 8, none⟩) lb1).trans p8; have s9 := (hSw.cell (p := ⟨b1, o1 + k * 14 + 9, none⟩) lb1).trans p9; have s10 := (hSw.cell (p := ⟨b1, o1 + k * 14 + 10, none⟩) lb1).trans p10; have s11 := (hSw.cell (p := ⟨b1, o1 + k * 14 + 11, none⟩) lb1).trans p11; have s12 := (hSw.cell (p := ⟨b1, o1 + k * 14 + 12, none⟩) lb1).trans p12; have s13 := (hSw.cell (p := ⟨b1, o1 + k * 14 + 13, none⟩) lb1).trans p13; go_simp; try with_reducible rfl)
      simp only [Act.put, List.setIfInBounds_toArray, List.set_cons_zero, List.set_cons_succ]
      refine wpAnyH_take (i := 9) (oi := { dst := some 36, op := _, type := _, pos := _, after := _, guard := _ }) (v := ?v1_9) rfl (by kernel_rfl) (by kernel_rfl) (by kernel_rfl) (fun _ _ _ h => h) (Or.inl ⟨by rfl, ?hy1_9⟩) hHeld ?_
      case hy1_9 => (intro wq hSw; have s0 := (hSw.cell (p := ⟨b2, o2 + k * 14, none⟩) lb2).trans q0; have s1 := (hSw.cell (p := ⟨b2, o2 + k * 14 + 1, none⟩) lb2).trans q1; have s2 := (hSw.cell (p := ⟨b2, o2 + k * 14 + 2, none⟩) lb2).trans q2; have s3 := (hSw.cell (p := ⟨b2, o2 + k * 14 + 3, none⟩) lb2).trans q3; have s4 := (hSw.cell (p := ⟨b2, o2 + k * 14 + 4, none⟩) lb2).trans q4; have s5 := (hSw.cell (p := ⟨b2, o2 + k * 14 + 5, none⟩) lb2).trans q5; have s6 := (hSw.cell (p := ⟨b2, o2 + k * 14 + 6, none⟩) lb2).trans q6; have s7 := (hSw.cell (p := ⟨b2, o2 + k * 14 + 7, none⟩) lb2).trans q7; have s8 := (hSw.cell (p := ⟨b2, o2 + k * 14 + 8, none⟩) lb2).trans q8; have s9 := (hSw.cell (p := ⟨b2, o2 + k * 14 + 9, none⟩) lb2).trans q9; have s10 := (hSw.cell (p := ⟨b2, o2 + k * 14 + 10, none⟩) lb2).trans q10; have s11 := (hSw.cell (p := ⟨b2, o2 + k * 14 + 11, none⟩) lb2).trans q11; have s12 := (hSw.cell (p := ⟨b2, o2 + k * 14 + 12, none⟩) lb2).trans q12; have s13 := (hSw.cell (p := ⟨b2, o2 + k * 14 + 13, none⟩) lb2).trans q13; go_simp; try with_reducible rfl)
      simp only [Act.put, List.setIfInBounds_toArray, List.set_cons_zero, List.set_cons_succ]
      refine wpAnyH_ready (rs := [10]) (by kernel_rfl) (by simp) ?_
      refine AllReadyH.cons (o := { dst := some 37, op := _, type := _, pos := _, after := _, guard := _ }) rfl (fun K hK => ?_) AllReadyH.nil
      go_simp
      go_at_call 18
      refine (HE.out _ (below_on HBc.out hHeld)).mono ?_
      rintro ee ue ⟨rfl, hbe⟩
      have BE := below_on hHeld hbe
      clear hbe
      refine hK.out _ _ BE (fun hHeld => ?_)
      clear hK K
      refine wpAnyH_ready (rs := [11]) (by kernel_rfl) (by simp) ?_
      refine AllReadyH.cons (o := { dst := some 38, op := _, type := _, pos := _, after := _, guard := _ }) rfl (fun K hK => ?_) AllReadyH.nil
      go_simp
      refine hK.out _ _ BE (fun hHeld => ?_)
      clear hK K
      refine wpAnyH_done (by kernel_rfl) ?_ _
      go_wp2_with fail
      go_roundw
      case rel => exact ⟨k + 1, by omega, by go_num, below_on HB.out BE⟩
      case measure => simp [intOf]; omega
    · obtain rfl : k = l.length := by omega
      go_wp2_with fail
      go_ret
      exact ⟨rfl, bc⟩
end Go.Proofs.YtkhicgafhbecfaaGreatDoor
