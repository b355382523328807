/- Stage 20's law PrecedenceSorts, given what package precedence's functions answer. -/
import Derived.Test.YtomoaolomddidaaBl
import Derived.Handy
namespace Go.Proofs.Ytomoaolomddidaa
open Go.RowKit

def eqC (a b : Cd) : Bool := (a.k == b.k) && ((a.i == b.i) && ((a.r == b.r) && (a.id.toList == b.id.toList)))
theorem eqC_run (a b : Cd) (u : World) : (binOp .eql 29 (cdv a) (cdv b)).run Try.prog u = .ok (.bool (eqC a b)) u := by
  simp [go_sem, eqC]
  (repeat' split) <;> simp_all
/-- What a walk reads of a slice whose address is known. -/
theorem CsAt.at {w : World} {g q n cap : Nat} {l : List Cd} (h : CsAt w (.slice (some ⟨g, q, none⟩) n cap) l) {i : Nat} {c : Cd} (hc : l[i]? = some c) : CdAt w g (q + i * 4) c := by
  obtain ⟨A, cap', e, _, _, h3⟩ := h
  obtain ⟨b, o, e2, h4⟩ := h3 i c hc
  rw [e2] at e
  cases e
  exact h4
theorem vi2 {x y : Int} (h : x = y) : Value.int .i64 x = .int .i64 y := by rw [h]
theorem insR_cnt (p : Cd → Bool) (c : Cd) : ∀ xs : List Cd, (insR c xs).countP p = xs.countP p + (if p c = true then 1 else 0)
  | [] => by rw [insR, List.countP_cons]
  | x :: xs => by
    rw [insR]; split
    · rw [List.countP_cons (a := c)]
    · rw [List.countP_cons, List.countP_cons, insR_cnt p c xs]; omega
theorem srtR_cnt (p : Cd → Bool) (l : List Cd) : (srtR l).countP p = l.countP p := by
  have key : ∀ m, m ≤ l.length → (srtR (l.take m)).countP p = (l.take m).countP p := by
    intro m
    induction m with
    | zero => intro _; rfl
    | succ m ih =>
      intro h
      have hc : l[m]? = some (l.getD m zcd) := by rw [List.getD_eq_getElem?_getD, List.getElem?_eq_getElem (by omega)]; rfl
      rw [take_succ_cd hc, srtR_succ, insR_cnt, ih (by omega), List.countP_append, List.countP_singleton]
  have := key l.length (Nat.le_refl _)
  rwa [List.take_length] at this
theorem cnt_succ {l : List Cd} {k : Nat} {c : Cd} (p : Cd → Bool) (h : l[k]? = some c) : (l.take (k + 1)).countP p = (l.take k).countP p + (if p c = true then 1 else 0) := by
  rw [take_succ_cd h, List.countP_append, List.countP_singleton]
theorem srtR_sorted {l : List Cd} {k : Nat} {x y : Cd} (hx : (srtR l)[k]? = some x) (hy : (srtR l)[k + 1]? = some y) : prc y x = false := by
  have e := srtR_take l l.length (Nat.le_refl _)
  rw [List.take_length] at e
  have hl := srtR_len l
  have h1 : k + 1 < l.length := by rw [← hl]; exact (List.getElem?_eq_some_iff.1 hy).1
  have H := srtI_srt (ltl_sw l) l.length k (k + 1) (Nat.zero_le _) (by omega) h1
  rw [e, List.getElem?_map] at hx hy
  have g : ∀ j, j < l.length → (srtI (ltl l) l.length)[j]? = some ((srtI (ltl l) l.length).getD j 0) := fun j hj => by
    rw [List.getD_eq_getElem?_getD, List.getElem?_eq_getElem (by rw [srtI_len]; exact hj)]; rfl
  rw [g k (by omega)] at hx
  rw [g (k + 1) h1] at hy
  simp only [Option.map_some, Option.some.injEq] at hx hy
  rw [← hx, ← hy]
  rcases H with H | ⟨H, _⟩
  · exact prc_asym H
  · exact H
set_option maxHeartbeats 1000000 in
set_option maxRecDepth 100000 in
theorem l20s_far (M : PP) (v : Value) (l : List Cd) (a : Int) (W : World) (h : CsAt W v l) (hl : 60 < l.length) : Calls Try.prog 5 #[v, .int .u8 a] W fun e w' => e = .returned (.bool true) ∧ Below W.heap.size W w' := by
  obtain ⟨A, cap, rfl, h1, h2, h3⟩ := h
  have HA := Lib.hid (fun u => c20awake_any M u)
  have d1 : decide ((60 : Int) < (l.length : Int)) = true := decide_eq_true (by omega)
  clear M h1 h2 h3
  go_enter Try.func5, Try.ntmps5
  go_wp2_with fail
  refine (HA.out _).mono ?_
  rintro e w1 ⟨rfl, hb1⟩
  have B1 := Lib.hid hb1
  clear hb1
  go_wp2_with fail
  refine (HA.out _).mono ?_
  rintro e w2 ⟨rfl, hb2⟩
  have B2 := Lib.hid (below_on B1.out hb2)
  clear hb2
  go_wp2_with fail
  go_ret
  exact ⟨rfl, B2.out⟩
set_option maxHeartbeats 6000000 in
set_option maxRecDepth 100000 in
theorem l20s_ok (M : PP) (v : Value) (l : List Cd) (a : Nat) (ha : a ≤ 255) (h1 h2 h3 : Int) (h4 : ByteArray) (W : World) (h : CsAt W v l) (hl : l.length ≤ 60) (hn : 0 < l.length) (hh : hdR l = (⟨h1, h2, h3, h4⟩ : Cd)) :
    Calls Try.prog 5 #[v, .int .u8 a] W fun e w' => e = .returned (.bool true) ∧ Below W.heap.size W w' := by
  have HA := Lib.hid (fun u => c20awake_any M u)
  have HF := Lib.hid (fun v l u h1 h2 => fwd_any v l u h1 h2)
  have HP := Lib.hid (fun v l u h1 h2 => M.so v l u h1 h2)
  have HR := Lib.hid (fun a b u => M.pr a b u)
  have HQ := Lib.hid (fun v u (hv : CsAt u v l) => (show Calls Try.prog 9 #[v] u (fun e w' => e = .returned (.tuple #[cdv (⟨h1, h2, h3, h4⟩ : Cd), .bool true]) ∧ Below u.heap.size u w') from by
    have := M.fi v l u hl hv
    rw [hh, show (!l.isEmpty) = true from by cases l <;> simp_all] at this
    exact this))
  have hlen := Lib.hid (srtR_len l)
  have h0 := Lib.hid (hdR_at hn)
  rw [hh] at h0
  clear M hh
  have H := Lib.hid h
  obtain ⟨A, cap, hA, k1, k2, k3⟩ := h
  clear k3
  subst hA
  have d1 : decide ((60 : Int) < (l.length : Int)) = false := decide_eq_false (by omega)
  have d2 : decide ((0 : Int) < (l.length : Int)) = true := decide_eq_true (by omega)
  have d5 : decide (0 < l.length) = true := decide_eq_true (by omega)
  have d6 : ((l.length : Int) == 0) = false := by rw [beq_eq_false_iff_ne]; omega
  have d7 : (l.length == 0) = false := by rw [beq_eq_false_iff_ne]; omega
  go_enter Try.func5, Try.ntmps5
  go_wp2_with fail
  refine (HA.out _).mono ?_
  rintro e w1 ⟨rfl, hb1⟩
  have B1 := Lib.hid hb1
  have H1 := Lib.hid (H.out.on hb1)
  clear hb1 H
  go_wp2_with fail
  refine (HF.out _ l _ (by omega) H1.out).mono ?_
  rintro e w2 ⟨v2, rfl, hv2, hb2⟩
  go_wp2_with fail
  refine (HP.out _ l _ hl hv2.cs).mono ?_
  rintro e w3 ⟨v5, rfl, hv5, hb3⟩
  have B3 := Lib.hid (below_on (below_on B1.out hb2) hb3)
  have H3 := Lib.hid ((H1.out.on hb2).on hb3)
  have V3 := Lib.hid hv5
  clear hb2 hb3 hv2 H1 B1 hv5
  go_wp2_with fail
  refine (HF.out _ l _ (by omega) H3.out).mono ?_
  rintro e w4 ⟨v4, rfl, hv4, hb4⟩
  go_wp2_with fail
  refine (HQ.out _ _ hv4.cs).mono ?_
  rintro e w5 ⟨rfl, hb5⟩
  have hq5 : Below w5.heap.size w5 (w5.alloc (Obj.cells #[.int .i64 h1, .int .i64 h2, .int .i64 h3, .string h4] 29)) := (Below.refl _ _).alloc (Nat.le_refl _) _
  have B5 := Lib.hid (below_on (below_on (below_on B3.out hb4) hb5) hq5)
  have H5 := Lib.hid (((H3.out.on hb4).on hb5).on hq5)
  have V5 := Lib.hid (((V3.out.on hb4).on hb5).on hq5)
  have RX := Lib.hid (heap_alloc_new w5 (Obj.cells #[.int .i64 h1, .int .i64 h2, .int .i64 h3, .string h4] 29))
  clear hb4 hb5 hv4 H3 V3 B3 hq5
  obtain ⟨A5, cap5, hA5, k5, k6, k7⟩ := V5.out
  rw [hlen.out] at hA5 k5
  subst hA5
  obtain ⟨g, q, rfl, i0⟩ := k7 0 _ h0.out
  obtain ⟨m0, m1, m2, m3⟩ := (show CdAt (w5.alloc (Obj.cells #[.int .i64 h1, .int .i64 h2, .int .i64 h3, .string h4] 29)) g q (⟨h1, h2, h3, h4⟩ : Cd) from i0)
  obtain ⟨x0, x1, x2, x3⟩ := row_cd RX.out
  clear k7 i0
  have hE : ∀ u, (binOp .neq 29 (cdv (⟨h1, h2, h3, h4⟩ : Cd)) (cdv (⟨h1, h2, h3, h4⟩ : Cd))).run Try.prog u = .ok (.bool false) u := fun u => by simp [go_sem]
  go_wp2_with fail
  go_quiet (fail)
  clear hE m0 m1 m2 m3 x0 x1 x2 x3 RX
  have B6 := Lib.hid (below_dn B5.out nq)
  have H6 := Lib.hid (H5.out.on (below_dn (Below.refl _ _) nq))
  have V6 := Lib.hid (V5.out.on (below_dn (Below.refl _ _) nq))
  clear B5 H5 V5
  generalize (w5.alloc (Obj.cells #[.int .i64 h1, .int .i64 h2, .int .i64 h3, .string h4] 29)).drewN nq = u6 at *
  go_wp2_with fail
  go_loopw [8] (fun iv wr => ∃ k : Nat, k < l.length ∧ iv = .int .i64 ((k : Int) + 1) ∧ Below u6.heap.size u6 wr) (fun iv _ => l.length - (intOf iv).toNat)
  case atStart => exact ⟨0, hn, rfl, Below.refl _ _⟩
  case round =>
    obtain ⟨k, hk, rfl, hb⟩ := hrel
    have HB := Lib.hid hb
    clear hb
    by_cases hlt : k + 1 < l.length
    · obtain ⟨x, hx⟩ : ∃ x, (srtR l)[k + 1]? = some x := ⟨_, List.getElem?_eq_getElem (by rw [hlen.out]; omega)⟩
      obtain ⟨y, hy⟩ : ∃ y, (srtR l)[k]? = some y := ⟨_, List.getElem?_eq_getElem (by rw [hlen.out]; omega)⟩
      have hP := Lib.hid (fun u => HR.out x y u)
      have hk0 : (0 : Int) ≤ (k : Int) + 1 := by omega
      have hkw : IntKind.i64.wrap (k : Int) = (k : Int) := by rw [IntKind.wrap_i64]; omega
      rw [srtR_sorted hy hx] at hP
      have X0 := Lib.hid ((V6.out.at hx).on HB.out)
      have Y0 := Lib.hid ((V6.out.at hy).on HB.out)
      clear hx hy
      obtain ⟨x1, x2, x3, x4⟩ := x
      obtain ⟨y1, y2, y3, y4⟩ := y
      obtain ⟨q0, q1, q2, q3⟩ := X0.out
      obtain ⟨r0, r1, r2, r3⟩ := Y0.out
      have Hs := Lib.hid (show wr.drew.cell? ⟨g, q + (k + 1) * 4, none⟩ = some (.int .i64 x1) ∧ wr.drew.cell? ⟨g, q + (k + 1) * 4 + 1, none⟩ = some (.int .i64 x2) ∧ wr.drew.cell? ⟨g, q + (k + 1) * 4 + 2, none⟩ = some (.int .i64 x3) ∧ wr.drew.cell? ⟨g, q + (k + 1) * 4 + 3, none⟩ = some (.string x4) ∧ wr.drew.cell? ⟨g, q + k * 4, none⟩ = some (.int .i64 y1) ∧ wr.drew.cell? ⟨g, q + k * 4 + 1, none⟩ = some (.int .i64 y2) ∧ wr.drew.cell? ⟨g, q + k * 4 + 2, none⟩ = some (.int .i64 y3) ∧ wr.drew.cell? ⟨g, q + k * 4 + 3, none⟩ = some (.string y4) ∧ Below wr.heap.size wr wr.drew from ⟨q0, q1, q2, q3, r0, r1, r2, r3, below_dn (Below.refl _ _) 1⟩)
      have XP := Lib.hid (fun u (hu : u.cell? ⟨g, q + (k + 1) * 4, none⟩ = some (.int .i64 x1) ∧ u.cell? ⟨g, q + (k + 1) * 4 + 1, none⟩ = some (.int .i64 x2) ∧ u.cell? ⟨g, q + (k + 1) * 4 + 2, none⟩ = some (.int .i64 x3) ∧ u.cell? ⟨g, q + (k + 1) * 4 + 3, none⟩ = some (.string x4) ∧ u.cell? ⟨g, q + k * 4, none⟩ = some (.int .i64 y1) ∧ u.cell? ⟨g, q + k * 4 + 1, none⟩ = some (.int .i64 y2) ∧ u.cell? ⟨g, q + k * 4 + 2, none⟩ = some (.int .i64 y3) ∧ u.cell? ⟨g, q + k * 4 + 3, none⟩ = some (.string y4) ∧ Below wr.heap.size wr u) => (hP.out u).mono (R' := fun e u' => e = .returned (.bool false) ∧ (u'.cell? ⟨g, q + (k + 1) * 4, none⟩ = some (.int .i64 x1) ∧ u'.cell? ⟨g, q + (k + 1) * 4 + 1, none⟩ = some (.int .i64 x2) ∧ u'.cell? ⟨g, q + (k + 1) * 4 + 2, none⟩ = some (.int .i64 x3) ∧ u'.cell? ⟨g, q + (k + 1) * 4 + 3, none⟩ = some (.string x4) ∧ u'.cell? ⟨g, q + k * 4, none⟩ = some (.int .i64 y1) ∧ u'.cell? ⟨g, q + k * 4 + 1, none⟩ = some (.int .i64 y2) ∧ u'.cell? ⟨g, q + k * 4 + 2, none⟩ = some (.int .i64 y3) ∧ u'.cell? ⟨g, q + k * 4 + 3, none⟩ = some (.string y4) ∧ Below wr.heap.size wr u')) fun e u' ⟨he, hq⟩ => ⟨he, ⟨cell_below hu.1 hq, cell_below hu.2.1 hq, cell_below hu.2.2.1 hq, cell_below hu.2.2.2.1 hq, cell_below hu.2.2.2.2.1 hq, cell_below hu.2.2.2.2.2.1 hq, cell_below hu.2.2.2.2.2.2.1 hq, cell_below hu.2.2.2.2.2.2.2.1 hq, below_on hu.2.2.2.2.2.2.2.2 hq⟩⟩)
      go_wp2_with fail
      refine wp_region_held_drew (S := fun u => u.cell? ⟨g, q + (k + 1) * 4, none⟩ = some (.int .i64 x1) ∧ u.cell? ⟨g, q + (k + 1) * 4 + 1, none⟩ = some (.int .i64 x2) ∧ u.cell? ⟨g, q + (k + 1) * 4 + 2, none⟩ = some (.int .i64 x3) ∧ u.cell? ⟨g, q + (k + 1) * 4 + 3, none⟩ = some (.string x4) ∧ u.cell? ⟨g, q + k * 4, none⟩ = some (.int .i64 y1) ∧ u.cell? ⟨g, q + k * 4 + 1, none⟩ = some (.int .i64 y2) ∧ u.cell? ⟨g, q + k * 4 + 2, none⟩ = some (.int .i64 y3) ∧ u.cell? ⟨g, q + k * 4 + 3, none⟩ = some (.string y4) ∧ Below wr.heap.size wr u) (by kernel_rfl) Hs.out (fun hHeld => ?_)
      refine wpAnyH_take (i := 0) (oi := { dst := some 57, op := _, type := _, pos := _, after := _, guard := _ }) (v := ?v1_0) rfl (by kernel_rfl) (by kernel_rfl) (by kernel_rfl) (fun _ _ _ h => h) (Or.inl ⟨by rfl, ?hy1_0⟩) hHeld ?_
      case hy1_0 => (intro w hSw; (try dsimp only at hSw); go_simp; try with_reducible rfl)
      simp only [Act.put, List.setIfInBounds_toArray, List.set_cons_zero, List.set_cons_succ]
      refine wpAnyH_take (i := 1) (oi := { dst := some 58, op := _, type := _, pos := _, after := _, guard := _ }) (v := ?v1_1) rfl (by kernel_rfl) (by kernel_rfl) (by kernel_rfl) (fun _ _ _ h => h) (Or.inl ⟨by rfl, ?hy1_1⟩) hHeld ?_
      case hy1_1 => (intro w hSw; (try dsimp only at hSw); go_simp; try with_reducible rfl)
      simp only [Act.put, List.setIfInBounds_toArray, List.set_cons_zero, List.set_cons_succ]
      refine wpAnyH_take (i := 2) (oi := { dst := some 59, op := _, type := _, pos := _, after := _, guard := _ }) (v := ?v1_2) rfl (by kernel_rfl) (by kernel_rfl) (by kernel_rfl) (fun _ _ _ h => h) (Or.inl ⟨by rfl, ?hy1_2⟩) hHeld ?_
      case hy1_2 => (intro w hSw; (try dsimp only at hSw); go_simp; try with_reducible rfl)
      simp only [Act.put, List.setIfInBounds_toArray, List.set_cons_zero, List.set_cons_succ]
      refine wpAnyH_take (i := 3) (oi := { dst := some 60, op := _, type := _, pos := _, after := _, guard := _ }) (v := ?v1_3) rfl (by kernel_rfl) (by kernel_rfl) (by kernel_rfl) (fun _ _ _ h => h) (Or.inl ⟨by rfl, ?hy1_3⟩) hHeld ?_
      case hy1_3 => (intro w hSw; (try dsimp only at hSw); go_simp; try with_reducible rfl)
      simp only [Act.put, List.setIfInBounds_toArray, List.set_cons_zero, List.set_cons_succ]
      refine wpAnyH_take (i := 4) (oi := { dst := some 61, op := _, type := _, pos := _, after := _, guard := _ }) (v := ?v1_4) rfl (by kernel_rfl) (by kernel_rfl) (by kernel_rfl) (fun _ _ _ h => h) (Or.inl ⟨by rfl, ?hy1_4⟩) hHeld ?_
      case hy1_4 => (intro w hSw; (try dsimp only at hSw); go_simp; try with_reducible rfl)
      simp only [Act.put, List.setIfInBounds_toArray, List.set_cons_zero, List.set_cons_succ]
      refine wpAnyH_take (i := 5) (oi := { dst := some 62, op := _, type := _, pos := _, after := _, guard := _ }) (v := ?v1_5) rfl (by kernel_rfl) (by kernel_rfl) (by kernel_rfl) (fun _ _ _ h => h) (Or.inl ⟨by rfl, ?hy1_5⟩) hHeld ?_
      case hy1_5 => (intro w hSw; (try dsimp only at hSw); go_simp; try with_reducible rfl)
      simp only [Act.put, List.setIfInBounds_toArray, List.set_cons_zero, List.set_cons_succ]
      refine wpAnyH_take (i := 6) (oi := { dst := some 63, op := _, type := _, pos := _, after := _, guard := _ }) (v := ?v1_6) rfl (by kernel_rfl) (by kernel_rfl) (by kernel_rfl) (fun _ _ _ h => h) (Or.inl ⟨by rfl, ?hy1_6⟩) hHeld ?_
      case hy1_6 => (intro w hSw; (try dsimp only at hSw); go_simp; try with_reducible rfl)
      simp only [Act.put, List.setIfInBounds_toArray, List.set_cons_zero, List.set_cons_succ]
      refine wpAnyH_take (i := 7) (oi := { dst := some 64, op := _, type := _, pos := _, after := _, guard := _ }) (v := ?v1_7) rfl (by kernel_rfl) (by kernel_rfl) (by kernel_rfl) (fun _ _ _ h => h) (Or.inl ⟨by rfl, ?hy1_7⟩) hHeld ?_
      case hy1_7 => (intro w hSw; (try dsimp only at hSw); go_simp; try with_reducible rfl)
      simp only [Act.put, List.setIfInBounds_toArray, List.set_cons_zero, List.set_cons_succ]
      refine wpAnyH_take (i := 8) (oi := { dst := some 65, op := _, type := _, pos := _, after := _, guard := _ }) (v := ?v1_8) rfl (by kernel_rfl) (by kernel_rfl) (by kernel_rfl) (fun _ _ _ h => h) (Or.inl ⟨by rfl, ?hy1_8⟩) hHeld ?_
      case hy1_8 => (intro w hSw; (try dsimp only at hSw); go_simp; try with_reducible rfl)
      simp only [Act.put, List.setIfInBounds_toArray, List.set_cons_zero, List.set_cons_succ]
      refine wpAnyH_ready (rs := [9]) (by kernel_rfl) (by simp) ?_
      refine AllReadyH.cons (o := { dst := some 66, op := _, type := _, pos := _, after := _, guard := _ }) rfl (fun K hK => ?_) AllReadyH.nil
      go_simp
      go_at_call 10
      refine (XP.out _ (by assumption)).mono ?_
      rintro ee0 t0 ⟨rfl, hs0⟩
      refine hK.out _ _ hs0 (fun hHeld => ?_)
      clear hK K
      refine wpAnyH_done (by kernel_rfl) ?_ _
      have HB1 := Lib.hid (below_on HB.out hs0.2.2.2.2.2.2.2.2)
      clear hs0 Hs XP q0 q1 q2 q3 r0 r1 r2 r3
      go_wp2_with fail
      go_roundw
      case rel => exact ⟨k + 1, hlt, vi2 (by omega), HB1.out⟩
      case measure => simp [intOf]; omega
    · have H7 := Lib.hid (H6.out.on HB.out)
      have V7 := Lib.hid (V6.out.on HB.out)
      have B7 := Lib.hid (below_on B6.out HB.out)
      clear V6 H6 B6 HB
      have hm1 : a % l.length < l.length := Nat.mod_lt _ hn
      have hm2 : (a : Int) % (l.length : Int) < (l.length : Int) := by omega
      have hm3 : (0 : Int) ≤ (a : Int) % (l.length : Int) := by omega
      have hm5 : ((a : Int) % (l.length : Int)).toNat = a % l.length := by omega
      have hne : ¬ l = [] := fun e => by rw [e] at hn; simp at hn
      have haw : IntKind.i64.wrap (a : Int) = (a : Int) := by rw [IntKind.wrap_i64]; omega
      have htm : (a : Int).tmod (l.length : Int) = (a : Int) % (l.length : Int) := Int.tmod_eq_emod_of_nonneg (by omega)
      obtain ⟨c, hc⟩ : ∃ c, l[a % l.length]? = some c := ⟨_, List.getElem?_eq_getElem hm1⟩
      obtain ⟨c1, c2, c3, c4⟩ := c
      go_wp2_with fail
      have Hs : Below wr.heap.size wr wr.drew := below_dn (Below.refl _ _) 1
      go_region_with
        (first | (go_at_call 7; refine (HF.out _ l _ (by omega) (H7.out.on Hs)).mono ?_; rintro ee t1 ⟨vf, rfl, hvf, hbf⟩; obtain ⟨Af, capf, hAf, j1, j2, j3⟩ := hvf.cs; obtain ⟨gf, qf, rfl, i0⟩ := j3 (a % l.length) _ hc; subst hAf; obtain ⟨m0, m1, m2, m3⟩ := i0; have A0 := fun o => (show CdAt (t1.alloc o) gf (qf + a % l.length * 4) (⟨c1, c2, c3, c4⟩ : Cd) from (CdAt.mk m0 m1 m2 m3).on ((Below.refl _ _).alloc (Nat.le_refl _) o)); have a0 := fun o => (A0 o).c0; have a1 := fun o => (A0 o).c1; have a2 := fun o => (A0 o).c2; have a3 := fun o => (A0 o).c3; have hs1 : Below wr.heap.size wr t1 := below_on Hs hbf) | (go_at_call 7; refine (HF.out _ l _ (by omega) (H7.out.on (Hs.alloc Hs.size _))).mono ?_; rintro ee t1 ⟨vf, rfl, hvf, hbf⟩; obtain ⟨Af, capf, hAf, j1, j2, j3⟩ := hvf.cs; obtain ⟨gf, qf, rfl, i0⟩ := j3 (a % l.length) _ hc; subst hAf; obtain ⟨m0, m1, m2, m3⟩ := i0; have A0 := fun o => (show CdAt (t1.alloc o) gf (qf + a % l.length * 4) (⟨c1, c2, c3, c4⟩ : Cd) from (CdAt.mk m0 m1 m2 m3).on ((Below.refl _ _).alloc (Nat.le_refl _) o)); have a0 := fun o => (A0 o).c0; have a1 := fun o => (A0 o).c1; have a2 := fun o => (A0 o).c2; have a3 := fun o => (A0 o).c3; have hs1 : Below wr.heap.size wr t1 := below_on (Hs.alloc Hs.size _) hbf; have RZ : t1.heap[wr.heap.size]? = some (Obj.cells #[.int .i64 0, .int .i64 0, .int .i64 0, .string ⟨#[]⟩] 29) := row_on (heap_alloc_new wr.drew (Obj.cells #[.int .i64 0, .int .i64 0, .int .i64 0, .string ⟨#[]⟩] 29)) hbf; obtain ⟨n0, n1, n2, n3⟩ := row_cd RZ; obtain ⟨z0, z1, z2, z3⟩ := fr_cd RZ))
      all_goals
        have hw8 : ∃ (u8 : World) (kb : Nat), True := ⟨wr, 0, trivial⟩
        clear hw8
      · have HB8 := Lib.hid (hs1.alloc hs1.size (Obj.cells #[.int .i64 c1, .int .i64 c2, .int .i64 c3, .string c4] 29))
        have RK8 := Lib.hid (heap_alloc_new t1 (Obj.cells #[.int .i64 c1, .int .i64 c2, .int .i64 c3, .string c4] 29))
        generalize hkb : t1.heap.size = kb at *
        generalize t1.alloc (Obj.cells #[.int .i64 c1, .int .i64 c2, .int .i64 c3, .string c4] 29) = u8 at *
        have V8 := Lib.hid (V7.out.on HB8.out)
        have H8 := Lib.hid (H7.out.on HB8.out)
        have B8 := Lib.hid (below_on B7.out HB8.out)
        clear V7 H7 B7 HB8 m0 m1 m2 m3 A0 a0 a1 a2 a3 hs1
        go_wp2_with fail
        go_loopw [10, 11] (fun nv iv wz => ∃ (j : Nat) (z : Int), j ≤ l.length ∧ iv = .int .i64 (j : Int) ∧ nv = .int .i64 z ∧ Hid (z = ((((srtR l).take j).countP (fun x => eqC x (⟨c1, c2, c3, c4⟩ : Cd)) : Nat) : Int) - (((l.take j).countP (fun x => eqC x (⟨c1, c2, c3, c4⟩ : Cd)) : Nat) : Int)) ∧ -(j : Int) ≤ z ∧ z ≤ j ∧ Below u8.heap.size u8 wz) (fun _ iv _ => l.length - (intOf iv).toNat)
        case atStart => exact ⟨0, 0, Nat.zero_le _, rfl, rfl, Lib.hid (by simp), by omega, by omega, Below.refl _ _⟩
        case round =>
          obtain ⟨j, z, hj, rfl, rfl, hz, zl, zu, hb⟩ := hrel
          have HB := Lib.hid hb
          clear hb
          by_cases hlt2 : j < l.length
          · obtain ⟨x, hx⟩ : ∃ x, (srtR l)[j]? = some x := ⟨_, List.getElem?_eq_getElem (by rw [hlen.out]; omega)⟩
            obtain ⟨y, hy⟩ : ∃ y, l[j]? = some y := ⟨_, List.getElem?_eq_getElem hlt2⟩
            have hcx := Lib.hid (cnt_succ (fun x => eqC x (⟨c1, c2, c3, c4⟩ : Cd)) hx)
            have hcy := Lib.hid (cnt_succ (fun x => eqC x (⟨c1, c2, c3, c4⟩ : Cd)) hy)
            have hE1 := eqC_run x (⟨c1, c2, c3, c4⟩ : Cd)
            have hE2 := eqC_run y (⟨c1, c2, c3, c4⟩ : Cd)
            have X0 := Lib.hid ((V8.out.at hx).on HB.out)
            have RK := Lib.hid (row_on RK8.out HB.out)
            have HY := Lib.hid hy
            clear hx hy
            obtain ⟨x1, x2, x3, x4⟩ := x
            obtain ⟨y1, y2, y3, y4⟩ := y
            obtain ⟨q0, q1, q2, q3⟩ := X0.out
            obtain ⟨r0, r1, r2, r3⟩ := row_cd RK.out
            cases e1 : eqC (⟨x1, x2, x3, x4⟩ : Cd) (⟨c1, c2, c3, c4⟩ : Cd)
            all_goals
              rw [e1] at hE1 hcx
              cases e2 : eqC (⟨y1, y2, y3, y4⟩ : Cd) (⟨c1, c2, c3, c4⟩ : Cd)
            all_goals
              rw [e2] at hE2 hcy
              go_wp2_with fail
              go_quiet (fail)
              have Hn : Below wr.heap.size wr (wr.drewN nq) := below_dn (Below.refl _ _) nq
              have RKn := Lib.hid (row_on RK.out Hn)
              clear q0 q1 q2 q3
              obtain ⟨r4, r5, r6, r7⟩ := row_cd RKn.out
              have Hn2 : Below u8.heap.size u8 ((wr.drewN nq).drew) := below_dn (below_on HB.out Hn) 1
              have RKd := Lib.hid (row_on RKn.out (below_dn (Below.refl _ _) 1))
              go_wp2_with fail
              go_region_with ((go_at_call 7; refine (HF.out _ l _ (by omega) (H8.out.on Hn2)).mono ?_; rintro ee t2 ⟨vf2, rfl, hvf2, hbf2⟩; obtain ⟨Af2, capf2, hAf2, w1, w2, w3⟩ := hvf2.cs; obtain ⟨gf2, qf2, rfl, i2⟩ := w3 j _ HY.out; subst hAf2; obtain ⟨m0, m1, m2, m3⟩ := i2; have hs2 : Below u8.heap.size u8 t2 := below_on Hn2 hbf2; obtain ⟨s0, s1, s2, s3⟩ := row_cd (row_on RKd.out hbf2)))
              all_goals
                go_wp2_with fail
                go_roundw
                case rel => exact ⟨j + 1, _, hlt2, by go_num, rfl, Lib.hid (by rw [hcx.out, hcy.out, hz.out]; (try simp); (try omega)), by omega, by omega, hs2⟩
                case measure => simp [intOf]; omega
          · obtain rfl : j = l.length := by omega
            have z0 : z = 0 := by
              have := hz.out
              rw [List.take_length, show (srtR l).take l.length = srtR l from by rw [← hlen.out, List.take_length], srtR_cnt] at this
              omega
            subst z0
            have BE := Lib.hid (below_on B8.out HB.out)
            go_wp2_with fail
            go_ret
            exact ⟨rfl, BE.out⟩
      · have HB8 := Lib.hid (hs1.alloc hs1.size (Obj.cells #[.int .i64 c1, .int .i64 c2, .int .i64 c3, .string c4] 29))
        have RK8 := Lib.hid (heap_alloc_new t1 (Obj.cells #[.int .i64 c1, .int .i64 c2, .int .i64 c3, .string c4] 29))
        generalize hkb : t1.heap.size = kb at *
        generalize t1.alloc (Obj.cells #[.int .i64 c1, .int .i64 c2, .int .i64 c3, .string c4] 29) = u8 at *
        have V8 := Lib.hid (V7.out.on HB8.out)
        have H8 := Lib.hid (H7.out.on HB8.out)
        have B8 := Lib.hid (below_on B7.out HB8.out)
        clear V7 H7 B7 HB8 m0 m1 m2 m3 A0 a0 a1 a2 a3 hs1
        go_wp2_with fail
        go_loopw [10, 11] (fun nv iv wz => ∃ (j : Nat) (z : Int), j ≤ l.length ∧ iv = .int .i64 (j : Int) ∧ nv = .int .i64 z ∧ Hid (z = ((((srtR l).take j).countP (fun x => eqC x (⟨c1, c2, c3, c4⟩ : Cd)) : Nat) : Int) - (((l.take j).countP (fun x => eqC x (⟨c1, c2, c3, c4⟩ : Cd)) : Nat) : Int)) ∧ -(j : Int) ≤ z ∧ z ≤ j ∧ Below u8.heap.size u8 wz) (fun _ iv _ => l.length - (intOf iv).toNat)
        case atStart => exact ⟨0, 0, Nat.zero_le _, rfl, rfl, Lib.hid (by simp), by omega, by omega, Below.refl _ _⟩
        case round =>
          obtain ⟨j, z, hj, rfl, rfl, hz, zl, zu, hb⟩ := hrel
          have HB := Lib.hid hb
          clear hb
          by_cases hlt2 : j < l.length
          · obtain ⟨x, hx⟩ : ∃ x, (srtR l)[j]? = some x := ⟨_, List.getElem?_eq_getElem (by rw [hlen.out]; omega)⟩
            obtain ⟨y, hy⟩ : ∃ y, l[j]? = some y := ⟨_, List.getElem?_eq_getElem hlt2⟩
            have hcx := Lib.hid (cnt_succ (fun x => eqC x (⟨c1, c2, c3, c4⟩ : Cd)) hx)
            have hcy := Lib.hid (cnt_succ (fun x => eqC x (⟨c1, c2, c3, c4⟩ : Cd)) hy)
            have hE1 := eqC_run x (⟨c1, c2, c3, c4⟩ : Cd)
            have hE2 := eqC_run y (⟨c1, c2, c3, c4⟩ : Cd)
            have X0 := Lib.hid ((V8.out.at hx).on HB.out)
            have RK := Lib.hid (row_on RK8.out HB.out)
            have HY := Lib.hid hy
            clear hx hy
            obtain ⟨x1, x2, x3, x4⟩ := x
            obtain ⟨y1, y2, y3, y4⟩ := y
            obtain ⟨q0, q1, q2, q3⟩ := X0.out
            obtain ⟨r0, r1, r2, r3⟩ := row_cd RK.out
            cases e1 : eqC (⟨x1, x2, x3, x4⟩ : Cd) (⟨c1, c2, c3, c4⟩ : Cd)
            all_goals
              rw [e1] at hE1 hcx
              cases e2 : eqC (⟨y1, y2, y3, y4⟩ : Cd) (⟨c1, c2, c3, c4⟩ : Cd)
            all_goals
              rw [e2] at hE2 hcy
              go_wp2_with fail
              go_quiet (fail)
              have Hn : Below wr.heap.size wr (wr.drewN nq) := below_dn (Below.refl _ _) nq
              have RKn := Lib.hid (row_on RK.out Hn)
              clear q0 q1 q2 q3
              obtain ⟨r4, r5, r6, r7⟩ := row_cd RKn.out
              have Hn2 : Below u8.heap.size u8 ((wr.drewN nq).drew) := below_dn (below_on HB.out Hn) 1
              have RKd := Lib.hid (row_on RKn.out (below_dn (Below.refl _ _) 1))
              go_wp2_with fail
              go_region_with ((go_at_call 7; refine (HF.out _ l _ (by omega) (H8.out.on Hn2)).mono ?_; rintro ee t2 ⟨vf2, rfl, hvf2, hbf2⟩; obtain ⟨Af2, capf2, hAf2, w1, w2, w3⟩ := hvf2.cs; obtain ⟨gf2, qf2, rfl, i2⟩ := w3 j _ HY.out; subst hAf2; obtain ⟨m0, m1, m2, m3⟩ := i2; have hs2 : Below u8.heap.size u8 t2 := below_on Hn2 hbf2; obtain ⟨s0, s1, s2, s3⟩ := row_cd (row_on RKd.out hbf2)))
              all_goals
                go_wp2_with fail
                go_roundw
                case rel => exact ⟨j + 1, _, hlt2, by go_num, rfl, Lib.hid (by rw [hcx.out, hcy.out, hz.out]; (try simp); (try omega)), by omega, by omega, hs2⟩
                case measure => simp [intOf]; omega
          · obtain rfl : j = l.length := by omega
            have z0 : z = 0 := by
              have := hz.out
              rw [List.take_length, show (srtR l).take l.length = srtR l from by rw [← hlen.out, List.take_length], srtR_cnt] at this
              omega
            subst z0
            have BE := Lib.hid (below_on B8.out HB.out)
            go_wp2_with fail
            go_ret
            exact ⟨rfl, BE.out⟩
      · generalize hu8 : (((t1.setCell ⟨wr.heap.size, 0, none⟩ (.int .i64 c1)).setCell ⟨wr.heap.size, 1, none⟩ (.int .i64 c2)).setCell ⟨wr.heap.size, 2, none⟩ (.int .i64 c3)).setCell ⟨wr.heap.size, 3, none⟩ (.string c4) = u8
        obtain ⟨rk, hbk⟩ := four_set RZ hu8
        have HB8 := Lib.hid (hs1.trans hbk)
        have RK8 := Lib.hid rk
        clear hu8 rk hbk n0 n1 n2 n3 z0 z1 z2 z3 RZ
        obtain ⟨kb, hkb⟩ : ∃ kb : Nat, kb = wr.heap.size := ⟨_, rfl⟩
        rw [← hkb] at RK8 ⊢
        clear hkb
        have V8 := Lib.hid (V7.out.on HB8.out)
        have H8 := Lib.hid (H7.out.on HB8.out)
        have B8 := Lib.hid (below_on B7.out HB8.out)
        clear V7 H7 B7 HB8 m0 m1 m2 m3 A0 a0 a1 a2 a3 hs1
        go_wp2_with fail
        go_loopw [10, 11] (fun nv iv wz => ∃ (j : Nat) (z : Int), j ≤ l.length ∧ iv = .int .i64 (j : Int) ∧ nv = .int .i64 z ∧ Hid (z = ((((srtR l).take j).countP (fun x => eqC x (⟨c1, c2, c3, c4⟩ : Cd)) : Nat) : Int) - (((l.take j).countP (fun x => eqC x (⟨c1, c2, c3, c4⟩ : Cd)) : Nat) : Int)) ∧ -(j : Int) ≤ z ∧ z ≤ j ∧ Below u8.heap.size u8 wz) (fun _ iv _ => l.length - (intOf iv).toNat)
        case atStart => exact ⟨0, 0, Nat.zero_le _, rfl, rfl, Lib.hid (by simp), by omega, by omega, Below.refl _ _⟩
        case round =>
          obtain ⟨j, z, hj, rfl, rfl, hz, zl, zu, hb⟩ := hrel
          have HB := Lib.hid hb
          clear hb
          by_cases hlt2 : j < l.length
          · obtain ⟨x, hx⟩ : ∃ x, (srtR l)[j]? = some x := ⟨_, List.getElem?_eq_getElem (by rw [hlen.out]; omega)⟩
            obtain ⟨y, hy⟩ : ∃ y, l[j]? = some y := ⟨_, List.getElem?_eq_getElem hlt2⟩
            have hcx := Lib.hid (cnt_succ (fun x => eqC x (⟨c1, c2, c3, c4⟩ : Cd)) hx)
            have hcy := Lib.hid (cnt_succ (fun x => eqC x (⟨c1, c2, c3, c4⟩ : Cd)) hy)
            have hE1 := eqC_run x (⟨c1, c2, c3, c4⟩ : Cd)
            have hE2 := eqC_run y (⟨c1, c2, c3, c4⟩ : Cd)
            have X0 := Lib.hid ((V8.out.at hx).on HB.out)
            have RK := Lib.hid (row_on RK8.out HB.out)
            have HY := Lib.hid hy
            clear hx hy
            obtain ⟨x1, x2, x3, x4⟩ := x
            obtain ⟨y1, y2, y3, y4⟩ := y
            obtain ⟨q0, q1, q2, q3⟩ := X0.out
            obtain ⟨r0, r1, r2, r3⟩ := row_cd RK.out
            cases e1 : eqC (⟨x1, x2, x3, x4⟩ : Cd) (⟨c1, c2, c3, c4⟩ : Cd)
            all_goals
              rw [e1] at hE1 hcx
              cases e2 : eqC (⟨y1, y2, y3, y4⟩ : Cd) (⟨c1, c2, c3, c4⟩ : Cd)
            all_goals
              rw [e2] at hE2 hcy
              go_wp2_with fail
              go_quiet (fail)
              have Hn : Below wr.heap.size wr (wr.drewN nq) := below_dn (Below.refl _ _) nq
              have RKn := Lib.hid (row_on RK.out Hn)
              clear q0 q1 q2 q3
              obtain ⟨r4, r5, r6, r7⟩ := row_cd RKn.out
              have Hn2 : Below u8.heap.size u8 ((wr.drewN nq).drew) := below_dn (below_on HB.out Hn) 1
              have RKd := Lib.hid (row_on RKn.out (below_dn (Below.refl _ _) 1))
              go_wp2_with fail
              go_region_with ((go_at_call 7; refine (HF.out _ l _ (by omega) (H8.out.on Hn2)).mono ?_; rintro ee t2 ⟨vf2, rfl, hvf2, hbf2⟩; obtain ⟨Af2, capf2, hAf2, w1, w2, w3⟩ := hvf2.cs; obtain ⟨gf2, qf2, rfl, i2⟩ := w3 j _ HY.out; subst hAf2; obtain ⟨m0, m1, m2, m3⟩ := i2; have hs2 : Below u8.heap.size u8 t2 := below_on Hn2 hbf2; obtain ⟨s0, s1, s2, s3⟩ := row_cd (row_on RKd.out hbf2)))
              all_goals
                go_wp2_with fail
                go_roundw
                case rel => exact ⟨j + 1, _, hlt2, by go_num, rfl, Lib.hid (by rw [hcx.out, hcy.out, hz.out]; (try simp); (try omega)), by omega, by omega, hs2⟩
                case measure => simp [intOf]; omega
          · obtain rfl : j = l.length := by omega
            have z0 : z = 0 := by
              have := hz.out
              rw [List.take_length, show (srtR l).take l.length = srtR l from by rw [← hlen.out, List.take_length], srtR_cnt] at this
              omega
            subst z0
            have BE := Lib.hid (below_on B8.out HB.out)
            go_wp2_with fail
            go_ret
            exact ⟨rfl, BE.out⟩
end Go.Proofs.Ytomoaolomddidaa
