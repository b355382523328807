/- The law OccurrenceSplits, given OP. -/
import Derived.Test.YtnofmlkjagdklaaVi
import Derived.Test.YtnofmlkjagdklaaVj
import Derived.Deep.RegionHeld3
namespace Go.Proofs.Ytnofmlkjagdklaa
open Go.RowKit

theorem eql_cr (a b : Cd) (h : eqK a b = true → a = b) (u : World) : (binOp .eql 39 (cdv a) (cdv b)).run Try.prog u = .ok (.bool (eqK a b)) u := by
  cases e : eqK a b
  · unfold eqK at e
    rw [decide_eq_false_iff_not] at e
    obtain ⟨k, i, r, d⟩ := a
    obtain ⟨k', i', r', d'⟩ := b
    dsimp only at e
    cases h1 : (k == k')
    · simp at h1; simp [go_sem, h1]
    · cases h2 : (i == i')
      · simp at h1 h2; simp [go_sem, h1, h2]
      · cases h3 : (r == r')
        · simp at h1 h2 h3; simp [go_sem, h1, h2, h3]
        · simp at h1 h2 h3; exact absurd ⟨h1, h2, h3⟩ e
  · obtain rfl := h e
    simp [go_sem]
set_option maxHeartbeats 4000000 in
set_option maxRecDepth 100000 in
theorem l21s_main (c : Cat) (vs vf : Value) (y day : Int) (W : World) (l : List Cd) (x : Cd) (xs ys zs : List Int) (hll : l.length ≤ 1000)
    (EP : Hid (∀ z ∈ l, prc z x = false)) (EQ : Hid (∀ z ∈ l, eqK z x = true → z = x)) (EC : Hid (l.countP (fun z => eqK z x) = 1))
    (EZ : Hid (x.k = 2 → (xs.count x.i : Int) + ys.count x.i + zs.count x.i = 0)) (EO : Hid (∀ z ∈ l, eqK z x = false → z.k = 2 → (xs.count z.i : Int) + ys.count z.i + zs.count z.i = 1))
    (EL : Hid ((xs.length : Int) + ys.length + zs.length = (l.length : Int) - 1 - if x.k = 2 then 1 else 0)) (l1 : xs.length ≤ 1000) (l2 : ys.length ≤ 1000) (l3 : zs.length ≤ 1000)
    (QW : Hid (∀ u, Calls Try.prog 7 #[] u fun e w' => e = .returned (.bool true) ∧ Below u.heap.size u w'))
    (QR17 : Hid (∀ u, Below W.heap.size W u → Calls Try.prog 8 #[(.agg #[.int .i64 c.free, vs, vf])] u fun e w' => e = .returned (.bool true) ∧ Below u.heap.size u w'))
    (QF : Hid (∀ u, Below W.heap.size W u → Calls Try.prog 9 #[(.agg #[.int .i64 c.free, vs, vf]), .int .i64 y, .int .i64 day] u fun e w' => e = .returned (.int .i64 0) ∧ Below u.heap.size u w'))
    (QO' : Hid (∀ u, Below W.heap.size W u → Calls Try.prog 10 #[(.agg #[.int .i64 c.free, vs, vf]), .int .i64 y, .int .i64 day] u (RetCs 39 u l)))
    (QR' : Hid (∀ u v, Below W.heap.size W u → CsAt u v l → Calls Try.prog 11 #[(.agg #[.int .i64 c.free, vs, vf]), v] u fun e w' => ∃ a1 a2 a3, e = .returned (.agg (occRow x a1 a2 a3)) ∧ R3 u.heap.size a1 a2 a3 xs ys zs w' ∧ Below u.heap.size u w'))
    (QL' : Hid (∀ u a1 a2 a3, Below W.heap.size W u → SlF a1 xs u → SlF a2 ys u → SlF a3 zs u → ∀ z ∈ l, eqK z x = false → z.k = 2 → Calls Try.prog 20 #[(.agg #[.int .i64 c.free, vs, vf]), rsq x a1 a2 a3, .int .i64 z.i] u fun e w' => e = .returned (.bool true) ∧ Below u.heap.size u w')) :
    Calls Try.prog 4 #[(.agg #[.int .i64 c.free, vs, vf]), .int .i64 y, .int .i64 day] W fun e w' => e = .returned (.bool true) ∧ Below W.heap.size W w' := by
  have B0 := Lib.hid ((Below.refl W.heap.size W).alloc (Nat.le_refl _) (.cells #[.int .i64 c.free, vs, vf] 25))
  have R0 := Lib.hid (heap_alloc_new W (.cells #[.int .i64 c.free, vs, vf] 25))
  have ZW : (W.alloc (.cells #[.int .i64 c.free, vs, vf] 25)).heap.size = W.heap.size + 1 := by simp
  go_enter Try.func4, Try.ntmps4
  go_wp2_with fail
  generalize hW1 : W.alloc (.cells #[.int .i64 c.free, vs, vf] 25) = W1 at *
  refine (QW.out _).mono ?_
  rintro e w1 ⟨rfl, hb1⟩
  have B1 := Lib.hid hb1
  clear hb1
  obtain ⟨y0, y1, y2, -, -, -, yz⟩ := row3 (row_on R0.out B1.out)
  go_wp2_with fail
  refine (QR17.out _ (below_on B0.out B1.out)).mono ?_
  rintro e w2 ⟨rfl, hb2⟩
  have B2 := Lib.hid (below_on B1.out hb2)
  clear hb2 y0 y1 y2 yz
  obtain ⟨y0, y1, y2, -, -, -, yz⟩ := row3 (row_on R0.out B2.out)
  go_wp2_with fail
  refine (QF.out _ (below_on B0.out B2.out)).mono ?_
  rintro e w3 ⟨rfl, hb3⟩
  have B3 := Lib.hid (below_on B2.out hb3)
  clear hb3 y0 y1 y2 yz
  obtain ⟨y0, y1, y2, -, -, -, yz⟩ := row3 (row_on R0.out B3.out)
  go_wp2_with fail
  refine (QO'.out _ (below_on B0.out B3.out)).mono ?_
  rintro e w4 ⟨vl, rfl, hv4, hb4⟩
  have B4 := Lib.hid (below_on B3.out hb4)
  have V4 := Lib.hid hv4.cs
  clear hb4 hv4 y0 y1 y2 yz
  obtain ⟨y0, y1, y2, -, -, -, yz⟩ := row3 (row_on R0.out B4.out)
  have hk : W.heap.size < w4.heap.size := Nat.lt_of_lt_of_le (by omega) B4.out.size
  go_wp2_with fail
  have QR4 := Lib.hid (fun u v (hu : Below w4.heap.size w4 u) hv => QR'.out u v (below_on B0.out (below_on B4.out hu)) hv)
  refine spr_region _ c vs vf y day W.heap.size vl _ _ _ _ _ _ _ _ _ _ _ _ _ _ _ _ _ _ _ _ _ _ _ _ _ _ _ w4 l hll x _ _ _ QR4 (fun _ a d _ _ h => by cases d <;> exact h) hk y0 y1 y2 V4.out (fun x7 x28 x29 a1 a2 a3 kb w5 hb hr e1 e2 e3 => ?_) _
  subst e1
  have B5 := Lib.hid (below_on B4.out hb)
  have B45 := Lib.hid hb
  have RS := Lib.hid e3
  have SA := Lib.hid (SlI.sf hr.fa.get)
  have SB := Lib.hid (SlI.sf hr.fb.get)
  have SC := Lib.hid (SlI.sf hr.fc.get)
  have V5 := Lib.hid (V4.out.on hb)
  obtain ⟨Aq1, c1, rfl⟩ := ints_form hr.fa
  obtain ⟨Aq2, c2, rfl⟩ := ints_form hr.fb
  obtain ⟨Aq3, c3, rfl⟩ := ints_form hr.fc
  clear hb hr e3 y0 y1 y2 yz QR4
  obtain ⟨s0, s1, s2, s3, s4, s5, s6, -, -, -, -, -, -, -, gz⟩ := row7 RS.out
  have X0 := Lib.hid ((Below.refl w5.heap.size w5).alloc (Nat.le_refl _) (.cells #[.int .i64 x.k, .int .i64 x.i, .int .i64 x.r, .string x.id] 39))
  have XP := Lib.hid (heap_alloc_new w5 (.cells #[.int .i64 x.k, .int .i64 x.i, .int .i64 x.r, .string x.id] 39))
  go_wp2_with fail
  generalize hX : w5.alloc (.cells #[.int .i64 x.k, .int .i64 x.i, .int .i64 x.r, .string x.id] 39) = X at *
  have XR := Lib.hid (row_on RS.out X0.out)
  have XK := Lib.hid (row_on (row_on R0.out B5.out) X0.out)
  have XV := Lib.hid (V5.out.on X0.out)
  have BXW := Lib.hid (below_on B0.out (below_on B5.out X0.out))
  have TA := Lib.hid (SA.out.on X0.out)
  have TB := Lib.hid (SB.out.on X0.out)
  have TC := Lib.hid (SC.out.on X0.out)
  clear s0 s1 s2 s3 s4 s5 s6 gz
  obtain ⟨VA, vc, rfl, vh1, vh2, vh3⟩ := V4.out
  have VH := Lib.hid vh3
  unfold maxLen at vh2
  clear vh3
  go_loopw [10, 11] (fun nv iv wr => ∃ j m : Nat, j ≤ l.length ∧ iv = .int .i64 j ∧ nv = .int .i64 m ∧ m ≤ j ∧ Hid (m = (l.take j).countP (fun z => eqK z x)) ∧ Below X.heap.size X wr) (fun _ iv _ => l.length - (intOf iv).toNat)
  case atStart => exact ⟨0, 0, Nat.zero_le _, rfl, rfl, Nat.le_refl _, Lib.hid rfl, Below.refl _ _⟩
  case round =>
    obtain ⟨j, m, hj, rfl, rfl, hmj, HM, hb⟩ := hrel
    have HB := Lib.hid hb
    clear hb
    by_cases hlt : j < l.length
    · obtain ⟨z, hz⟩ : ∃ z, l[j]? = some z := ⟨_, List.getElem?_eq_getElem hlt⟩
      have hzm := List.mem_of_getElem? hz
      have HTK := Lib.hid (show (l.take (j + 1)).countP (fun z => eqK z x) = m + if eqK z x = true then 1 else 0 by
        rw [take_succ_cd hz, List.countP_append, ← HM.out, List.countP_singleton])
      obtain ⟨zb, zp, hA, hit⟩ := VH.out j z hz
      subst hA
      have HPZ := EP.out z hzm
      have HIT := Lib.hid (hit.on (below_on B45.out X0.out))
      obtain ⟨zk, zi, zr, zd⟩ := z
      obtain ⟨bb, hbb⟩ : ∃ bb, bb = eqK ⟨zk, zi, zr, zd⟩ x := ⟨_, rfl⟩
      have HBB := Lib.hid hbb
      have HE : ∀ u, (binOp .eql 39 (.agg #[.int .i64 zk, .int .i64 zi, .int .i64 zr, .string zd]) (.agg #[.int .i64 x.k, .int .i64 x.i, .int .i64 x.r, .string x.id])).run Try.prog u = .ok (.bool bb) u := fun u => by rw [hbb]; exact eql_cr ⟨zk, zi, zr, zd⟩ x (EQ.out _ hzm) u
      have QP := Lib.hid (fun u => (show Calls Try.prog 18 #[.agg #[.int .i64 zk, .int .i64 zi, .int .i64 zr, .string zd], .agg #[.int .i64 x.k, .int .i64 x.i, .int .i64 x.r, .string x.id]] u fun e w' => e = .returned (.bool false) ∧ Below u.heap.size u w' from by have := r20pr_any ⟨zk, zi, zr, zd⟩ x u; rwa [HPZ] at this))
      have QT0 := Lib.hid (fun u (hu : Below X.heap.size X u) => tms21_any x _ _ _ xs ys zs zi u (TA.out.on hu) (TB.out.on hu) (TC.out.on hu) l1 l2 l3)
      have HONE := Lib.hid (fun (h : eqK ⟨zk, zi, zr, zd⟩ x = false) (h2 : zk = 2) => EO.out ⟨zk, zi, zr, zd⟩ hzm h h2)
      have HLST := Lib.hid (fun (h : eqK ⟨zk, zi, zr, zd⟩ x = false) (h2 : zk = 2) u (hu : Below X.heap.size X u) => QL'.out u _ _ _ (below_on BXW.out hu) (TA.out.on hu) (TB.out.on hu) (TC.out.on hu) ⟨zk, zi, zr, zd⟩ hzm h h2)
      have HZERO := Lib.hid (fun (h : eqK ⟨zk, zi, zr, zd⟩ x = true) (h2 : zk = 2) => show (xs.count zi : Int) + ys.count zi + zs.count zi = 0 by
        have e := EQ.out _ hzm h
        have := EZ.out (by rw [← e]; exact h2)
        rwa [← e] at this)
      have CE : Hid (∀ u, Below X.heap.size X u → (Below X.heap.size X u ∧ u.cell? ⟨zb, zp + j * 4, none⟩ = some (.int .i64 zk) ∧ u.cell? ⟨zb, zp + j * 4 + 1, none⟩ = some (.int .i64 zi) ∧ u.cell? ⟨zb, zp + j * 4 + 2, none⟩ = some (.int .i64 zr) ∧ u.cell? ⟨zb, zp + j * 4 + 3, none⟩ = some (.string zd) ∧ u.cell? ⟨w5.heap.size, 0, none⟩ = some (.int .i64 x.k) ∧ u.cell? ⟨w5.heap.size, 1, none⟩ = some (.int .i64 x.i) ∧ u.cell? ⟨w5.heap.size, 2, none⟩ = some (.int .i64 x.r) ∧ u.cell? ⟨w5.heap.size, 3, none⟩ = some (.string x.id) ∧ u.cell? ⟨kb, 0, none⟩ = some (.int .i64 x.k) ∧ u.cell? ⟨kb, 1, none⟩ = some (.int .i64 x.i) ∧ u.cell? ⟨kb, 2, none⟩ = some (.int .i64 x.r) ∧ u.cell? ⟨kb, 3, none⟩ = some (.string x.id) ∧ u.cell? ⟨kb, 4, none⟩ = some (.slice Aq1 xs.length c1) ∧ u.cell? ⟨kb, 5, none⟩ = some (.slice Aq2 ys.length c2) ∧ u.cell? ⟨kb, 6, none⟩ = some (.slice Aq3 zs.length c3) ∧ u.cell? ⟨W.heap.size, 0, none⟩ = some (.int .i64 c.free) ∧ u.cell? ⟨W.heap.size, 1, none⟩ = some vs ∧ u.cell? ⟨W.heap.size, 2, none⟩ = some vf)) := Lib.hid (fun u hu => by
        obtain ⟨d0, d1, d2, d3⟩ := HIT.out.on hu
        obtain ⟨p0, p1, p2, p3⟩ := cd_row (row_on XP.out hu)
        obtain ⟨r0, r1, r2, r3, r4, r5, r6, -⟩ := row7 (row_on XR.out hu)
        obtain ⟨k0, k1, k2, -⟩ := row3 (row_on XK.out hu)
        exact ⟨hu, d0, d1, d2, d3, p0, p1, p2, p3, r0, r1, r2, r3, r4, r5, r6, k0, k1, k2⟩)
      clear hz hzm hit hbb HPZ
      go_wp2_with fail
      refine wp_region_held_drew (S := fun u => (Below X.heap.size X u ∧ u.cell? ⟨zb, zp + j * 4, none⟩ = some (.int .i64 zk) ∧ u.cell? ⟨zb, zp + j * 4 + 1, none⟩ = some (.int .i64 zi) ∧ u.cell? ⟨zb, zp + j * 4 + 2, none⟩ = some (.int .i64 zr) ∧ u.cell? ⟨zb, zp + j * 4 + 3, none⟩ = some (.string zd) ∧ u.cell? ⟨w5.heap.size, 0, none⟩ = some (.int .i64 x.k) ∧ u.cell? ⟨w5.heap.size, 1, none⟩ = some (.int .i64 x.i) ∧ u.cell? ⟨w5.heap.size, 2, none⟩ = some (.int .i64 x.r) ∧ u.cell? ⟨w5.heap.size, 3, none⟩ = some (.string x.id) ∧ u.cell? ⟨kb, 0, none⟩ = some (.int .i64 x.k) ∧ u.cell? ⟨kb, 1, none⟩ = some (.int .i64 x.i) ∧ u.cell? ⟨kb, 2, none⟩ = some (.int .i64 x.r) ∧ u.cell? ⟨kb, 3, none⟩ = some (.string x.id) ∧ u.cell? ⟨kb, 4, none⟩ = some (.slice Aq1 xs.length c1) ∧ u.cell? ⟨kb, 5, none⟩ = some (.slice Aq2 ys.length c2) ∧ u.cell? ⟨kb, 6, none⟩ = some (.slice Aq3 zs.length c3) ∧ u.cell? ⟨W.heap.size, 0, none⟩ = some (.int .i64 c.free) ∧ u.cell? ⟨W.heap.size, 1, none⟩ = some vs ∧ u.cell? ⟨W.heap.size, 2, none⟩ = some vf)) (by kernel_rfl) (CE.out _ (below_dn HB.out 1)) (fun hHeld => ?_)
      refine wpAnyH_take (i := 0) (oi := { dst := some 55, op := _, type := _, pos := _, after := _, guard := _ }) (v := ?v1_0) rfl (by kernel_rfl) (by kernel_rfl) (by kernel_rfl) (fun _ _ _ h => h) (Or.inl ⟨by rfl, ?hy1_0⟩) hHeld ?_
      case hy1_0 => (intro w hSw; (try dsimp only at hSw); go_simp; try with_reducible rfl)
      simp only [Act.put, List.setIfInBounds_toArray, List.set_cons_zero, List.set_cons_succ]
      refine wpAnyH_take (i := 1) (oi := { dst := some 56, op := _, type := _, pos := _, after := _, guard := _ }) (v := ?v1_1) rfl (by kernel_rfl) (by kernel_rfl) (by kernel_rfl) (fun _ _ _ h => h) (Or.inl ⟨by rfl, ?hy1_1⟩) hHeld ?_
      case hy1_1 => (intro w hSw; (try dsimp only at hSw); go_simp; try with_reducible rfl)
      simp only [Act.put, List.setIfInBounds_toArray, List.set_cons_zero, List.set_cons_succ]
      refine wpAnyH_take (i := 2) (oi := { dst := some 57, op := _, type := _, pos := _, after := _, guard := _ }) (v := ?v1_2) rfl (by kernel_rfl) (by kernel_rfl) (by kernel_rfl) (fun _ _ _ h => h) (Or.inl ⟨by rfl, ?hy1_2⟩) hHeld ?_
      case hy1_2 => (intro w hSw; (try dsimp only at hSw); go_simp; try with_reducible rfl)
      simp only [Act.put, List.setIfInBounds_toArray, List.set_cons_zero, List.set_cons_succ]
      refine wpAnyH_take (i := 3) (oi := { dst := some 58, op := _, type := _, pos := _, after := _, guard := _ }) (v := ?v1_3) rfl (by kernel_rfl) (by kernel_rfl) (by kernel_rfl) (fun _ _ _ h => h) (Or.inl ⟨by rfl, ?hy1_3⟩) hHeld ?_
      case hy1_3 => (intro w hSw; (try dsimp only at hSw); go_simp; try with_reducible rfl)
      simp only [Act.put, List.setIfInBounds_toArray, List.set_cons_zero, List.set_cons_succ]
      refine wpAnyH_take (i := 4) (oi := { dst := some 59, op := _, type := _, pos := _, after := _, guard := _ }) (v := ?v1_4) rfl (by kernel_rfl) (by kernel_rfl) (by kernel_rfl) (fun _ _ _ h => h) (Or.inl ⟨by rfl, ?hy1_4⟩) hHeld ?_
      case hy1_4 => (intro w hSw; (try dsimp only at hSw); go_simp; try with_reducible rfl)
      simp only [Act.put, List.setIfInBounds_toArray, List.set_cons_zero, List.set_cons_succ]
      refine wpAnyH_ready (rs := [5]) (by kernel_rfl) (by simp) ?_
      refine AllReadyH.cons (o := { dst := some 60, op := _, type := _, pos := _, after := _, guard := _ }) rfl (fun K hK => ?_) AllReadyH.nil
      go_simp
      go_at_call 18
      refine (QP.out _).mono ?_
      rintro e q1 ⟨rfl, hq1⟩
      have hk1 := CE.out _ (below_on hHeld.1 hq1)
      refine hK.out _ _ hk1 (fun hHeld => ?_)
      clear hK K
      refine wpAnyH_done (by kernel_rfl) ?_ _
      have H1 := Lib.hid hk1.1
      clear hk1 hHeld hq1
      go_wp2_with fail
      refine wp_region_held_drew (S := fun u => (Below X.heap.size X u ∧ u.cell? ⟨zb, zp + j * 4, none⟩ = some (.int .i64 zk) ∧ u.cell? ⟨zb, zp + j * 4 + 1, none⟩ = some (.int .i64 zi) ∧ u.cell? ⟨zb, zp + j * 4 + 2, none⟩ = some (.int .i64 zr) ∧ u.cell? ⟨zb, zp + j * 4 + 3, none⟩ = some (.string zd) ∧ u.cell? ⟨w5.heap.size, 0, none⟩ = some (.int .i64 x.k) ∧ u.cell? ⟨w5.heap.size, 1, none⟩ = some (.int .i64 x.i) ∧ u.cell? ⟨w5.heap.size, 2, none⟩ = some (.int .i64 x.r) ∧ u.cell? ⟨w5.heap.size, 3, none⟩ = some (.string x.id) ∧ u.cell? ⟨kb, 0, none⟩ = some (.int .i64 x.k) ∧ u.cell? ⟨kb, 1, none⟩ = some (.int .i64 x.i) ∧ u.cell? ⟨kb, 2, none⟩ = some (.int .i64 x.r) ∧ u.cell? ⟨kb, 3, none⟩ = some (.string x.id) ∧ u.cell? ⟨kb, 4, none⟩ = some (.slice Aq1 xs.length c1) ∧ u.cell? ⟨kb, 5, none⟩ = some (.slice Aq2 ys.length c2) ∧ u.cell? ⟨kb, 6, none⟩ = some (.slice Aq3 zs.length c3) ∧ u.cell? ⟨W.heap.size, 0, none⟩ = some (.int .i64 c.free) ∧ u.cell? ⟨W.heap.size, 1, none⟩ = some vs ∧ u.cell? ⟨W.heap.size, 2, none⟩ = some vf)) (by kernel_rfl) (CE.out _ (below_dn H1.out 1)) (fun hHeld => ?_)
      refine wpAnyH_take (i := 0) (oi := { dst := some 61, op := _, type := _, pos := _, after := _, guard := _ }) (v := ?v2_0) rfl (by kernel_rfl) (by kernel_rfl) (by kernel_rfl) (fun _ _ _ h => h) (Or.inl ⟨by rfl, ?hy2_0⟩) hHeld ?_
      case hy2_0 => (intro w hSw; (try dsimp only at hSw); go_simp; try with_reducible rfl)
      simp only [Act.put, List.setIfInBounds_toArray, List.set_cons_zero, List.set_cons_succ]
      refine wpAnyH_take (i := 1) (oi := { dst := some 62, op := _, type := _, pos := _, after := _, guard := _ }) (v := ?v2_1) rfl (by kernel_rfl) (by kernel_rfl) (by kernel_rfl) (fun _ _ _ h => h) (Or.inl ⟨by rfl, ?hy2_1⟩) hHeld ?_
      case hy2_1 => (intro w hSw; (try dsimp only at hSw); go_simp; try with_reducible rfl)
      simp only [Act.put, List.setIfInBounds_toArray, List.set_cons_zero, List.set_cons_succ]
      refine wpAnyH_take (i := 2) (oi := { dst := some 63, op := _, type := _, pos := _, after := _, guard := _ }) (v := ?v2_2) rfl (by kernel_rfl) (by kernel_rfl) (by kernel_rfl) (fun _ _ _ h => h) (Or.inl ⟨by rfl, ?hy2_2⟩) hHeld ?_
      case hy2_2 => (intro w hSw; (try dsimp only at hSw); go_simp; try with_reducible rfl)
      simp only [Act.put, List.setIfInBounds_toArray, List.set_cons_zero, List.set_cons_succ]
      refine wpAnyH_take (i := 3) (oi := { dst := some 64, op := _, type := _, pos := _, after := _, guard := _ }) (v := ?v2_3) rfl (by kernel_rfl) (by kernel_rfl) (by kernel_rfl) (fun _ _ _ h => h) (Or.inl ⟨by rfl, ?hy2_3⟩) hHeld ?_
      case hy2_3 => (intro w hSw; (try dsimp only at hSw); go_simp; try with_reducible rfl)
      simp only [Act.put, List.setIfInBounds_toArray, List.set_cons_zero, List.set_cons_succ]
      refine wpAnyH_take (i := 4) (oi := { dst := some 65, op := _, type := _, pos := _, after := _, guard := _ }) (v := ?v2_4) rfl (by kernel_rfl) (by kernel_rfl) (by kernel_rfl) (fun _ _ _ h => h) (Or.inl ⟨by rfl, ?hy2_4⟩) hHeld ?_
      case hy2_4 => (intro w hSw; (try dsimp only at hSw); go_simp; try with_reducible rfl)
      simp only [Act.put, List.setIfInBounds_toArray, List.set_cons_zero, List.set_cons_succ]
      refine wpAnyH_take (i := 5) (oi := { dst := some 66, op := _, type := _, pos := _, after := _, guard := _ }) (v := ?v2_5) rfl (by kernel_rfl) (by kernel_rfl) (by kernel_rfl) (fun _ _ _ h => h) (Or.inl ⟨by rfl, ?hy2_5⟩) hHeld ?_
      case hy2_5 => (intro w hSw; (try dsimp only at hSw); go_simp; try with_reducible rfl)
      simp only [Act.put, List.setIfInBounds_toArray, List.set_cons_zero, List.set_cons_succ]
      refine wpAnyH_done (by kernel_rfl) ?_ _
      have H2 := Lib.hid hHeld.1
      clear hHeld
      generalize q1.drew = q2 at *
      cases bb
      · have HN0 := Lib.hid (show m = (l.take (j + 1)).countP (fun z => eqK z x) by rw [HTK.out, ← HBB.out]; rfl)
        go_wp2_with fail
        by_cases hk2 : zk = 2
        · subst hk2
          have hone := Lib.hid (HONE.out HBB.out.symm rfl)
          have hlst := Lib.hid (HLST.out HBB.out.symm rfl)
          have QT : Hid (∀ u, Below X.heap.size X u → Calls Try.prog 19 #[rsq x (.slice Aq1 xs.length c1) (.slice Aq2 ys.length c2) (.slice Aq3 zs.length c3), .int .i64 zi] u fun e w' => e = .returned (.int .i64 1) ∧ Below u.heap.size u w') := Lib.hid (fun u hu => by have := QT0.out u hu; rwa [hone.out] at this)
          have QL : Hid (∀ u, Below X.heap.size X u → Calls Try.prog 20 #[(.agg #[.int .i64 c.free, vs, vf]), rsq x (.slice Aq1 xs.length c1) (.slice Aq2 ys.length c2) (.slice Aq3 zs.length c3), .int .i64 zi] u fun e w' => e = .returned (.bool true) ∧ Below u.heap.size u w') := hlst
          refine wp_region_held_drew (S := fun u => (Below X.heap.size X u ∧ u.cell? ⟨zb, zp + j * 4, none⟩ = some (.int .i64 2) ∧ u.cell? ⟨zb, zp + j * 4 + 1, none⟩ = some (.int .i64 zi) ∧ u.cell? ⟨zb, zp + j * 4 + 2, none⟩ = some (.int .i64 zr) ∧ u.cell? ⟨zb, zp + j * 4 + 3, none⟩ = some (.string zd) ∧ u.cell? ⟨w5.heap.size, 0, none⟩ = some (.int .i64 x.k) ∧ u.cell? ⟨w5.heap.size, 1, none⟩ = some (.int .i64 x.i) ∧ u.cell? ⟨w5.heap.size, 2, none⟩ = some (.int .i64 x.r) ∧ u.cell? ⟨w5.heap.size, 3, none⟩ = some (.string x.id) ∧ u.cell? ⟨kb, 0, none⟩ = some (.int .i64 x.k) ∧ u.cell? ⟨kb, 1, none⟩ = some (.int .i64 x.i) ∧ u.cell? ⟨kb, 2, none⟩ = some (.int .i64 x.r) ∧ u.cell? ⟨kb, 3, none⟩ = some (.string x.id) ∧ u.cell? ⟨kb, 4, none⟩ = some (.slice Aq1 xs.length c1) ∧ u.cell? ⟨kb, 5, none⟩ = some (.slice Aq2 ys.length c2) ∧ u.cell? ⟨kb, 6, none⟩ = some (.slice Aq3 zs.length c3) ∧ u.cell? ⟨W.heap.size, 0, none⟩ = some (.int .i64 c.free) ∧ u.cell? ⟨W.heap.size, 1, none⟩ = some vs ∧ u.cell? ⟨W.heap.size, 2, none⟩ = some vf)) (by kernel_rfl) (CE.out _ (below_dn H2.out 1)) (fun hHeld => ?_)
          refine wpAnyH_take (i := 0) (oi := { dst := some 85, op := _, type := _, pos := _, after := _, guard := _ }) (v := ?v3_0) rfl (by kernel_rfl) (by kernel_rfl) (by kernel_rfl) (fun _ _ _ h => h) (Or.inl ⟨by rfl, ?hy3_0⟩) hHeld ?_
          case hy3_0 => (intro w hSw; (try dsimp only at hSw); go_simp; try with_reducible rfl)
          simp only [Act.put, List.setIfInBounds_toArray, List.set_cons_zero, List.set_cons_succ]
          refine wpAnyH_take (i := 1) (oi := { dst := some 86, op := _, type := _, pos := _, after := _, guard := _ }) (v := ?v3_1) rfl (by kernel_rfl) (by kernel_rfl) (by kernel_rfl) (fun _ _ _ h => h) (Or.inl ⟨by rfl, ?hy3_1⟩) hHeld ?_
          case hy3_1 => (intro w hSw; (try dsimp only at hSw); go_simp; try with_reducible rfl)
          simp only [Act.put, List.setIfInBounds_toArray, List.set_cons_zero, List.set_cons_succ]
          refine wpAnyH_take (i := 2) (oi := { dst := some 87, op := _, type := _, pos := _, after := _, guard := _ }) (v := ?v3_2) rfl (by kernel_rfl) (by kernel_rfl) (by kernel_rfl) (fun _ _ _ h => h) (Or.inl ⟨by rfl, ?hy3_2⟩) hHeld ?_
          case hy3_2 => (intro w hSw; (try dsimp only at hSw); go_simp; try with_reducible rfl)
          simp only [Act.put, List.setIfInBounds_toArray, List.set_cons_zero, List.set_cons_succ]
          refine wpAnyH_take (i := 3) (oi := { dst := some 88, op := _, type := _, pos := _, after := _, guard := _ }) (v := ?v3_3) rfl (by kernel_rfl) (by kernel_rfl) (by kernel_rfl) (fun _ _ _ h => h) (Or.inl ⟨by rfl, ?hy3_3⟩) hHeld ?_
          case hy3_3 => (intro w hSw; (try dsimp only at hSw); go_simp; try with_reducible rfl)
          simp only [Act.put, List.setIfInBounds_toArray, List.set_cons_zero, List.set_cons_succ]
          refine wpAnyH_take (i := 4) (oi := { dst := some 89, op := _, type := _, pos := _, after := _, guard := _ }) (v := ?v3_4) rfl (by kernel_rfl) (by kernel_rfl) (by kernel_rfl) (fun _ _ _ h => h) (Or.inl ⟨by rfl, ?hy3_4⟩) hHeld ?_
          case hy3_4 => (intro w hSw; (try dsimp only at hSw); go_simp; try with_reducible rfl)
          simp only [Act.put, List.setIfInBounds_toArray, List.set_cons_zero, List.set_cons_succ]
          refine wpAnyH_take (i := 5) (oi := { dst := some 90, op := _, type := _, pos := _, after := _, guard := _ }) (v := ?v3_5) rfl (by kernel_rfl) (by kernel_rfl) (by kernel_rfl) (fun _ _ _ h => h) (Or.inl ⟨by rfl, ?hy3_5⟩) hHeld ?_
          case hy3_5 => (intro w hSw; (try dsimp only at hSw); go_simp; try with_reducible rfl)
          simp only [Act.put, List.setIfInBounds_toArray, List.set_cons_zero, List.set_cons_succ]
          refine wpAnyH_take (i := 6) (oi := { dst := some 91, op := _, type := _, pos := _, after := _, guard := _ }) (v := ?v3_6) rfl (by kernel_rfl) (by kernel_rfl) (by kernel_rfl) (fun _ _ _ h => h) (Or.inl ⟨by rfl, ?hy3_6⟩) hHeld ?_
          case hy3_6 => (intro w hSw; (try dsimp only at hSw); go_simp; try with_reducible rfl)
          simp only [Act.put, List.setIfInBounds_toArray, List.set_cons_zero, List.set_cons_succ]
          refine wpAnyH_take (i := 7) (oi := { dst := some 92, op := _, type := _, pos := _, after := _, guard := _ }) (v := ?v3_7) rfl (by kernel_rfl) (by kernel_rfl) (by kernel_rfl) (fun _ _ _ h => h) (Or.inl ⟨by rfl, ?hy3_7⟩) hHeld ?_
          case hy3_7 => (intro w hSw; (try dsimp only at hSw); go_simp; try with_reducible rfl)
          simp only [Act.put, List.setIfInBounds_toArray, List.set_cons_zero, List.set_cons_succ]
          refine wpAnyH_take (i := 8) (oi := { dst := some 93, op := _, type := _, pos := _, after := _, guard := _ }) (v := ?v3_8) rfl (by kernel_rfl) (by kernel_rfl) (by kernel_rfl) (fun _ _ _ h => h) (Or.inl ⟨by rfl, ?hy3_8⟩) hHeld ?_
          case hy3_8 => (intro w hSw; (try dsimp only at hSw); go_simp; try with_reducible rfl)
          simp only [Act.put, List.setIfInBounds_toArray, List.set_cons_zero, List.set_cons_succ]
          refine wpAnyH_take (i := 9) (oi := { dst := some 94, op := _, type := _, pos := _, after := _, guard := _ }) (v := ?v3_9) rfl (by kernel_rfl) (by kernel_rfl) (by kernel_rfl) (fun _ _ _ h => h) (Or.inl ⟨by rfl, ?hy3_9⟩) hHeld ?_
          case hy3_9 => (intro w hSw; (try dsimp only at hSw); go_simp; try with_reducible rfl)
          simp only [Act.put, List.setIfInBounds_toArray, List.set_cons_zero, List.set_cons_succ]
          refine wpAnyH_take (i := 10) (oi := { dst := some 95, op := _, type := _, pos := _, after := _, guard := _ }) (v := ?v3_10) rfl (by kernel_rfl) (by kernel_rfl) (by kernel_rfl) (fun _ _ _ h => h) (Or.inl ⟨by rfl, ?hy3_10⟩) hHeld ?_
          case hy3_10 => (intro w hSw; (try dsimp only at hSw); go_simp; try with_reducible rfl)
          simp only [Act.put, List.setIfInBounds_toArray, List.set_cons_zero, List.set_cons_succ]
          refine wpAnyH_take (i := 11) (oi := { dst := some 96, op := _, type := _, pos := _, after := _, guard := _ }) (v := ?v3_11) rfl (by kernel_rfl) (by kernel_rfl) (by kernel_rfl) (fun _ _ _ h => h) (Or.inl ⟨by rfl, ?hy3_11⟩) hHeld ?_
          case hy3_11 => (intro w hSw; (try dsimp only at hSw); go_simp; try with_reducible rfl)
          simp only [Act.put, List.setIfInBounds_toArray, List.set_cons_zero, List.set_cons_succ]
          refine wpAnyH_take (i := 12) (oi := { dst := some 97, op := _, type := _, pos := _, after := _, guard := _ }) (v := ?v3_12) rfl (by kernel_rfl) (by kernel_rfl) (by kernel_rfl) (fun _ _ _ h => h) (Or.inl ⟨by rfl, ?hy3_12⟩) hHeld ?_
          case hy3_12 => (intro w hSw; (try dsimp only at hSw); go_simp; try with_reducible rfl)
          simp only [Act.put, List.setIfInBounds_toArray, List.set_cons_zero, List.set_cons_succ]
          refine wpAnyH_ready (rs := [13]) (by kernel_rfl) (by simp) ?_
          refine AllReadyH.cons (o := { dst := some 98, op := _, type := _, pos := _, after := _, guard := _ }) rfl (fun K hK => ?_) AllReadyH.nil
          go_simp
          go_at_call 19
          refine (QT.out _ hHeld.1).mono ?_
          rintro e q3 ⟨rfl, hq3⟩
          have hk3 := CE.out _ (below_on hHeld.1 hq3)
          refine hK.out _ _ hk3 (fun hHeld => ?_)
          clear hK K
          refine wpAnyH_take (i := 14) (oi := { dst := some 99, op := _, type := _, pos := _, after := _, guard := _ }) (v := ?v3_14) rfl (by kernel_rfl) (by kernel_rfl) (by kernel_rfl) (fun _ _ _ h => h) (Or.inl ⟨by rfl, ?hy3_14⟩) hHeld ?_
          case hy3_14 => (intro w hSw; (try dsimp only at hSw); go_simp; try with_reducible rfl)
          simp only [Act.put, List.setIfInBounds_toArray, List.set_cons_zero, List.set_cons_succ]
          refine wpAnyH_take (i := 15) (oi := { dst := some 100, op := _, type := _, pos := _, after := _, guard := _ }) (v := ?v3_15) rfl (by kernel_rfl) (by kernel_rfl) (by kernel_rfl) (fun _ _ _ h => h) (Or.inl ⟨by rfl, ?hy3_15⟩) hHeld ?_
          case hy3_15 => (intro w hSw; (try dsimp only at hSw); go_simp; try with_reducible rfl)
          simp only [Act.put, List.setIfInBounds_toArray, List.set_cons_zero, List.set_cons_succ]
          refine wpAnyH_take (i := 16) (oi := { dst := some 101, op := _, type := _, pos := _, after := _, guard := _ }) (v := ?v3_16) rfl (by kernel_rfl) (by kernel_rfl) (by kernel_rfl) (fun _ _ _ h => h) (Or.inl ⟨by rfl, ?hy3_16⟩) hHeld ?_
          case hy3_16 => (intro w hSw; (try dsimp only at hSw); go_simp; try with_reducible rfl)
          simp only [Act.put, List.setIfInBounds_toArray, List.set_cons_zero, List.set_cons_succ]
          refine wpAnyH_take (i := 17) (oi := { dst := some 102, op := _, type := _, pos := _, after := _, guard := _ }) (v := ?v3_17) rfl (by kernel_rfl) (by kernel_rfl) (by kernel_rfl) (fun _ _ _ h => h) (Or.inl ⟨by rfl, ?hy3_17⟩) hHeld ?_
          case hy3_17 => (intro w hSw; (try dsimp only at hSw); go_simp; try with_reducible rfl)
          simp only [Act.put, List.setIfInBounds_toArray, List.set_cons_zero, List.set_cons_succ]
          refine wpAnyH_take (i := 18) (oi := { dst := some 103, op := _, type := _, pos := _, after := _, guard := _ }) (v := ?v3_18) rfl (by kernel_rfl) (by kernel_rfl) (by kernel_rfl) (fun _ _ _ h => h) (Or.inl ⟨by rfl, ?hy3_18⟩) hHeld ?_
          case hy3_18 => (intro w hSw; (try dsimp only at hSw); go_simp; try with_reducible rfl)
          simp only [Act.put, List.setIfInBounds_toArray, List.set_cons_zero, List.set_cons_succ]
          refine wpAnyH_take (i := 19) (oi := { dst := some 104, op := _, type := _, pos := _, after := _, guard := _ }) (v := ?v3_19) rfl (by kernel_rfl) (by kernel_rfl) (by kernel_rfl) (fun _ _ _ h => h) (Or.inl ⟨by rfl, ?hy3_19⟩) hHeld ?_
          case hy3_19 => (intro w hSw; (try dsimp only at hSw); go_simp; try with_reducible rfl)
          simp only [Act.put, List.setIfInBounds_toArray, List.set_cons_zero, List.set_cons_succ]
          refine wpAnyH_take (i := 20) (oi := { dst := some 105, op := _, type := _, pos := _, after := _, guard := _ }) (v := ?v3_20) rfl (by kernel_rfl) (by kernel_rfl) (by kernel_rfl) (fun _ _ _ h => h) (Or.inl ⟨by rfl, ?hy3_20⟩) hHeld ?_
          case hy3_20 => (intro w hSw; (try dsimp only at hSw); go_simp; try with_reducible rfl)
          simp only [Act.put, List.setIfInBounds_toArray, List.set_cons_zero, List.set_cons_succ]
          refine wpAnyH_take (i := 21) (oi := { dst := some 106, op := _, type := _, pos := _, after := _, guard := _ }) (v := ?v3_21) rfl (by kernel_rfl) (by kernel_rfl) (by kernel_rfl) (fun _ _ _ h => h) (Or.inl ⟨by rfl, ?hy3_21⟩) hHeld ?_
          case hy3_21 => (intro w hSw; (try dsimp only at hSw); go_simp; try with_reducible rfl)
          simp only [Act.put, List.setIfInBounds_toArray, List.set_cons_zero, List.set_cons_succ]
          refine wpAnyH_take (i := 22) (oi := { dst := some 107, op := _, type := _, pos := _, after := _, guard := _ }) (v := ?v3_22) rfl (by kernel_rfl) (by kernel_rfl) (by kernel_rfl) (fun _ _ _ h => h) (Or.inl ⟨by rfl, ?hy3_22⟩) hHeld ?_
          case hy3_22 => (intro w hSw; (try dsimp only at hSw); go_simp; try with_reducible rfl)
          simp only [Act.put, List.setIfInBounds_toArray, List.set_cons_zero, List.set_cons_succ]
          refine wpAnyH_ready (rs := [23]) (by kernel_rfl) (by simp) ?_
          refine AllReadyH.cons (o := { dst := some 108, op := _, type := _, pos := _, after := _, guard := _ }) rfl (fun K hK => ?_) AllReadyH.nil
          go_simp
          go_at_call 20
          refine (QL.out _ hHeld.1).mono ?_
          rintro e q4 ⟨rfl, hq4⟩
          have hk4 := CE.out _ (below_on hHeld.1 hq4)
          refine hK.out _ _ hk4 (fun hHeld => ?_)
          clear hK K
          refine wpAnyH_take (i := 24) (oi := { dst := some 109, op := _, type := _, pos := _, after := _, guard := _ }) (v := ?v3_24) rfl (by kernel_rfl) (by kernel_rfl) (by kernel_rfl) (fun _ _ _ h => h) (Or.inl ⟨by rfl, ?hy3_24⟩) hHeld ?_
          case hy3_24 => (intro w hSw; (try dsimp only at hSw); go_simp; try with_reducible rfl)
          simp only [Act.put, List.setIfInBounds_toArray, List.set_cons_zero, List.set_cons_succ]
          refine wpAnyH_take (i := 25) (oi := { dst := some 110, op := _, type := _, pos := _, after := _, guard := _ }) (v := ?v3_25) rfl (by kernel_rfl) (by kernel_rfl) (by kernel_rfl) (fun _ _ _ h => h) (Or.inl ⟨by rfl, ?hy3_25⟩) hHeld ?_
          case hy3_25 => (intro w hSw; (try dsimp only at hSw); go_simp; try with_reducible rfl)
          simp only [Act.put, List.setIfInBounds_toArray, List.set_cons_zero, List.set_cons_succ]
          refine wpAnyH_take (i := 26) (oi := { dst := some 111, op := _, type := _, pos := _, after := _, guard := _ }) (v := ?v3_26) rfl (by kernel_rfl) (by kernel_rfl) (by kernel_rfl) (fun _ _ _ h => h) (Or.inl ⟨by rfl, ?hy3_26⟩) hHeld ?_
          case hy3_26 => (intro w hSw; (try dsimp only at hSw); go_simp; try with_reducible rfl)
          simp only [Act.put, List.setIfInBounds_toArray, List.set_cons_zero, List.set_cons_succ]
          refine wpAnyH_done (by kernel_rfl) ?_ _
          have H3 := Lib.hid hk4.1
          clear hk3 hk4 hHeld hq3 hq4
          go_wp2_with fail
          go_roundw
          case rel => exact ⟨j + 1, m, by omega, by go_num, by go_num, by omega, HN0, H3.out⟩
          case measure => simp [intOf]; omega
        · have dq2 : (zk == 2) = false := beq_eq_false_iff_ne.2 hk2
          refine wp_region_held_drew (S := fun u => (Below X.heap.size X u ∧ u.cell? ⟨zb, zp + j * 4, none⟩ = some (.int .i64 zk) ∧ u.cell? ⟨zb, zp + j * 4 + 1, none⟩ = some (.int .i64 zi) ∧ u.cell? ⟨zb, zp + j * 4 + 2, none⟩ = some (.int .i64 zr) ∧ u.cell? ⟨zb, zp + j * 4 + 3, none⟩ = some (.string zd) ∧ u.cell? ⟨w5.heap.size, 0, none⟩ = some (.int .i64 x.k) ∧ u.cell? ⟨w5.heap.size, 1, none⟩ = some (.int .i64 x.i) ∧ u.cell? ⟨w5.heap.size, 2, none⟩ = some (.int .i64 x.r) ∧ u.cell? ⟨w5.heap.size, 3, none⟩ = some (.string x.id) ∧ u.cell? ⟨kb, 0, none⟩ = some (.int .i64 x.k) ∧ u.cell? ⟨kb, 1, none⟩ = some (.int .i64 x.i) ∧ u.cell? ⟨kb, 2, none⟩ = some (.int .i64 x.r) ∧ u.cell? ⟨kb, 3, none⟩ = some (.string x.id) ∧ u.cell? ⟨kb, 4, none⟩ = some (.slice Aq1 xs.length c1) ∧ u.cell? ⟨kb, 5, none⟩ = some (.slice Aq2 ys.length c2) ∧ u.cell? ⟨kb, 6, none⟩ = some (.slice Aq3 zs.length c3) ∧ u.cell? ⟨W.heap.size, 0, none⟩ = some (.int .i64 c.free) ∧ u.cell? ⟨W.heap.size, 1, none⟩ = some vs ∧ u.cell? ⟨W.heap.size, 2, none⟩ = some vf)) (by kernel_rfl) (CE.out _ (below_dn H2.out 1)) (fun hHeld => ?_)
          refine wpAnyH_take (i := 0) (oi := { dst := some 85, op := _, type := _, pos := _, after := _, guard := _ }) (v := ?v4_0) rfl (by kernel_rfl) (by kernel_rfl) (by kernel_rfl) (fun _ _ _ h => h) (Or.inl ⟨by rfl, ?hy4_0⟩) hHeld ?_
          case hy4_0 => (intro w hSw; (try dsimp only at hSw); go_simp; try with_reducible rfl)
          simp only [Act.put, List.setIfInBounds_toArray, List.set_cons_zero, List.set_cons_succ]
          refine wpAnyH_take (i := 1) (oi := { dst := some 86, op := _, type := _, pos := _, after := _, guard := _ }) (v := ?v4_1) rfl (by kernel_rfl) (by kernel_rfl) (by kernel_rfl) (fun _ _ _ h => h) (Or.inl ⟨by rfl, ?hy4_1⟩) hHeld ?_
          case hy4_1 => (intro w hSw; (try dsimp only at hSw); go_simp; try with_reducible rfl)
          simp only [Act.put, List.setIfInBounds_toArray, List.set_cons_zero, List.set_cons_succ]
          refine wpAnyH_take (i := 2) (oi := { dst := some 87, op := _, type := _, pos := _, after := _, guard := _ }) (v := ?v4_2) rfl (by kernel_rfl) (by kernel_rfl) (by kernel_rfl) (fun _ _ _ h => h) (Or.inl ⟨by rfl, ?hy4_2⟩) hHeld ?_
          case hy4_2 => (intro w hSw; (try dsimp only at hSw); go_simp; try with_reducible rfl)
          simp only [Act.put, List.setIfInBounds_toArray, List.set_cons_zero, List.set_cons_succ]
          refine wpAnyH_take (i := 3) (oi := { dst := some 88, op := _, type := _, pos := _, after := _, guard := _ }) (v := ?v4_3) rfl (by kernel_rfl) (by kernel_rfl) (by kernel_rfl) (fun _ _ _ h => h) (Or.inl ⟨by rfl, ?hy4_3⟩) hHeld ?_
          case hy4_3 => (intro w hSw; (try dsimp only at hSw); go_simp; try with_reducible rfl)
          simp only [Act.put, List.setIfInBounds_toArray, List.set_cons_zero, List.set_cons_succ]
          refine wpAnyH_take (i := 4) (oi := { dst := some 89, op := _, type := _, pos := _, after := _, guard := _ }) (v := ?v4_4) rfl (by kernel_rfl) (by kernel_rfl) (by kernel_rfl) (fun _ _ _ h => h) (Or.inl ⟨by rfl, ?hy4_4⟩) hHeld ?_
          case hy4_4 => (intro w hSw; (try dsimp only at hSw); go_simp; try with_reducible rfl)
          simp only [Act.put, List.setIfInBounds_toArray, List.set_cons_zero, List.set_cons_succ]
          refine wpAnyH_take (i := 5) (oi := { dst := some 90, op := _, type := _, pos := _, after := _, guard := _ }) (v := ?v4_5) rfl (by kernel_rfl) (by kernel_rfl) (by kernel_rfl) (fun _ _ _ h => h) (Or.inl ⟨by rfl, ?hy4_5⟩) hHeld ?_
          case hy4_5 => (intro w hSw; (try dsimp only at hSw); go_simp; try with_reducible rfl)
          simp only [Act.put, List.setIfInBounds_toArray, List.set_cons_zero, List.set_cons_succ]
          refine wpAnyH_take (i := 6) (oi := { dst := some 91, op := _, type := _, pos := _, after := _, guard := _ }) (v := ?v4_6) rfl (by kernel_rfl) (by kernel_rfl) (by kernel_rfl) (fun _ _ _ h => h) (Or.inl ⟨by rfl, ?hy4_6⟩) hHeld ?_
          case hy4_6 => (intro w hSw; (try dsimp only at hSw); go_simp; try with_reducible rfl)
          simp only [Act.put, List.setIfInBounds_toArray, List.set_cons_zero, List.set_cons_succ]
          refine wpAnyH_take (i := 7) (oi := { dst := some 92, op := _, type := _, pos := _, after := _, guard := _ }) (v := undef) rfl (by kernel_rfl) (by kernel_rfl) (by kernel_rfl) (fun _ _ _ h => h) (Or.inr ⟨by rfl, rfl⟩) hHeld ?_
          simp only [Act.put, List.setIfInBounds_toArray, List.set_cons_zero, List.set_cons_succ]
          refine wpAnyH_take (i := 8) (oi := { dst := some 93, op := _, type := _, pos := _, after := _, guard := _ }) (v := undef) rfl (by kernel_rfl) (by kernel_rfl) (by kernel_rfl) (fun _ _ _ h => h) (Or.inr ⟨by rfl, rfl⟩) hHeld ?_
          simp only [Act.put, List.setIfInBounds_toArray, List.set_cons_zero, List.set_cons_succ]
          refine wpAnyH_take (i := 9) (oi := { dst := some 94, op := _, type := _, pos := _, after := _, guard := _ }) (v := undef) rfl (by kernel_rfl) (by kernel_rfl) (by kernel_rfl) (fun _ _ _ h => h) (Or.inr ⟨by rfl, rfl⟩) hHeld ?_
          simp only [Act.put, List.setIfInBounds_toArray, List.set_cons_zero, List.set_cons_succ]
          refine wpAnyH_take (i := 10) (oi := { dst := some 95, op := _, type := _, pos := _, after := _, guard := _ }) (v := undef) rfl (by kernel_rfl) (by kernel_rfl) (by kernel_rfl) (fun _ _ _ h => h) (Or.inr ⟨by rfl, rfl⟩) hHeld ?_
          simp only [Act.put, List.setIfInBounds_toArray, List.set_cons_zero, List.set_cons_succ]
          refine wpAnyH_take (i := 11) (oi := { dst := some 96, op := _, type := _, pos := _, after := _, guard := _ }) (v := undef) rfl (by kernel_rfl) (by kernel_rfl) (by kernel_rfl) (fun _ _ _ h => h) (Or.inr ⟨by rfl, rfl⟩) hHeld ?_
          simp only [Act.put, List.setIfInBounds_toArray, List.set_cons_zero, List.set_cons_succ]
          refine wpAnyH_take (i := 12) (oi := { dst := some 97, op := _, type := _, pos := _, after := _, guard := _ }) (v := undef) rfl (by kernel_rfl) (by kernel_rfl) (by kernel_rfl) (fun _ _ _ h => h) (Or.inr ⟨by rfl, rfl⟩) hHeld ?_
          simp only [Act.put, List.setIfInBounds_toArray, List.set_cons_zero, List.set_cons_succ]
          refine wpAnyH_take (i := 13) (oi := { dst := some 98, op := _, type := _, pos := _, after := _, guard := _ }) (v := undef) rfl (by kernel_rfl) (by kernel_rfl) (by kernel_rfl) (fun _ _ _ h => h) (Or.inr ⟨by rfl, rfl⟩) hHeld ?_
          simp only [Act.put, List.setIfInBounds_toArray, List.set_cons_zero, List.set_cons_succ]
          refine wpAnyH_take (i := 14) (oi := { dst := some 99, op := _, type := _, pos := _, after := _, guard := _ }) (v := undef) rfl (by kernel_rfl) (by kernel_rfl) (by kernel_rfl) (fun _ _ _ h => h) (Or.inr ⟨by rfl, rfl⟩) hHeld ?_
          simp only [Act.put, List.setIfInBounds_toArray, List.set_cons_zero, List.set_cons_succ]
          refine wpAnyH_take (i := 15) (oi := { dst := some 100, op := _, type := _, pos := _, after := _, guard := _ }) (v := undef) rfl (by kernel_rfl) (by kernel_rfl) (by kernel_rfl) (fun _ _ _ h => h) (Or.inr ⟨by rfl, rfl⟩) hHeld ?_
          simp only [Act.put, List.setIfInBounds_toArray, List.set_cons_zero, List.set_cons_succ]
          refine wpAnyH_take (i := 16) (oi := { dst := some 101, op := _, type := _, pos := _, after := _, guard := _ }) (v := undef) rfl (by kernel_rfl) (by kernel_rfl) (by kernel_rfl) (fun _ _ _ h => h) (Or.inr ⟨by rfl, rfl⟩) hHeld ?_
          simp only [Act.put, List.setIfInBounds_toArray, List.set_cons_zero, List.set_cons_succ]
          refine wpAnyH_take (i := 17) (oi := { dst := some 102, op := _, type := _, pos := _, after := _, guard := _ }) (v := undef) rfl (by kernel_rfl) (by kernel_rfl) (by kernel_rfl) (fun _ _ _ h => h) (Or.inr ⟨by rfl, rfl⟩) hHeld ?_
          simp only [Act.put, List.setIfInBounds_toArray, List.set_cons_zero, List.set_cons_succ]
          refine wpAnyH_take (i := 18) (oi := { dst := some 103, op := _, type := _, pos := _, after := _, guard := _ }) (v := undef) rfl (by kernel_rfl) (by kernel_rfl) (by kernel_rfl) (fun _ _ _ h => h) (Or.inr ⟨by rfl, rfl⟩) hHeld ?_
          simp only [Act.put, List.setIfInBounds_toArray, List.set_cons_zero, List.set_cons_succ]
          refine wpAnyH_take (i := 19) (oi := { dst := some 104, op := _, type := _, pos := _, after := _, guard := _ }) (v := undef) rfl (by kernel_rfl) (by kernel_rfl) (by kernel_rfl) (fun _ _ _ h => h) (Or.inr ⟨by rfl, rfl⟩) hHeld ?_
          simp only [Act.put, List.setIfInBounds_toArray, List.set_cons_zero, List.set_cons_succ]
          refine wpAnyH_take (i := 20) (oi := { dst := some 105, op := _, type := _, pos := _, after := _, guard := _ }) (v := undef) rfl (by kernel_rfl) (by kernel_rfl) (by kernel_rfl) (fun _ _ _ h => h) (Or.inr ⟨by rfl, rfl⟩) hHeld ?_
          simp only [Act.put, List.setIfInBounds_toArray, List.set_cons_zero, List.set_cons_succ]
          refine wpAnyH_take (i := 21) (oi := { dst := some 106, op := _, type := _, pos := _, after := _, guard := _ }) (v := undef) rfl (by kernel_rfl) (by kernel_rfl) (by kernel_rfl) (fun _ _ _ h => h) (Or.inr ⟨by rfl, rfl⟩) hHeld ?_
          simp only [Act.put, List.setIfInBounds_toArray, List.set_cons_zero, List.set_cons_succ]
          refine wpAnyH_take (i := 22) (oi := { dst := some 107, op := _, type := _, pos := _, after := _, guard := _ }) (v := undef) rfl (by kernel_rfl) (by kernel_rfl) (by kernel_rfl) (fun _ _ _ h => h) (Or.inr ⟨by rfl, rfl⟩) hHeld ?_
          simp only [Act.put, List.setIfInBounds_toArray, List.set_cons_zero, List.set_cons_succ]
          refine wpAnyH_take (i := 23) (oi := { dst := some 108, op := _, type := _, pos := _, after := _, guard := _ }) (v := undef) rfl (by kernel_rfl) (by kernel_rfl) (by kernel_rfl) (fun _ _ _ h => h) (Or.inr ⟨by rfl, rfl⟩) hHeld ?_
          simp only [Act.put, List.setIfInBounds_toArray, List.set_cons_zero, List.set_cons_succ]
          refine wpAnyH_take (i := 24) (oi := { dst := some 109, op := _, type := _, pos := _, after := _, guard := _ }) (v := undef) rfl (by kernel_rfl) (by kernel_rfl) (by kernel_rfl) (fun _ _ _ h => h) (Or.inr ⟨by rfl, rfl⟩) hHeld ?_
          simp only [Act.put, List.setIfInBounds_toArray, List.set_cons_zero, List.set_cons_succ]
          refine wpAnyH_take (i := 25) (oi := { dst := some 110, op := _, type := _, pos := _, after := _, guard := _ }) (v := undef) rfl (by kernel_rfl) (by kernel_rfl) (by kernel_rfl) (fun _ _ _ h => h) (Or.inr ⟨by rfl, rfl⟩) hHeld ?_
          simp only [Act.put, List.setIfInBounds_toArray, List.set_cons_zero, List.set_cons_succ]
          refine wpAnyH_take (i := 26) (oi := { dst := some 111, op := _, type := _, pos := _, after := _, guard := _ }) (v := ?v4_26) rfl (by kernel_rfl) (by kernel_rfl) (by kernel_rfl) (fun _ _ _ h => h) (Or.inl ⟨by rfl, ?hy4_26⟩) hHeld ?_
          case hy4_26 => (intro w hSw; (try dsimp only at hSw); go_simp; try with_reducible rfl)
          simp only [Act.put, List.setIfInBounds_toArray, List.set_cons_zero, List.set_cons_succ]
          refine wpAnyH_done (by kernel_rfl) ?_ _
          have H3 := Lib.hid hHeld.1
          clear hHeld
          go_wp2_with fail
          go_roundw
          case rel => exact ⟨j + 1, m, by omega, by go_num, by go_num, by omega, HN0, H3.out⟩
          case measure => simp [intOf]; omega
      · have HN1 := Lib.hid (show m + 1 = (l.take (j + 1)).countP (fun z => eqK z x) by rw [HTK.out, ← HBB.out]; rfl)
        go_wp2_with fail
        by_cases hk2 : zk = 2
        · subst hk2
          have hzero := Lib.hid (HZERO.out HBB.out.symm rfl)
          have QT : Hid (∀ u, Below X.heap.size X u → Calls Try.prog 19 #[rsq x (.slice Aq1 xs.length c1) (.slice Aq2 ys.length c2) (.slice Aq3 zs.length c3), .int .i64 zi] u fun e w' => e = .returned (.int .i64 0) ∧ Below u.heap.size u w') := Lib.hid (fun u hu => by have := QT0.out u hu; rwa [hzero.out] at this)
          refine wp_region_held_drew (S := fun u => (Below X.heap.size X u ∧ u.cell? ⟨zb, zp + j * 4, none⟩ = some (.int .i64 2) ∧ u.cell? ⟨zb, zp + j * 4 + 1, none⟩ = some (.int .i64 zi) ∧ u.cell? ⟨zb, zp + j * 4 + 2, none⟩ = some (.int .i64 zr) ∧ u.cell? ⟨zb, zp + j * 4 + 3, none⟩ = some (.string zd) ∧ u.cell? ⟨w5.heap.size, 0, none⟩ = some (.int .i64 x.k) ∧ u.cell? ⟨w5.heap.size, 1, none⟩ = some (.int .i64 x.i) ∧ u.cell? ⟨w5.heap.size, 2, none⟩ = some (.int .i64 x.r) ∧ u.cell? ⟨w5.heap.size, 3, none⟩ = some (.string x.id) ∧ u.cell? ⟨kb, 0, none⟩ = some (.int .i64 x.k) ∧ u.cell? ⟨kb, 1, none⟩ = some (.int .i64 x.i) ∧ u.cell? ⟨kb, 2, none⟩ = some (.int .i64 x.r) ∧ u.cell? ⟨kb, 3, none⟩ = some (.string x.id) ∧ u.cell? ⟨kb, 4, none⟩ = some (.slice Aq1 xs.length c1) ∧ u.cell? ⟨kb, 5, none⟩ = some (.slice Aq2 ys.length c2) ∧ u.cell? ⟨kb, 6, none⟩ = some (.slice Aq3 zs.length c3) ∧ u.cell? ⟨W.heap.size, 0, none⟩ = some (.int .i64 c.free) ∧ u.cell? ⟨W.heap.size, 1, none⟩ = some vs ∧ u.cell? ⟨W.heap.size, 2, none⟩ = some vf)) (by kernel_rfl) (CE.out _ (below_dn H2.out 1)) (fun hHeld => ?_)
          refine wpAnyH_take (i := 0) (oi := { dst := some 69, op := _, type := _, pos := _, after := _, guard := _ }) (v := ?v5_0) rfl (by kernel_rfl) (by kernel_rfl) (by kernel_rfl) (fun _ _ _ h => h) (Or.inl ⟨by rfl, ?hy5_0⟩) hHeld ?_
          case hy5_0 => (intro w hSw; (try dsimp only at hSw); go_simp; try with_reducible rfl)
          simp only [Act.put, List.setIfInBounds_toArray, List.set_cons_zero, List.set_cons_succ]
          refine wpAnyH_take (i := 1) (oi := { dst := some 70, op := _, type := _, pos := _, after := _, guard := _ }) (v := ?v5_1) rfl (by kernel_rfl) (by kernel_rfl) (by kernel_rfl) (fun _ _ _ h => h) (Or.inl ⟨by rfl, ?hy5_1⟩) hHeld ?_
          case hy5_1 => (intro w hSw; (try dsimp only at hSw); go_simp; try with_reducible rfl)
          simp only [Act.put, List.setIfInBounds_toArray, List.set_cons_zero, List.set_cons_succ]
          refine wpAnyH_take (i := 2) (oi := { dst := some 71, op := _, type := _, pos := _, after := _, guard := _ }) (v := ?v5_2) rfl (by kernel_rfl) (by kernel_rfl) (by kernel_rfl) (fun _ _ _ h => h) (Or.inl ⟨by rfl, ?hy5_2⟩) hHeld ?_
          case hy5_2 => (intro w hSw; (try dsimp only at hSw); go_simp; try with_reducible rfl)
          simp only [Act.put, List.setIfInBounds_toArray, List.set_cons_zero, List.set_cons_succ]
          refine wpAnyH_take (i := 3) (oi := { dst := some 72, op := _, type := _, pos := _, after := _, guard := _ }) (v := ?v5_3) rfl (by kernel_rfl) (by kernel_rfl) (by kernel_rfl) (fun _ _ _ h => h) (Or.inl ⟨by rfl, ?hy5_3⟩) hHeld ?_
          case hy5_3 => (intro w hSw; (try dsimp only at hSw); go_simp; try with_reducible rfl)
          simp only [Act.put, List.setIfInBounds_toArray, List.set_cons_zero, List.set_cons_succ]
          refine wpAnyH_take (i := 4) (oi := { dst := some 73, op := _, type := _, pos := _, after := _, guard := _ }) (v := ?v5_4) rfl (by kernel_rfl) (by kernel_rfl) (by kernel_rfl) (fun _ _ _ h => h) (Or.inl ⟨by rfl, ?hy5_4⟩) hHeld ?_
          case hy5_4 => (intro w hSw; (try dsimp only at hSw); go_simp; try with_reducible rfl)
          simp only [Act.put, List.setIfInBounds_toArray, List.set_cons_zero, List.set_cons_succ]
          refine wpAnyH_take (i := 5) (oi := { dst := some 74, op := _, type := _, pos := _, after := _, guard := _ }) (v := ?v5_5) rfl (by kernel_rfl) (by kernel_rfl) (by kernel_rfl) (fun _ _ _ h => h) (Or.inl ⟨by rfl, ?hy5_5⟩) hHeld ?_
          case hy5_5 => (intro w hSw; (try dsimp only at hSw); go_simp; try with_reducible rfl)
          simp only [Act.put, List.setIfInBounds_toArray, List.set_cons_zero, List.set_cons_succ]
          refine wpAnyH_take (i := 6) (oi := { dst := some 75, op := _, type := _, pos := _, after := _, guard := _ }) (v := ?v5_6) rfl (by kernel_rfl) (by kernel_rfl) (by kernel_rfl) (fun _ _ _ h => h) (Or.inl ⟨by rfl, ?hy5_6⟩) hHeld ?_
          case hy5_6 => (intro w hSw; (try dsimp only at hSw); go_simp; try with_reducible rfl)
          simp only [Act.put, List.setIfInBounds_toArray, List.set_cons_zero, List.set_cons_succ]
          refine wpAnyH_take (i := 7) (oi := { dst := some 76, op := _, type := _, pos := _, after := _, guard := _ }) (v := ?v5_7) rfl (by kernel_rfl) (by kernel_rfl) (by kernel_rfl) (fun _ _ _ h => h) (Or.inl ⟨by rfl, ?hy5_7⟩) hHeld ?_
          case hy5_7 => (intro w hSw; (try dsimp only at hSw); go_simp; try with_reducible rfl)
          simp only [Act.put, List.setIfInBounds_toArray, List.set_cons_zero, List.set_cons_succ]
          refine wpAnyH_take (i := 8) (oi := { dst := some 77, op := _, type := _, pos := _, after := _, guard := _ }) (v := ?v5_8) rfl (by kernel_rfl) (by kernel_rfl) (by kernel_rfl) (fun _ _ _ h => h) (Or.inl ⟨by rfl, ?hy5_8⟩) hHeld ?_
          case hy5_8 => (intro w hSw; (try dsimp only at hSw); go_simp; try with_reducible rfl)
          simp only [Act.put, List.setIfInBounds_toArray, List.set_cons_zero, List.set_cons_succ]
          refine wpAnyH_take (i := 9) (oi := { dst := some 78, op := _, type := _, pos := _, after := _, guard := _ }) (v := ?v5_9) rfl (by kernel_rfl) (by kernel_rfl) (by kernel_rfl) (fun _ _ _ h => h) (Or.inl ⟨by rfl, ?hy5_9⟩) hHeld ?_
          case hy5_9 => (intro w hSw; (try dsimp only at hSw); go_simp; try with_reducible rfl)
          simp only [Act.put, List.setIfInBounds_toArray, List.set_cons_zero, List.set_cons_succ]
          refine wpAnyH_take (i := 10) (oi := { dst := some 79, op := _, type := _, pos := _, after := _, guard := _ }) (v := ?v5_10) rfl (by kernel_rfl) (by kernel_rfl) (by kernel_rfl) (fun _ _ _ h => h) (Or.inl ⟨by rfl, ?hy5_10⟩) hHeld ?_
          case hy5_10 => (intro w hSw; (try dsimp only at hSw); go_simp; try with_reducible rfl)
          simp only [Act.put, List.setIfInBounds_toArray, List.set_cons_zero, List.set_cons_succ]
          refine wpAnyH_take (i := 11) (oi := { dst := some 80, op := _, type := _, pos := _, after := _, guard := _ }) (v := ?v5_11) rfl (by kernel_rfl) (by kernel_rfl) (by kernel_rfl) (fun _ _ _ h => h) (Or.inl ⟨by rfl, ?hy5_11⟩) hHeld ?_
          case hy5_11 => (intro w hSw; (try dsimp only at hSw); go_simp; try with_reducible rfl)
          simp only [Act.put, List.setIfInBounds_toArray, List.set_cons_zero, List.set_cons_succ]
          refine wpAnyH_take (i := 12) (oi := { dst := some 81, op := _, type := _, pos := _, after := _, guard := _ }) (v := ?v5_12) rfl (by kernel_rfl) (by kernel_rfl) (by kernel_rfl) (fun _ _ _ h => h) (Or.inl ⟨by rfl, ?hy5_12⟩) hHeld ?_
          case hy5_12 => (intro w hSw; (try dsimp only at hSw); go_simp; try with_reducible rfl)
          simp only [Act.put, List.setIfInBounds_toArray, List.set_cons_zero, List.set_cons_succ]
          refine wpAnyH_ready (rs := [13]) (by kernel_rfl) (by simp) ?_
          refine AllReadyH.cons (o := { dst := some 82, op := _, type := _, pos := _, after := _, guard := _ }) rfl (fun K hK => ?_) AllReadyH.nil
          go_simp
          go_at_call 19
          refine (QT.out _ hHeld.1).mono ?_
          rintro e q3 ⟨rfl, hq3⟩
          have hk3 := CE.out _ (below_on hHeld.1 hq3)
          refine hK.out _ _ hk3 (fun hHeld => ?_)
          clear hK K
          refine wpAnyH_take (i := 14) (oi := { dst := some 83, op := _, type := _, pos := _, after := _, guard := _ }) (v := ?v5_14) rfl (by kernel_rfl) (by kernel_rfl) (by kernel_rfl) (fun _ _ _ h => h) (Or.inl ⟨by rfl, ?hy5_14⟩) hHeld ?_
          case hy5_14 => (intro w hSw; (try dsimp only at hSw); go_simp; try with_reducible rfl)
          simp only [Act.put, List.setIfInBounds_toArray, List.set_cons_zero, List.set_cons_succ]
          refine wpAnyH_take (i := 15) (oi := { dst := some 84, op := _, type := _, pos := _, after := _, guard := _ }) (v := ?v5_15) rfl (by kernel_rfl) (by kernel_rfl) (by kernel_rfl) (fun _ _ _ h => h) (Or.inl ⟨by rfl, ?hy5_15⟩) hHeld ?_
          case hy5_15 => (intro w hSw; (try dsimp only at hSw); go_simp; try with_reducible rfl)
          simp only [Act.put, List.setIfInBounds_toArray, List.set_cons_zero, List.set_cons_succ]
          refine wpAnyH_done (by kernel_rfl) ?_ _
          have H3 := Lib.hid hk3.1
          clear hk3 hHeld hq3
          go_wp2_with fail
          go_roundw
          case rel => exact ⟨j + 1, m + 1, by omega, by go_num, by go_num, by omega, HN1, H3.out⟩
          case measure => simp [intOf]; omega
        · have dq2 : (zk == 2) = false := beq_eq_false_iff_ne.2 hk2
          refine wp_region_held_drew (S := fun u => (Below X.heap.size X u ∧ u.cell? ⟨zb, zp + j * 4, none⟩ = some (.int .i64 zk) ∧ u.cell? ⟨zb, zp + j * 4 + 1, none⟩ = some (.int .i64 zi) ∧ u.cell? ⟨zb, zp + j * 4 + 2, none⟩ = some (.int .i64 zr) ∧ u.cell? ⟨zb, zp + j * 4 + 3, none⟩ = some (.string zd) ∧ u.cell? ⟨w5.heap.size, 0, none⟩ = some (.int .i64 x.k) ∧ u.cell? ⟨w5.heap.size, 1, none⟩ = some (.int .i64 x.i) ∧ u.cell? ⟨w5.heap.size, 2, none⟩ = some (.int .i64 x.r) ∧ u.cell? ⟨w5.heap.size, 3, none⟩ = some (.string x.id) ∧ u.cell? ⟨kb, 0, none⟩ = some (.int .i64 x.k) ∧ u.cell? ⟨kb, 1, none⟩ = some (.int .i64 x.i) ∧ u.cell? ⟨kb, 2, none⟩ = some (.int .i64 x.r) ∧ u.cell? ⟨kb, 3, none⟩ = some (.string x.id) ∧ u.cell? ⟨kb, 4, none⟩ = some (.slice Aq1 xs.length c1) ∧ u.cell? ⟨kb, 5, none⟩ = some (.slice Aq2 ys.length c2) ∧ u.cell? ⟨kb, 6, none⟩ = some (.slice Aq3 zs.length c3) ∧ u.cell? ⟨W.heap.size, 0, none⟩ = some (.int .i64 c.free) ∧ u.cell? ⟨W.heap.size, 1, none⟩ = some vs ∧ u.cell? ⟨W.heap.size, 2, none⟩ = some vf)) (by kernel_rfl) (CE.out _ (below_dn H2.out 1)) (fun hHeld => ?_)
          refine wpAnyH_take (i := 0) (oi := { dst := some 69, op := _, type := _, pos := _, after := _, guard := _ }) (v := ?v6_0) rfl (by kernel_rfl) (by kernel_rfl) (by kernel_rfl) (fun _ _ _ h => h) (Or.inl ⟨by rfl, ?hy6_0⟩) hHeld ?_
          case hy6_0 => (intro w hSw; (try dsimp only at hSw); go_simp; try with_reducible rfl)
          simp only [Act.put, List.setIfInBounds_toArray, List.set_cons_zero, List.set_cons_succ]
          refine wpAnyH_take (i := 1) (oi := { dst := some 70, op := _, type := _, pos := _, after := _, guard := _ }) (v := ?v6_1) rfl (by kernel_rfl) (by kernel_rfl) (by kernel_rfl) (fun _ _ _ h => h) (Or.inl ⟨by rfl, ?hy6_1⟩) hHeld ?_
          case hy6_1 => (intro w hSw; (try dsimp only at hSw); go_simp; try with_reducible rfl)
          simp only [Act.put, List.setIfInBounds_toArray, List.set_cons_zero, List.set_cons_succ]
          refine wpAnyH_take (i := 2) (oi := { dst := some 71, op := _, type := _, pos := _, after := _, guard := _ }) (v := ?v6_2) rfl (by kernel_rfl) (by kernel_rfl) (by kernel_rfl) (fun _ _ _ h => h) (Or.inl ⟨by rfl, ?hy6_2⟩) hHeld ?_
          case hy6_2 => (intro w hSw; (try dsimp only at hSw); go_simp; try with_reducible rfl)
          simp only [Act.put, List.setIfInBounds_toArray, List.set_cons_zero, List.set_cons_succ]
          refine wpAnyH_take (i := 3) (oi := { dst := some 72, op := _, type := _, pos := _, after := _, guard := _ }) (v := ?v6_3) rfl (by kernel_rfl) (by kernel_rfl) (by kernel_rfl) (fun _ _ _ h => h) (Or.inl ⟨by rfl, ?hy6_3⟩) hHeld ?_
          case hy6_3 => (intro w hSw; (try dsimp only at hSw); go_simp; try with_reducible rfl)
          simp only [Act.put, List.setIfInBounds_toArray, List.set_cons_zero, List.set_cons_succ]
          refine wpAnyH_take (i := 4) (oi := { dst := some 73, op := _, type := _, pos := _, after := _, guard := _ }) (v := ?v6_4) rfl (by kernel_rfl) (by kernel_rfl) (by kernel_rfl) (fun _ _ _ h => h) (Or.inl ⟨by rfl, ?hy6_4⟩) hHeld ?_
          case hy6_4 => (intro w hSw; (try dsimp only at hSw); go_simp; try with_reducible rfl)
          simp only [Act.put, List.setIfInBounds_toArray, List.set_cons_zero, List.set_cons_succ]
          refine wpAnyH_take (i := 5) (oi := { dst := some 74, op := _, type := _, pos := _, after := _, guard := _ }) (v := ?v6_5) rfl (by kernel_rfl) (by kernel_rfl) (by kernel_rfl) (fun _ _ _ h => h) (Or.inl ⟨by rfl, ?hy6_5⟩) hHeld ?_
          case hy6_5 => (intro w hSw; (try dsimp only at hSw); go_simp; try with_reducible rfl)
          simp only [Act.put, List.setIfInBounds_toArray, List.set_cons_zero, List.set_cons_succ]
          refine wpAnyH_take (i := 6) (oi := { dst := some 75, op := _, type := _, pos := _, after := _, guard := _ }) (v := ?v6_6) rfl (by kernel_rfl) (by kernel_rfl) (by kernel_rfl) (fun _ _ _ h => h) (Or.inl ⟨by rfl, ?hy6_6⟩) hHeld ?_
          case hy6_6 => (intro w hSw; (try dsimp only at hSw); go_simp; try with_reducible rfl)
          simp only [Act.put, List.setIfInBounds_toArray, List.set_cons_zero, List.set_cons_succ]
          refine wpAnyH_take (i := 7) (oi := { dst := some 76, op := _, type := _, pos := _, after := _, guard := _ }) (v := undef) rfl (by kernel_rfl) (by kernel_rfl) (by kernel_rfl) (fun _ _ _ h => h) (Or.inr ⟨by rfl, rfl⟩) hHeld ?_
          simp only [Act.put, List.setIfInBounds_toArray, List.set_cons_zero, List.set_cons_succ]
          refine wpAnyH_take (i := 8) (oi := { dst := some 77, op := _, type := _, pos := _, after := _, guard := _ }) (v := undef) rfl (by kernel_rfl) (by kernel_rfl) (by kernel_rfl) (fun _ _ _ h => h) (Or.inr ⟨by rfl, rfl⟩) hHeld ?_
          simp only [Act.put, List.setIfInBounds_toArray, List.set_cons_zero, List.set_cons_succ]
          refine wpAnyH_take (i := 9) (oi := { dst := some 78, op := _, type := _, pos := _, after := _, guard := _ }) (v := undef) rfl (by kernel_rfl) (by kernel_rfl) (by kernel_rfl) (fun _ _ _ h => h) (Or.inr ⟨by rfl, rfl⟩) hHeld ?_
          simp only [Act.put, List.setIfInBounds_toArray, List.set_cons_zero, List.set_cons_succ]
          refine wpAnyH_take (i := 10) (oi := { dst := some 79, op := _, type := _, pos := _, after := _, guard := _ }) (v := undef) rfl (by kernel_rfl) (by kernel_rfl) (by kernel_rfl) (fun _ _ _ h => h) (Or.inr ⟨by rfl, rfl⟩) hHeld ?_
          simp only [Act.put, List.setIfInBounds_toArray, List.set_cons_zero, List.set_cons_succ]
          refine wpAnyH_take (i := 11) (oi := { dst := some 80, op := _, type := _, pos := _, after := _, guard := _ }) (v := undef) rfl (by kernel_rfl) (by kernel_rfl) (by kernel_rfl) (fun _ _ _ h => h) (Or.inr ⟨by rfl, rfl⟩) hHeld ?_
          simp only [Act.put, List.setIfInBounds_toArray, List.set_cons_zero, List.set_cons_succ]
          refine wpAnyH_take (i := 12) (oi := { dst := some 81, op := _, type := _, pos := _, after := _, guard := _ }) (v := undef) rfl (by kernel_rfl) (by kernel_rfl) (by kernel_rfl) (fun _ _ _ h => h) (Or.inr ⟨by rfl, rfl⟩) hHeld ?_
          simp only [Act.put, List.setIfInBounds_toArray, List.set_cons_zero, List.set_cons_succ]
          refine wpAnyH_take (i := 13) (oi := { dst := some 82, op := _, type := _, pos := _, after := _, guard := _ }) (v := undef) rfl (by kernel_rfl) (by kernel_rfl) (by kernel_rfl) (fun _ _ _ h => h) (Or.inr ⟨by rfl, rfl⟩) hHeld ?_
          simp only [Act.put, List.setIfInBounds_toArray, List.set_cons_zero, List.set_cons_succ]
          refine wpAnyH_take (i := 14) (oi := { dst := some 83, op := _, type := _, pos := _, after := _, guard := _ }) (v := undef) rfl (by kernel_rfl) (by kernel_rfl) (by kernel_rfl) (fun _ _ _ h => h) (Or.inr ⟨by rfl, rfl⟩) hHeld ?_
          simp only [Act.put, List.setIfInBounds_toArray, List.set_cons_zero, List.set_cons_succ]
          refine wpAnyH_take (i := 15) (oi := { dst := some 84, op := _, type := _, pos := _, after := _, guard := _ }) (v := ?v6_15) rfl (by kernel_rfl) (by kernel_rfl) (by kernel_rfl) (fun _ _ _ h => h) (Or.inl ⟨by rfl, ?hy6_15⟩) hHeld ?_
          case hy6_15 => (intro w hSw; (try dsimp only at hSw); go_simp; try with_reducible rfl)
          simp only [Act.put, List.setIfInBounds_toArray, List.set_cons_zero, List.set_cons_succ]
          refine wpAnyH_done (by kernel_rfl) ?_ _
          have H3 := Lib.hid hHeld.1
          clear hHeld
          go_wp2_with fail
          go_roundw
          case rel => exact ⟨j + 1, m + 1, by omega, by go_num, by go_num, by omega, HN1, H3.out⟩
          case measure => simp [intOf]; omega
    · obtain rfl : j = l.length := by omega
      have hm1 : m = 1 := by have := HM.out; rw [List.take_length] at this; rw [this]; exact EC.out
      subst hm1
      obtain ⟨p0, p1, p2, p3⟩ := cd_row (row_on XP.out HB.out)
      obtain ⟨r0, r1, r2, r3, r4, r5, r6, -⟩ := row7 (row_on XR.out HB.out)
      have HZ := Lib.hid (below_on BXW.out HB.out)
      by_cases hk2 : x.k = 2
      · have hs := Lib.hid (show (xs.length : Int) + ys.length + zs.length = (l.length : Int) - 1 - 1 by have := EL.out; rwa [if_pos hk2] at this)
        have dq2 : (x.k == 2) = true := beq_iff_eq.2 hk2
        clear hk2
        go_wp2_with fail
        go_ret
        exact ⟨ret_bool (by rw [hs.out]; simp), HZ.out⟩
      · have hs := Lib.hid (show (xs.length : Int) + ys.length + zs.length = (l.length : Int) - 1 by have := EL.out; rwa [if_neg hk2, Int.sub_zero] at this)
        have dq2 : (x.k == 2) = false := beq_eq_false_iff_ne.2 hk2
        clear hk2
        go_wp2_with fail
        go_ret
        exact ⟨ret_bool (by rw [hs.out]; simp), HZ.out⟩
/-! the law -/
section
variable (M : OP) (c : Cat) (vs vf : Value) (y day : Int) (W : World) (h : CatAt W (.agg #[.int .i64 c.free, vs, vf]) c) (ht : PT W)
include M h ht
omit ht in
set_option maxRecDepth 100000 in
theorem l21s_no (hr : (fewB c && catB c) = false) : Calls Try.prog 4 #[(.agg #[.int .i64 c.free, vs, vf]), .int .i64 y, .int .i64 day] W fun e w' => e = .returned (.bool true) ∧ Below W.heap.size W w' := by
  have B0 := Lib.hid ((Below.refl W.heap.size W).alloc (Nat.le_refl _) (.cells #[.int .i64 c.free, vs, vf] 25))
  have R0 := Lib.hid (heap_alloc_new W (.cells #[.int .i64 c.free, vs, vf] 25))
  have QW := Lib.hid (fun u => c21awake_any M u)
  have QR := Lib.hid (fun u (hu : Below W.heap.size W u) => by have := r17rt_any c _ u (h.on hu); rwa [hr] at this)
  clear hr
  go_enter Try.func4, Try.ntmps4
  go_wp2_with fail
  generalize hW1 : W.alloc (.cells #[.int .i64 c.free, vs, vf] 25) = W1 at *
  refine (QW.out _).mono ?_
  rintro e w1 ⟨rfl, hb1⟩
  have B1 := Lib.hid (below_on B0.out hb1)
  have R1 := Lib.hid (row_on R0.out hb1)
  clear hb1
  obtain ⟨y0, y1, y2, -, -, -, yz⟩ := row3 R1.out
  go_wp2_with fail
  refine (QR.out _ B1.out).mono ?_
  rintro e w2 ⟨rfl, hb2⟩
  have B2 := Lib.hid (below_on B1.out hb2)
  clear hb2 y0 y1 y2 yz
  go_wp2_with fail
  refine (QW.out _).mono ?_
  rintro e w3 ⟨rfl, hb3⟩
  have B3 := Lib.hid (below_on B2.out hb3)
  clear hb3
  go_wp2_with fail
  go_ret
  exact ⟨rfl, B3.out⟩
omit ht in
set_option maxRecDepth 100000 in
theorem l21s_bad (hr : (fewB c && catB c) = true) (hf : (snE c y day != 0) = true) : Calls Try.prog 4 #[(.agg #[.int .i64 c.free, vs, vf]), .int .i64 y, .int .i64 day] W fun e w' => e = .returned (.bool true) ∧ Below W.heap.size W w' := by
  have B0 := Lib.hid ((Below.refl W.heap.size W).alloc (Nat.le_refl _) (.cells #[.int .i64 c.free, vs, vf] 25))
  have R0 := Lib.hid (heap_alloc_new W (.cells #[.int .i64 c.free, vs, vf] 25))
  have QW := Lib.hid (fun u => c21awake_any M u)
  have QR := Lib.hid (fun u (hu : Below W.heap.size W u) => by have := r17rt_any c _ u (h.on hu); rwa [hr] at this)
  have QF := Lib.hid (fun u (hu : Below W.heap.size W u) => r18fl_any c y day _ u (h.on hu))
  generalize snE c y day = E at *
  clear hr
  go_enter Try.func4, Try.ntmps4
  go_wp2_with fail
  generalize hW1 : W.alloc (.cells #[.int .i64 c.free, vs, vf] 25) = W1 at *
  refine (QW.out _).mono ?_
  rintro e w1 ⟨rfl, hb1⟩
  have B1 := Lib.hid (below_on B0.out hb1)
  have R1 := Lib.hid (row_on R0.out hb1)
  clear hb1
  obtain ⟨y0, y1, y2, -, -, -, yz⟩ := row3 R1.out
  go_wp2_with fail
  refine (QR.out _ B1.out).mono ?_
  rintro e w2 ⟨rfl, hb2⟩
  have B2 := Lib.hid (below_on B1.out hb2)
  have R2 := Lib.hid (row_on R1.out hb2)
  clear hb2 y0 y1 y2 yz
  obtain ⟨y0, y1, y2, -, -, -, yz⟩ := row3 R2.out
  go_wp2_with fail
  refine (QF.out _ B2.out).mono ?_
  rintro e w3 ⟨rfl, hb3⟩
  have B3 := Lib.hid (below_on B2.out hb3)
  clear hb3 y0 y1 y2 yz
  go_wp2_with fail
  refine (QW.out _).mono ?_
  rintro e w4 ⟨rfl, hb4⟩
  have B4 := Lib.hid (below_on B3.out hb4)
  clear hb4
  go_wp2_with fail
  go_ret
  exact ⟨rfl, B4.out⟩
theorem l21s_ok (hr : (fewB c && catB c) = true) (hf : snE c y day = 0) : Calls Try.prog 4 #[(.agg #[.int .i64 c.free, vs, vf]), .int .i64 y, .int .i64 day] W fun e w' => e = .returned (.bool true) ∧ Below W.heap.size W w' := by
  obtain ⟨hc, g, -, -⟩ := snE_zero hf
  have hw : fewB c = true := by rw [Bool.and_eq_true] at hr; exact hr.1
  have hfl : c.fs.length ≤ 39 := by unfold fewB at hw; simp only [Bool.and_eq_true, decide_eq_true_eq] at hw; omega
  have hok := cds_ok hc hfl (itsD c.ss y) (itsD c.fs y) day
  obtain ⟨x, rest, hs⟩ : ∃ x rest, srtR (cdsOf c y day) = x :: rest := by
    cases e : srtR (cdsOf c y day) with
    | nil => have := srtR_len (cdsOf c y day); rw [e] at this; have := hok.ne; unfold cdsOf at *; simp at *; omega
    | cons x rest => exact ⟨x, rest, rfl⟩
  have hfst : ∀ z ∈ cdsOf c y day, Fst c z := fun z hz => cds_fst hz
  have hne : ∀ z ∈ cdsOf c y day, eqK z x = false → z ∈ rest := fun z hz e => by
    rcases spl_or hs z hz with rfl | h
    · unfold eqK at e; simp at e
    · exact h
  have EP := Lib.hid (spl_prc hs)
  have EQ := Lib.hid (spl_eq hs hok.tot)
  have EC := Lib.hid (spl_count hs hok.tot)
  have EZ := Lib.hid (fun h2 : x.k = 2 => by rw [spl_zero hs hok.tot hfst h2 2, spl_zero hs hok.tot hfst h2 3, spl_zero hs hok.tot hfst h2 1]; rfl : x.k = 2 → ((polL c 2 rest).count x.i : Int) + (polL c 3 rest).count x.i + (polL c 1 rest).count x.i = 0)
  have hpol : ∀ z ∈ cdsOf c y day, z.k = 2 → polOf c z = 1 ∨ polOf c z = 2 ∨ polOf c z = 3 := fun z hz h2 => by have := hok.fs z hz h2; omega
  have EO := Lib.hid (fun z hz e h2 => by
    have hr := hne z hz e
    rw [spl_one hs hok.tot hfst hr h2 2, spl_one hs hok.tot hfst hr h2 3, spl_one hs hok.tot hfst hr h2 1]
    rcases hpol z hz h2 with q | q | q <;> rw [q] <;> decide : ∀ z ∈ cdsOf c y day, eqK z x = false → z.k = 2 → ((polL c 2 rest).count z.i : Int) + (polL c 3 rest).count z.i + (polL c 1 rest).count z.i = 1)
  have hrl : rest.length + 1 = (cdsOf c y day).length := by have := srtR_len (cdsOf c y day); rw [hs] at this; exact this
  have EL := Lib.hid (show ((polL c 2 rest).length : Int) + (polL c 3 rest).length + (polL c 1 rest).length = ((cdsOf c y day).length : Int) - 1 - if x.k = 2 then 1 else 0 by
    have e1 := pol_sum (c := c) rest (fun z hz h2 => by have := hok.fs z (spl_mem hs z hz) h2; omega)
    have e2 := spl_len hs
    unfold cdsOf
    split
    · rename_i q; rw [if_pos q] at e2; omega
    · rename_i q; rw [if_neg q] at e2; omega)
  have pl := fun p => polL_len (c := c) (p := p) (s := rest)
  have pl1 := pl 1
  have pl2 := pl 2
  have pl3 := pl 3
  have hll : (cdsOf c y day).length ≤ 1000 := by have := hok.le; unfold cdsOf; omega
  have sd := sn_day hf
  have hyr : inR day = true := inR_iff.2 (by omega)
  have QW := Lib.hid (fun u => c21awake_any M u)
  have QR17 := Lib.hid (fun u (hu : Below W.heap.size W u) => by have := r17rt_any c _ u (h.on hu); rwa [hr] at this)
  have QF := Lib.hid (fun u (hu : Below W.heap.size W u) => by have := r18fl_any c y day _ u (h.on hu); rwa [hf] at this)
  have QO' := Lib.hid (fun u (hu : Below W.heap.size W u) => r19of_any c y day _ u (h.on hu) hc g hyr (ht.on hu))
  have QR' := Lib.hid (fun u v (hu : Below W.heap.size W u) (hcs : CsAt u v (cdsOf c y day)) => M.rs c _ v _ x rest u (h.on hu) hcs hfl hok hs)
  have QL' := Lib.hid (fun u a1 a2 a3 (hu : Below W.heap.size W u) (s1 : SlF a1 (polL c 2 rest) u) (s2 : SlF a2 (polL c 3 rest) u) (s3 : SlF a3 (polL c 1 rest) u) z (hz : z ∈ cdsOf c y day) (e : eqK z x = false) (h2 : z.k = 2) => (show Calls Try.prog 20 #[(.agg #[.int .i64 c.free, vs, vf]), rsq x a1 a2 a3, .int .i64 z.i] u fun e w' => e = .returned (.bool true) ∧ Below u.heap.size u w' by
    have hr := hne z hz e
    obtain ⟨-, n, hn, hnl⟩ := hfst z hz h2
    obtain ⟨t, htt⟩ : ∃ t, c.fs[n]? = some t := ⟨_, List.getElem?_eq_getElem hnl⟩
    have hpz : polOf c z = t.y := by unfold polOf; rw [hn, Int.toNat_natCast, List.getD_eq_getElem?_getD, htt]; rfl
    obtain ⟨⟨vs', vf', e', _, h2'⟩, _, _, _⟩ := h.on hu
    obtain ⟨Aq2, c2, e2, _, _, h2'⟩ := h2'
    obtain ⟨e1, e3⟩ : vs = vs' ∧ vf = vf' := by simpa using e'
    obtain ⟨b2, o2, rfl, hbl, hit⟩ := h2' n t htt
    have := lst21_0 (.int .i64 c.free) vs b2 o2 c.fs.length c2 x a1 a2 a3 (polL c 2 rest) (polL c 3 rest) (polL c 1 rest) n t u hnl hit hbl s1 s2 s3 (by rw [← hpz]; exact hpol z hz h2)
    rw [← e2, ← e3, ← hn, spl_one hs hok.tot hfst hr h2 2, spl_one hs hok.tot hfst hr h2 3, spl_one hs hok.tot hfst hr h2 1, ← hpz, show decide ((if polOf c z = 1 then (if polOf c z = 1 then 1 else 0) else if polOf c z = 2 then (if polOf c z = 2 then 1 else 0) else if polOf c z = 3 then 1 else 0) = 1) = true by rcases hpol z hz h2 with q | q | q <;> rw [q] <;> decide] at this
    exact this))
  exact l21s_main c vs vf y day W _ x _ _ _ hll EP EQ EC EZ EO EL (by omega) (by omega) (by omega) QW QR17 QF QO' QR' QL'
theorem l21s_any : Calls Try.prog 4 #[(.agg #[.int .i64 c.free, vs, vf]), .int .i64 y, .int .i64 day] W fun e w' => e = .returned (.bool true) ∧ Below W.heap.size W w' := by
  cases hr : fewB c && catB c
  · exact l21s_no M c vs vf y day W h hr
  · by_cases hf : snE c y day = 0
    · exact l21s_ok M c vs vf y day W h ht hr hf
    · exact l21s_bad M c vs vf y day W h hr (bne_iff_ne.2 hf)
end
end Go.Proofs.Ytnofmlkjagdklaa
