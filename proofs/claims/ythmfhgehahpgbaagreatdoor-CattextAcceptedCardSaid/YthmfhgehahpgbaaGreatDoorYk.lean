/- Package cattext: Parse. -/
import Derived.Test.YthmfhgehahpgbaaGreatDoorYi
import Derived.Test.YthmfhgehahpgbaaGreatDoorM6
namespace Go.Proofs.YthmfhgehahpgbaaGreatDoor
open Go.RowKit

theorem p26cat {S : ByteArray} {b N : Nat} {w : World} (h : w.heap[b]? = some (scO S 0 false)) (hs : S.size ≤ 100000) (h1 : S.size + 1 < N) (hN : N ≤ 1000000) (hT : WTab w) :
    Calls Tryz.prog 17 #[pv b] w fun r w' => ∃ vS vF, r = .returned (.agg #[.int .i64 (pBody N S ⟨0, false⟩).1.free, vS, vF]) ∧ ItsAt 41 w.heap.size vS (pBody N S ⟨0, false⟩).1.ss w' ∧ ItsAt 43 w.heap.size vF (pBody N S ⟨0, false⟩).1.fs w' ∧ w'.heap[b]? = some (scX S (zE S (pBody N S ⟨0, false⟩).2).2) ∧ Bt b w w' := by
  have k0 : (Sc.mk 0 false).k ≤ S.size := Nat.zero_le _
  have k1 := ((gd_W [wCat]).le S _ k0).2
  have k2 := ((gd_W [wFre]).le S _ k1).2
  have k3 := ((gd_zN wLf).le S _ k2).2
  have k4 := ((gd_Many (c := 115) (by decide) gd_Sea N []).le S _ k3).2
  have k5 := ((gd_Many (c := 102) (by decide) gd_Fea N []).le S _ k4).2
  have mz : ∀ y : Sc, msr S y < N := fun y => by unfold msr; split <;> omega
  exact p26cat_go (x := ⟨0, false⟩) (j := (yW [wCat] S ⟨0, false⟩).1) (j2 := (yW [wFre] S (yW [wCat] S ⟨0, false⟩).2).1) (j6 := (yW [wEnd] S (pMany 102 pFea N [] S (pMany 115 pSea N [] S (zN wLf S (yW [wFre] S (yW [wCat] S ⟨0, false⟩).2).2).2).2).2).1) h hT hN
    (fun _ hu => xw_one (e := wCat) hu k0 (lt_big hs) wds_wCat) (fun _ hu => xw_one (e := wFre) hu k1 (lt_big hs) wds_wFre) (fun _ hu => p26num hu k2 (lt_big hs) wds_wLf) k3 (mz _)
    (fun _ _ hu hk => p26beg (t := wSe5) 115 hu hk (by kernel_rfl) (by decide)) (fun _ _ hu hk ht => p26sea hu hk hs ht) rfl
    (fun _ _ hu hk => p26beg (t := wFe5) 102 hu hk (by kernel_rfl) (by decide)) (fun _ _ hu hk ht => p26fea hu hk hs ht) rfl (mz _)
    (fun _ hu => xw_one (e := wEnd) hu k5 (lt_big hs) wds_wEnd) (fun _ hu => xe_all hu)
/-! Parse -/
theorem below_size {B : Nat} {w w' : World} (h : Below B w w') : w.heap.size ≤ w'.heap.size := h.size
set_option maxRecDepth 100000 in
set_option maxHeartbeats 2000000 in
theorem p26par_ok {S : ByteArray} {w : World} {free : Int} {kz : Nat} {ss fs : List Itm} (hT : WTab w)
    (HC : ∀ (u : World) (b : Nat), u.heap[b]? = some (scO S 0 false) → WTab u → Calls Tryz.prog 17 #[pv b] u fun r w' => ∃ vS vF, r = .returned (.agg #[.int .i64 free, vS, vF]) ∧ ItsAt 41 u.heap.size vS ss w' ∧ ItsAt 43 u.heap.size vF fs w' ∧ w'.heap[b]? = some (scO S kz false) ∧ Bt b u w') :
    Calls Tryz.prog 9 #[.string S] w fun e w' => ∃ vS vF, e = .returned (.tuple #[.agg #[.int .i64 free, vS, vF], .int .i64 0, .int .i64 0]) ∧ SlAt w' vS ss ∧ SlAt w' vF fs ∧ Below w.heap.size w w' := by
  have HC := Lib.hid HC
  have HN := Lib.hid (fun u => new25_any S u)
  have lg := hT.heap
  have HT := Lib.hid hT
  clear hT
  go_enter Tryz.func9, Tryz.ntmps9
  go_wp2_with fail
  obtain ⟨u, hu⟩ : ∃ u, u = w.alloc (.cells #[.int .i64 0, .slice none 0 0, .slice none 0 0] 26) := ⟨_, rfl⟩
  have B0 : Below w.heap.size w u := hu ▸ al1 w _
  have rR : u.heap[w.heap.size]? = some (.cells #[.int .i64 0, .slice none 0 0, .slice none 0 0] 26 (0, 0)) := hu ▸ heap_alloc_new w _
  have zu := row_lt rR
  rw [← hu]
  clear hu
  refine (HN.out u).mono ?_
  rintro e1 w1 ⟨rfl, r1, g1⟩
  have rR1 := row_kept rR g1
  have B1 := below_on B0 g1
  have HT1 := Lib.hid (HT.out.on B1)
  generalize hb : u.heap.size = b at *
  have lb1 := row_lt r1
  clear g1
  go_wp2_with fail
  have r2 := row_kept r1 (al1 w1 (bxP b))
  have g2 := HC.out (w1.alloc (bxP b)) b r2 (HT1.out.al _)
  have rR2 := row_kept rR1 (al1 w1 (bxP b))
  have rP2 : (w1.alloc (bxP b)).heap[w1.heap.size]? = some (bxP b) := heap_alloc_new w1 _
  have zz : w1.heap.size < (w1.alloc (bxP b)).heap.size := by simp
  have B2 := B1.alloc (below_size B1) (bxP b)
  have G2 := Lib.hid g2
  clear g2
  refine G2.out.mono ?_
  rintro e2 w2 ⟨vS, vF, rfl, oS, oF, s2, q2⟩
  obtain ⟨a1, n1, c1, rfl⟩ := oS.form
  obtain ⟨a2, n2, c2, rfl⟩ := oF.form
  have rR3 := q2.row (show w.heap.size ≠ b by omega) rR2
  have rP3 := q2.row (show w1.heap.size ≠ b by omega) rP2
  have B3 : Below w.heap.size w w2 := B2.trans (q2.below (show w.heap.size ≤ b by omega) (show w.heap.size ≤ (w1.alloc (bxP b)).heap.size by omega))
  have cP : w2.cell? ⟨w1.heap.size, 0, none⟩ = some (xp b) := by rw [cell_of_row _ _ 0 _ _ _ rP3]; rfl
  clear rR2 rP2 q2 r2 r1
  have cPa : (w2.alloc (.cells #[.int .i64 free, .slice a1 n1 c1, .slice a2 n2 c2] 26)).cell? ⟨w1.heap.size, 0, none⟩ = some (xp b) := by rw [cell_of_row _ _ 0 _ _ _ (row_kept rP3 (al1 w2 (.cells #[.int .i64 free, .slice a1 n1 c1, .slice a2 n2 c2] 26)))]; rfl
  go_wp2_with fail
  have s3 := row_kept s2 (al1 w2 (.cells #[.int .i64 free, .slice a1 n1 c1, .slice a2 n2 c2] 26))
  have rR4 := row_kept rR3 (al1 w2 (.cells #[.int .i64 free, .slice a1 n1 c1, .slice a2 n2 c2] 26))
  have rP4 := row_kept rP3 (al1 w2 (.cells #[.int .i64 free, .slice a1 n1 c1, .slice a2 n2 c2] 26))
  have rC4 : (w2.alloc (.cells #[.int .i64 free, .slice a1 n1 c1, .slice a2 n2 c2] 26)).heap[w2.heap.size]? = some (.cells #[.int .i64 free, .slice a1 n1 c1, .slice a2 n2 c2] 26 (0, 0)) := heap_alloc_new w2 _
  have oS4 := oS.al (.cells #[.int .i64 free, .slice a1 n1 c1, .slice a2 n2 c2] 26)
  have oF4 := oF.al (.cells #[.int .i64 free, .slice a1 n1 c1, .slice a2 n2 c2] 26)
  have B4 := B3.alloc (below_size B3) (.cells #[.int .i64 free, .slice a1 n1 c1, .slice a2 n2 c2] 26)
  clear oS oF s2 rR3 rP3 cP cPa
  refine (err_ok s3).mono ?_
  rintro e3 w3 ⟨rfl, g5⟩
  have rR5 := row_kept rR4 g5
  have B5 := below_on B4 g5
  have rC5 := row_kept rC4 g5
  have oS5 := oS4.on g5
  have oF5 := oF4.on g5
  obtain ⟨q0, q1, q2, f0, f1, f2, fz⟩ := row3 rC5
  obtain ⟨k0, k1, k2, h0, h1, h2, kz⟩ := row3 rR5
  have lR : w.heap.size < (w1.alloc (bxP b)).heap.size := by omega
  clear oS4 oF4 rR4 rP4 rC4 s3 g5
  go_wp2_with fail
  generalize hX : ((w3.setCell ⟨w.heap.size, 0, none⟩ (.int .i64 free)).setCell ⟨w.heap.size, 1, none⟩ (.slice a1 n1 c1)).setCell ⟨w.heap.size, 2, none⟩ (.slice a2 n2 c2) = X
  obtain ⟨m0, m1, m2⟩ := three_set _ _ _ rR5 hX
  have SX : ItsAt 41 (w1.alloc (bxP b)).heap.size (.slice a1 n1 c1) ss X := by
    rw [← hX]; exact ((oS5.put (p := ⟨w.heap.size, 0, none⟩) lR _).put (p := ⟨w.heap.size, 1, none⟩) lR _).put (p := ⟨w.heap.size, 2, none⟩) lR _
  have FX : ItsAt 43 (w1.alloc (bxP b)).heap.size (.slice a2 n2 c2) fs X := by
    rw [← hX]; exact ((oF5.put (p := ⟨w.heap.size, 0, none⟩) lR _).put (p := ⟨w.heap.size, 1, none⟩) lR _).put (p := ⟨w.heap.size, 2, none⟩) lR _
  have BX := below_set3 B5 (Nat.le_refl _) _ _ _ hX
  refine bodyPost_ret (v := .tuple #[.agg #[.int .i64 free, .slice a1 n1 c1, .slice a2 n2 c2], .int .i64 0, .int .i64 0]) (by simp [results, Tryz.results9, go_sem, m0, m1, m2]) rfl ⟨_, _, rfl, SX.sl, FX.sl, BX⟩
set_option maxRecDepth 100000 in
set_option maxHeartbeats 2000000 in
theorem p26par_bad {S : ByteArray} {w : World} {free : Int} {kz : Nat} {ss fs : List Itm} (hT : WTab w)
    (HC : ∀ (u : World) (b : Nat), u.heap[b]? = some (scO S 0 false) → WTab u → Calls Tryz.prog 17 #[pv b] u fun r w' => ∃ vS vF, r = .returned (.agg #[.int .i64 free, vS, vF]) ∧ ItsAt 41 u.heap.size vS ss w' ∧ ItsAt 43 u.heap.size vF fs w' ∧ w'.heap[b]? = some (scO S kz true) ∧ Bt b u w') :
    Calls Tryz.prog 9 #[.string S] w fun e w' => e = .returned (.tuple #[.agg #[.int .i64 0, .slice none 0 0, .slice none 0 0], .int .i64 kz, .int .i64 6]) ∧ Below w.heap.size w w' := by
  have HC := Lib.hid HC
  have HN := Lib.hid (fun u => new25_any S u)
  have lg := hT.heap
  have HT := Lib.hid hT
  clear hT
  go_enter Tryz.func9, Tryz.ntmps9
  go_wp2_with fail
  obtain ⟨u, hu⟩ : ∃ u, u = w.alloc (.cells #[.int .i64 0, .slice none 0 0, .slice none 0 0] 26) := ⟨_, rfl⟩
  have B0 : Below w.heap.size w u := hu ▸ al1 w _
  have rR : u.heap[w.heap.size]? = some (.cells #[.int .i64 0, .slice none 0 0, .slice none 0 0] 26 (0, 0)) := hu ▸ heap_alloc_new w _
  have zu := row_lt rR
  rw [← hu]
  clear hu
  refine (HN.out u).mono ?_
  rintro e1 w1 ⟨rfl, r1, g1⟩
  have rR1 := row_kept rR g1
  have B1 := below_on B0 g1
  have HT1 := Lib.hid (HT.out.on B1)
  generalize hb : u.heap.size = b at *
  have lb1 := row_lt r1
  clear g1
  go_wp2_with fail
  have r2 := row_kept r1 (al1 w1 (bxP b))
  have g2 := HC.out (w1.alloc (bxP b)) b r2 (HT1.out.al _)
  have rR2 := row_kept rR1 (al1 w1 (bxP b))
  have rP2 : (w1.alloc (bxP b)).heap[w1.heap.size]? = some (bxP b) := heap_alloc_new w1 _
  have zz : w1.heap.size < (w1.alloc (bxP b)).heap.size := by simp
  have B2 := B1.alloc (below_size B1) (bxP b)
  have G2 := Lib.hid g2
  clear g2
  refine G2.out.mono ?_
  rintro e2 w2 ⟨vS, vF, rfl, oS, oF, s2, q2⟩
  obtain ⟨a1, n1, c1, rfl⟩ := oS.form
  obtain ⟨a2, n2, c2, rfl⟩ := oF.form
  have rR3 := q2.row (show w.heap.size ≠ b by omega) rR2
  have rP3 := q2.row (show w1.heap.size ≠ b by omega) rP2
  have B3 : Below w.heap.size w w2 := B2.trans (q2.below (show w.heap.size ≤ b by omega) (show w.heap.size ≤ (w1.alloc (bxP b)).heap.size by omega))
  have cP : w2.cell? ⟨w1.heap.size, 0, none⟩ = some (xp b) := by rw [cell_of_row _ _ 0 _ _ _ rP3]; rfl
  clear rR2 rP2 q2 r2 r1
  have cPa : (w2.alloc (.cells #[.int .i64 free, .slice a1 n1 c1, .slice a2 n2 c2] 26)).cell? ⟨w1.heap.size, 0, none⟩ = some (xp b) := by rw [cell_of_row _ _ 0 _ _ _ (row_kept rP3 (al1 w2 (.cells #[.int .i64 free, .slice a1 n1 c1, .slice a2 n2 c2] 26)))]; rfl
  go_wp2_with fail
  have s3 := row_kept s2 (al1 w2 (.cells #[.int .i64 free, .slice a1 n1 c1, .slice a2 n2 c2] 26))
  have rR4 := row_kept rR3 (al1 w2 (.cells #[.int .i64 free, .slice a1 n1 c1, .slice a2 n2 c2] 26))
  have rP4 := row_kept rP3 (al1 w2 (.cells #[.int .i64 free, .slice a1 n1 c1, .slice a2 n2 c2] 26))
  have rC4 : (w2.alloc (.cells #[.int .i64 free, .slice a1 n1 c1, .slice a2 n2 c2] 26)).heap[w2.heap.size]? = some (.cells #[.int .i64 free, .slice a1 n1 c1, .slice a2 n2 c2] 26 (0, 0)) := heap_alloc_new w2 _
  have oS4 := oS.al (.cells #[.int .i64 free, .slice a1 n1 c1, .slice a2 n2 c2] 26)
  have oF4 := oF.al (.cells #[.int .i64 free, .slice a1 n1 c1, .slice a2 n2 c2] 26)
  have B4 := B3.alloc (below_size B3) (.cells #[.int .i64 free, .slice a1 n1 c1, .slice a2 n2 c2] 26)
  clear oS oF s2 rR3 rP3 cP cPa
  refine (err_bad s3).mono ?_
  rintro e3 w3 ⟨rfl, g5⟩
  have rR5 := row_kept rR4 g5
  have B5 := below_on B4 g5
  have rP5 := row_kept rP4 g5
  have s5 := row_kept s3 g5
  have cP5 : w3.cell? ⟨w1.heap.size, 0, none⟩ = some (xp b) := by rw [cell_of_row _ _ 0 _ _ _ rP5]; rfl
  clear oS4 oF4 rR4 rP4 rC4 s3 g5
  go_wp2_with fail
  refine (off_any s5).mono ?_
  rintro e4 w4 ⟨rfl, g6⟩
  have rR6 := row_kept rR5 g6
  have B6 := below_on B5 g6
  obtain ⟨k0, k1, k2, h0, h1, h2, kkz⟩ := row3 rR6
  clear rR5 rP5 s5 cP5 g6
  go_wp2_with fail
  generalize hX : ((w4.setCell ⟨w.heap.size, 0, none⟩ (.int .i64 0)).setCell ⟨w.heap.size, 1, none⟩ (.slice none 0 0)).setCell ⟨w.heap.size, 2, none⟩ (.slice none 0 0) = X
  obtain ⟨m0, m1, m2⟩ := three_set _ _ _ rR6 hX
  have BX := below_set3 B6 (Nat.le_refl _) _ _ _ hX
  refine bodyPost_ret (v := .tuple #[.agg #[.int .i64 0, .slice none 0 0, .slice none 0 0], .int .i64 kz, .int .i64 6]) (by simp [results, Tryz.results9, go_sem, m0, m1, m2]) rfl ⟨rfl, BX⟩
/-- The result of Parse: the catalogue, the offset, whether there is one. -/
def pEnd (N : Nat) (S : ByteArray) : Sc := (zE S (pBody N S ⟨0, false⟩).2).2
theorem p26par_yes {S : ByteArray} {N : Nat} {w : World} (hs : S.size ≤ 100000) (h1 : S.size + 1 < N) (hN : N ≤ 1000000) (hT : WTab w) (hz : (pEnd N S).b = false) :
    Calls Tryz.prog 9 #[.string S] w fun e w' => ∃ vS vF, e = .returned (.tuple #[.agg #[.int .i64 (pBody N S ⟨0, false⟩).1.free, vS, vF], .int .i64 0, .int .i64 0]) ∧ SlAt w' vS (pBody N S ⟨0, false⟩).1.ss ∧ SlAt w' vF (pBody N S ⟨0, false⟩).1.fs ∧ Below w.heap.size w w' :=
  p26par_ok (kz := (pEnd N S).k) hT (fun u b h ht => (p26cat h hs h1 hN ht).mono fun e w' ⟨vS, vF, q1, q2, q3, q4, q5⟩ => ⟨vS, vF, q1, q2, q3, by rw [q4]; show some (scO S (pEnd N S).k (pEnd N S).b) = _; rw [hz], q5⟩)
theorem p26par_no {S : ByteArray} {N : Nat} {w : World} (hs : S.size ≤ 100000) (h1 : S.size + 1 < N) (hN : N ≤ 1000000) (hT : WTab w) (hz : (pEnd N S).b = true) :
    Calls Tryz.prog 9 #[.string S] w fun e w' => e = .returned (.tuple #[.agg #[.int .i64 0, .slice none 0 0, .slice none 0 0], .int .i64 (pEnd N S).k, .int .i64 6]) ∧ Below w.heap.size w w' :=
  p26par_bad (kz := (pEnd N S).k) hT (fun u b h ht => (p26cat h hs h1 hN ht).mono fun e w' ⟨vS, vF, q1, q2, q3, q4, q5⟩ => ⟨vS, vF, q1, q2, q3, by rw [q4]; show some (scO S (pEnd N S).k (pEnd N S).b) = _; rw [hz], q5⟩)
end Go.Proofs.YthmfhgehahpgbaaGreatDoor
