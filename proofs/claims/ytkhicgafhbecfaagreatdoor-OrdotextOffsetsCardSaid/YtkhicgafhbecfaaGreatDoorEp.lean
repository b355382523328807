/- Package ordotext: Parse; what is handed on of a list of entries. -/
import Derived.Test.YtkhicgafhbecfaaGreatDoorEo
namespace Go.Proofs.YtkhicgafhbecfaaGreatDoor
open Go.RowKit

/-- A slice of strings that can be read. -/
def TxAt (w : World) (v : Value) (xs : List ByteArray) : Prop :=
  ∃ (A : Option Addr) (cap : Nat), v = .slice A xs.length cap ∧ xs.length ≤ cap ∧ cap ≤ maxLen ∧ ∀ (i : Nat) (s : ByteArray), xs[i]? = some s → ∃ b o, A = some ⟨b, o, none⟩ ∧ b < w.heap.size ∧ w.cell? ⟨b, o + i, none⟩ = some (.string s)
theorem TxAt.on {w w' : World} {v : Value} {xs : List ByteArray} (h : TxAt w v xs) (hb : Below w.heap.size w w') : TxAt w' v xs := by
  obtain ⟨A, cap, e, h1, h2, h3⟩ := h
  refine ⟨A, cap, e, h1, h2, fun i s hi => ?_⟩
  obtain ⟨b, o, g1, g2, g3⟩ := h3 i s hi
  exact ⟨b, o, g1, Nat.lt_of_lt_of_le g2 hb.size, by rw [hb.cell g2]; exact g3⟩
theorem StrsAt.tx {B : Nat} {w : World} {v : Value} {xs : List ByteArray} (h : StrsAt B v xs w) : TxAt w v xs := by
  rcases h.get with ⟨rfl, rfl⟩ | ⟨g, cap, rfl, hI⟩
  · exact ⟨none, 0, rfl, Nat.le_refl _, by unfold maxLen; omega, fun i s hi => by simp at hi⟩
  · refine ⟨_, cap, rfl, hI.le, hI.mx, fun i s hi => ⟨g, 0, rfl, hI.lt, ?_⟩⟩
    have hl : i < xs.length := (List.getElem?_eq_some_iff.1 hi).1
    rw [Nat.zero_add, hI.cell i hl, List.getD_eq_getElem?_getD, hi]; rfl
/-- A slice of entries that can be read. -/
def KlAt (w : World) (v : Value) (l : List Enz) : Prop :=
  ∃ (A : Option Addr) (cap : Nat), v = .slice A l.length cap ∧ l.length ≤ cap ∧ cap ≤ maxLen ∧ ∀ (i : Nat) (z : Enz), l[i]? = some z → (∃ b o, A = some ⟨b, o, none⟩ ∧ b < w.heap.size ∧ ∀ j, j < 14 → w.cell? ⟨b, o + i * 14 + j, none⟩ = z.vals[j]?) ∧ TxAt w z.vc z.e.co ∧ TxAt w z.vo z.e.om
theorem KlAt.on {w w' : World} {v : Value} {l : List Enz} (h : KlAt w v l) (hb : Below w.heap.size w w') : KlAt w' v l := by
  obtain ⟨A, cap, e, h1, h2, h3⟩ := h
  refine ⟨A, cap, e, h1, h2, fun i z hi => ?_⟩
  obtain ⟨⟨b, o, g1, g2, g3⟩, g4, g5⟩ := h3 i z hi
  exact ⟨⟨b, o, g1, Nat.lt_of_lt_of_le g2 hb.size, fun j hj => by rw [hb.cell g2]; exact g3 j hj⟩, g4.on hb, g5.on hb⟩
theorem KlAt.nil (w : World) : KlAt w (.slice none 0 0) [] := ⟨none, 0, rfl, Nat.le_refl _, by unfold maxLen; omega, fun i z h => by simp at h⟩
theorem EnsAt.kl {B : Nat} {w : World} {v : Value} {l : List Enz} (h : EnsAt B v l w) : KlAt w v l := by
  rcases h.o.2 with ⟨rfl, hn⟩ | ⟨g, cap, cur, rfl, hb, hg, hnc, hcm, hcs, htake⟩
  · obtain rfl := List.length_eq_zero_iff.1 hn
    exact KlAt.nil w
  · refine ⟨_, cap, rfl, hnc, hcm, fun i z hi => ⟨⟨g, 0, rfl, row_lt hg, fun j hj => ?_⟩, (h.i z (List.mem_of_getElem? hi)).1.tx, (h.i z (List.mem_of_getElem? hi)).2.tx⟩⟩
    have hl : i < l.length := (List.getElem?_eq_some_iff.1 hi).1
    rw [cell_of_row _ _ _ _ _ _ hg, Nat.zero_add, ← flat14_at l i z hi j hj, ← htake, List.getElem?_take, if_pos (by omega), Array.getElem?_toList]
section
variable {B b : Nat} {v : Value} {l : List Enz} {w w' : World}
theorem EnsAt.form (h : EnsAt B v l w) : ∃ a c, v = .slice a l.length c := own_form h.o
end
set_option maxRecDepth 100000 in
set_option maxHeartbeats 2000000 in
theorem p27par_ok {S : ByteArray} {w : World} {yr : Int} {kz : Nat} {es : List Ent} (hT : WTab w)
    (HC : ∀ (u : World) (b : Nat), u.heap[b]? = some (scO S 0 false) → WTab u → Calls Tryz.prog 20 #[pv b] u fun r w' => ∃ v l, r = .returned (.agg #[.int .i64 yr, v]) ∧ EnsAt u.heap.size v l w' ∧ l.map Enz.e = es ∧ w'.heap[b]? = some (scO S kz false) ∧ Bt b u w') :
    Calls Tryz.prog 9 #[.string S] w fun e w' => ∃ v l, e = .returned (.tuple #[.agg #[.int .i64 yr, v], .int .i64 0, .int .i64 0]) ∧ KlAt w' v l ∧ l.map Enz.e = es ∧ Below w.heap.size w w' := by
  have HC := Lib.hid HC
  have HN := Lib.hid (fun u => new25_any S u)
  have lg := hT.heap
  have HT := Lib.hid hT
  clear hT
  go_enter Tryz.func9, Tryz.ntmps9
  go_wp2_with fail
  obtain ⟨u, hu⟩ : ∃ u, u = w.alloc (.cells #[.int .i64 0, .slice none 0 0] 25) := ⟨_, rfl⟩
  have B0 : Below w.heap.size w u := hu ▸ al1 w _
  have rR : u.heap[w.heap.size]? = some (.cells #[.int .i64 0, .slice none 0 0] 25 (0, 0)) := hu ▸ heap_alloc_new w _
  have zu := row_lt rR
  rw [← hu]
  clear hu
  refine (HN.out u).mono ?_
  rintro e1 w1 ⟨rfl, r1, g1⟩
  have rR1 := row_kept rR g1
  have B1 := below_on B0 g1
  have HT1 := Lib.hid (HT.out.on B1)
  generalize hb : u.heap.size = b at *
  have lb1 := row_lt r1
  clear g1
  go_wp2_with fail
  have r2 := row_kept r1 (al1 w1 (bxQ b))
  have g2 := HC.out (w1.alloc (bxQ b)) b r2 (HT1.out.al _)
  have rR2 := row_kept rR1 (al1 w1 (bxQ b))
  have rP2 : (w1.alloc (bxQ b)).heap[w1.heap.size]? = some (bxQ b) := heap_alloc_new w1 _
  have zz : w1.heap.size < (w1.alloc (bxQ b)).heap.size := by simp
  have Bz := B1.alloc (below_size B1) (bxQ b)
  have G2 := Lib.hid g2
  clear g2
  refine G2.out.mono ?_
  rintro e2 w2 ⟨v, l, rfl, oS, hl, s2, q2⟩
  obtain ⟨a1, c1, rfl⟩ := oS.form
  have rR3 := q2.row (show w.heap.size ≠ b by omega) rR2
  have rP3 := q2.row (show w1.heap.size ≠ b by omega) rP2
  have B3 : Below w.heap.size w w2 := Bz.trans (q2.below (show w.heap.size ≤ b by omega) (show w.heap.size ≤ (w1.alloc (bxQ b)).heap.size by omega))
  have oS := Lib.hid oS
  have cP : w2.cell? ⟨w1.heap.size, 0, none⟩ = some (xp b) := by rw [cell_of_row _ _ 0 _ _ _ rP3]; rfl
  clear rR2 rP2 q2 r2 r1
  have cPa : (w2.alloc (.cells #[.int .i64 yr, .slice a1 l.length c1] 25)).cell? ⟨w1.heap.size, 0, none⟩ = some (xp b) := by rw [cell_of_row _ _ 0 _ _ _ (row_kept rP3 (al1 w2 (.cells #[.int .i64 yr, .slice a1 l.length c1] 25)))]; rfl
  go_wp2_with fail
  have s3 := row_kept s2 (al1 w2 (.cells #[.int .i64 yr, .slice a1 l.length c1] 25))
  have rR4 := row_kept rR3 (al1 w2 (.cells #[.int .i64 yr, .slice a1 l.length c1] 25))
  have rP4 := row_kept rP3 (al1 w2 (.cells #[.int .i64 yr, .slice a1 l.length c1] 25))
  have rC4 : (w2.alloc (.cells #[.int .i64 yr, .slice a1 l.length c1] 25)).heap[w2.heap.size]? = some (.cells #[.int .i64 yr, .slice a1 l.length c1] 25 (0, 0)) := heap_alloc_new w2 _
  have oS4 := oS.out.on (al1 w2 (.cells #[.int .i64 yr, .slice a1 l.length c1] 25))
  have B4 := B3.alloc (below_size B3) (.cells #[.int .i64 yr, .slice a1 l.length c1] 25)
  clear oS s2 rR3 rP3 cP cPa
  refine (err_ok s3).mono ?_
  rintro e3 w3 ⟨rfl, g5⟩
  have rR5 := row_kept rR4 g5
  have B5 := below_on B4 g5
  have rC5 := row_kept rC4 g5
  have oS5 := oS4.on g5
  have q0 : w3.cell? ⟨w2.heap.size, 0, none⟩ = some (.int .i64 yr) := by rw [cell_of_row _ _ _ _ _ _ rC5]; rfl
  have q1 : w3.cell? ⟨w2.heap.size, 1, none⟩ = some (.slice a1 l.length c1) := by rw [cell_of_row _ _ _ _ _ _ rC5]; rfl
  have qf0 : w3.frozen? ⟨w2.heap.size, 0, none⟩ = false := frozen_of_row _ _ _ _ _ rC5
  have qf1 : w3.frozen? ⟨w2.heap.size, 1, none⟩ = false := frozen_of_row _ _ _ _ _ rC5
  have k0 : w3.cell? ⟨w.heap.size, 0, none⟩ = some (.int .i64 0) := by rw [cell_of_row _ _ _ _ _ _ rR5]; rfl
  have k1 : w3.cell? ⟨w.heap.size, 1, none⟩ = some (.slice none 0 0) := by rw [cell_of_row _ _ _ _ _ _ rR5]; rfl
  have kf0 : w3.frozen? ⟨w.heap.size, 0, none⟩ = false := frozen_of_row _ _ _ _ _ rR5
  have kf1 : w3.frozen? ⟨w.heap.size, 1, none⟩ = false := frozen_of_row _ _ _ _ _ rR5
  have lR : w.heap.size < (w1.alloc (bxQ b)).heap.size := by omega
  clear oS4 rR4 rP4 rC4 s3 g5
  have oS5 := Lib.hid oS5
  go_wp2_with fail
  have g0 := (Bt.set w.heap.size w3 0 (.int .i64 yr)).trans (Bt.set w.heap.size _ 1 (.slice a1 l.length c1))
  have rX : ((w3.setCell ⟨w.heap.size, 0, none⟩ (.int .i64 yr)).setCell ⟨w.heap.size, 1, none⟩ (.slice a1 l.length c1)).heap[w.heap.size]? = some (.cells #[.int .i64 yr, .slice a1 l.length c1] 25 (0, 0)) := heap_setCell_same _ _ 1 _ _ _ (heap_setCell_same _ _ 0 _ _ _ rR5)
  have BX : Below w.heap.size w ((w3.setCell ⟨w.heap.size, 0, none⟩ (.int .i64 yr)).setCell ⟨w.heap.size, 1, none⟩ (.slice a1 l.length c1)) := (B5.setCell (p := ⟨w.heap.size, 0, none⟩) (Nat.le_refl _) _).setCell (p := ⟨w.heap.size, 1, none⟩) (Nat.le_refl _) _
  generalize (w3.setCell ⟨w.heap.size, 0, none⟩ (.int .i64 yr)).setCell ⟨w.heap.size, 1, none⟩ (.slice a1 l.length c1) = X at *
  have x0 : X.cell? ⟨w.heap.size, 0, none⟩ = some (.int .i64 yr) := by rw [cell_of_row _ _ _ _ _ _ rX]; rfl
  have x1 : X.cell? ⟨w.heap.size, 1, none⟩ = some (.slice a1 l.length c1) := by rw [cell_of_row _ _ _ _ _ _ rX]; rfl
  have OX := (oS5.out.bt g0 lR).kl
  refine bodyPost_ret (v := .tuple #[.agg #[.int .i64 yr, .slice a1 l.length c1], .int .i64 0, .int .i64 0]) (by simp [results, Tryz.results9, go_sem, x0, x1]) rfl ⟨_, l, rfl, OX, hl, BX⟩
set_option maxRecDepth 100000 in
set_option maxHeartbeats 2000000 in
theorem p27par_bad {S : ByteArray} {w : World} {yr : Int} {kz : Nat} {es : List Ent} (hT : WTab w)
    (HC : ∀ (u : World) (b : Nat), u.heap[b]? = some (scO S 0 false) → WTab u → Calls Tryz.prog 20 #[pv b] u fun r w' => ∃ v l, r = .returned (.agg #[.int .i64 yr, v]) ∧ EnsAt u.heap.size v l w' ∧ l.map Enz.e = es ∧ w'.heap[b]? = some (scO S kz true) ∧ Bt b u w') :
    Calls Tryz.prog 9 #[.string S] w fun e w' => e = .returned (.tuple #[.agg #[.int .i64 0, .slice none 0 0], .int .i64 kz, .int .i64 6]) ∧ Below w.heap.size w w' := by
  have HC := Lib.hid HC
  have HN := Lib.hid (fun u => new25_any S u)
  have lg := hT.heap
  have HT := Lib.hid hT
  clear hT
  go_enter Tryz.func9, Tryz.ntmps9
  go_wp2_with fail
  obtain ⟨u, hu⟩ : ∃ u, u = w.alloc (.cells #[.int .i64 0, .slice none 0 0] 25) := ⟨_, rfl⟩
  have B0 : Below w.heap.size w u := hu ▸ al1 w _
  have rR : u.heap[w.heap.size]? = some (.cells #[.int .i64 0, .slice none 0 0] 25 (0, 0)) := hu ▸ heap_alloc_new w _
  have zu := row_lt rR
  rw [← hu]
  clear hu
  refine (HN.out u).mono ?_
  rintro e1 w1 ⟨rfl, r1, g1⟩
  have rR1 := row_kept rR g1
  have B1 := below_on B0 g1
  have HT1 := Lib.hid (HT.out.on B1)
  generalize hb : u.heap.size = b at *
  have lb1 := row_lt r1
  clear g1
  go_wp2_with fail
  have r2 := row_kept r1 (al1 w1 (bxQ b))
  have g2 := HC.out (w1.alloc (bxQ b)) b r2 (HT1.out.al _)
  have rR2 := row_kept rR1 (al1 w1 (bxQ b))
  have rP2 : (w1.alloc (bxQ b)).heap[w1.heap.size]? = some (bxQ b) := heap_alloc_new w1 _
  have zz : w1.heap.size < (w1.alloc (bxQ b)).heap.size := by simp
  have Bz := B1.alloc (below_size B1) (bxQ b)
  have G2 := Lib.hid g2
  clear g2
  refine G2.out.mono ?_
  rintro e2 w2 ⟨v, l, rfl, oS, hl, s2, q2⟩
  obtain ⟨a1, c1, rfl⟩ := oS.form
  have rR3 := q2.row (show w.heap.size ≠ b by omega) rR2
  have rP3 := q2.row (show w1.heap.size ≠ b by omega) rP2
  have B3 : Below w.heap.size w w2 := Bz.trans (q2.below (show w.heap.size ≤ b by omega) (show w.heap.size ≤ (w1.alloc (bxQ b)).heap.size by omega))
  have oS := Lib.hid oS
  have cP : w2.cell? ⟨w1.heap.size, 0, none⟩ = some (xp b) := by rw [cell_of_row _ _ 0 _ _ _ rP3]; rfl
  clear rR2 rP2 q2 r2 r1
  have cPa : (w2.alloc (.cells #[.int .i64 yr, .slice a1 l.length c1] 25)).cell? ⟨w1.heap.size, 0, none⟩ = some (xp b) := by rw [cell_of_row _ _ 0 _ _ _ (row_kept rP3 (al1 w2 (.cells #[.int .i64 yr, .slice a1 l.length c1] 25)))]; rfl
  go_wp2_with fail
  have s3 := row_kept s2 (al1 w2 (.cells #[.int .i64 yr, .slice a1 l.length c1] 25))
  have rR4 := row_kept rR3 (al1 w2 (.cells #[.int .i64 yr, .slice a1 l.length c1] 25))
  have rP4 := row_kept rP3 (al1 w2 (.cells #[.int .i64 yr, .slice a1 l.length c1] 25))
  have rC4 : (w2.alloc (.cells #[.int .i64 yr, .slice a1 l.length c1] 25)).heap[w2.heap.size]? = some (.cells #[.int .i64 yr, .slice a1 l.length c1] 25 (0, 0)) := heap_alloc_new w2 _
  have oS4 := oS.out.on (al1 w2 (.cells #[.int .i64 yr, .slice a1 l.length c1] 25))
  have B4 := B3.alloc (below_size B3) (.cells #[.int .i64 yr, .slice a1 l.length c1] 25)
  clear oS s2 rR3 rP3 cP cPa
  refine (err_bad s3).mono ?_
  rintro e3 w3 ⟨rfl, g5⟩
  have rR5 := row_kept rR4 g5
  have B5 := below_on B4 g5
  have rP5 := row_kept rP4 g5
  have s5 := row_kept s3 g5
  have cP5 : w3.cell? ⟨w1.heap.size, 0, none⟩ = some (xp b) := by rw [cell_of_row _ _ 0 _ _ _ rP5]; rfl
  clear oS4 rR4 rP4 rC4 s3 g5
  go_wp2_with fail
  refine (off_any s5).mono ?_
  rintro e4 w4 ⟨rfl, g6⟩
  have rR6 := row_kept rR5 g6
  have B6 := below_on B5 g6
  have k0 : w4.cell? ⟨w.heap.size, 0, none⟩ = some (.int .i64 0) := by rw [cell_of_row _ _ _ _ _ _ rR6]; rfl
  have k1 : w4.cell? ⟨w.heap.size, 1, none⟩ = some (.slice none 0 0) := by rw [cell_of_row _ _ _ _ _ _ rR6]; rfl
  have kf0 : w4.frozen? ⟨w.heap.size, 0, none⟩ = false := frozen_of_row _ _ _ _ _ rR6
  have kf1 : w4.frozen? ⟨w.heap.size, 1, none⟩ = false := frozen_of_row _ _ _ _ _ rR6
  clear rR5 rP5 s5 cP5 g6
  go_wp2_with fail
  have rX : ((w4.setCell ⟨w.heap.size, 0, none⟩ (.int .i64 0)).setCell ⟨w.heap.size, 1, none⟩ (.slice none 0 0)).heap[w.heap.size]? = some (.cells #[.int .i64 0, .slice none 0 0] 25 (0, 0)) := heap_setCell_same _ _ 1 _ _ _ (heap_setCell_same _ _ 0 _ _ _ rR6)
  have BX : Below w.heap.size w ((w4.setCell ⟨w.heap.size, 0, none⟩ (.int .i64 0)).setCell ⟨w.heap.size, 1, none⟩ (.slice none 0 0)) := (B6.setCell (p := ⟨w.heap.size, 0, none⟩) (Nat.le_refl _) _).setCell (p := ⟨w.heap.size, 1, none⟩) (Nat.le_refl _) _
  generalize (w4.setCell ⟨w.heap.size, 0, none⟩ (.int .i64 0)).setCell ⟨w.heap.size, 1, none⟩ (.slice none 0 0) = X at *
  have x0 : X.cell? ⟨w.heap.size, 0, none⟩ = some (.int .i64 0) := by rw [cell_of_row _ _ _ _ _ _ rX]; rfl
  have x1 : X.cell? ⟨w.heap.size, 1, none⟩ = some (.slice none 0 0) := by rw [cell_of_row _ _ _ _ _ _ rX]; rfl
  refine bodyPost_ret (v := .tuple #[.agg #[.int .i64 0, .slice none 0 0], .int .i64 kz, .int .i64 6]) (by simp [results, Tryz.results9, go_sem, x0, x1]) rfl ⟨rfl, BX⟩
theorem p27par_yes {S : ByteArray} {N : Nat} {w : World} (hs : S.size ≤ 100000) (h1 : S.size + 1 < N) (hN : N ≤ 1000000) (hT : WTab w) (hz : (kEnd N S).b = false) :
    Calls Tryz.prog 9 #[.string S] w fun e w' => ∃ v l, e = .returned (.tuple #[.agg #[.int .i64 (kBody N S ⟨0, false⟩).1.y, v], .int .i64 0, .int .i64 0]) ∧ KlAt w' v l ∧ l.map Enz.e = (kBody N S ⟨0, false⟩).1.es ∧ Below w.heap.size w w' :=
  p27par_ok (kz := (kEnd N S).k) hT (fun u b h ht => (p27cal h ht hs h1 hN).mono fun e w' ⟨v, l, q1, q2, q3, q4, q5⟩ => ⟨v, l, q1, q2, q3, by rw [q4, hz], q5⟩)
theorem p27par_no {S : ByteArray} {N : Nat} {w : World} (hs : S.size ≤ 100000) (h1 : S.size + 1 < N) (hN : N ≤ 1000000) (hT : WTab w) (hz : (kEnd N S).b = true) :
    Calls Tryz.prog 9 #[.string S] w fun e w' => e = .returned (.tuple #[.agg #[.int .i64 0, .slice none 0 0], .int .i64 (kEnd N S).k, .int .i64 6]) ∧ Below w.heap.size w w' :=
  p27par_bad (kz := (kEnd N S).k) hT (fun u b h ht => (p27cal h ht hs h1 hN).mono fun e w' ⟨v, l, q1, q2, q3, q4, q5⟩ => ⟨v, l, q1, q2, q3, by rw [q4, hz], q5⟩)
end Go.Proofs.YtkhicgafhbecfaaGreatDoor
