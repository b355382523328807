/- The fixed examples of the law of package civil (awake); facts on structs of three cells in memory over calls. -/
import Derived.Test.YtdnglkccdmlplaaDoorCp
namespace Go.Proofs.YtdnglkccdmlplaaDoor
open Go.RowKit

abbrev set3 (w : World) (b : Nat) (x y z : Value) : World := ((w.setCell ⟨b, 0, none⟩ x).setCell ⟨b, 1, none⟩ y).setCell ⟨b, 2, none⟩ z
theorem St.set {W w : World} (h : St W w) (ht : CTab W) {b : Nat} (hb : W.heap.size ≤ b) (x y z : Value) : St W (set3 w b x y z) := by
  have h1 : Below W.heap.size W (set3 w b x y z) := below_set3 h.b hb x y z rfl
  exact ⟨ht.on h1, h1⟩
theorem row_set {w : World} {b t : Nat} {a0 a1 a2 : Value} (h : w.heap[b]? = some (.cells #[a0, a1, a2] t (0, 0))) (x y z : Value) : (set3 w b x y z).heap[b]? = some (.cells #[x, y, z] t (0, 0)) :=
  heap_setCell_same _ b 2 _ _ z (heap_setCell_same _ b 1 _ _ y (heap_setCell_same w b 0 _ _ x h))
theorem row_oth {w : World} {b c : Nat} {o : Obj} (h : w.heap[c]? = some o) (hn : c ≠ b) (x y z : Value) : (set3 w b x y z).heap[c]? = some o := by
  unfold set3
  rw [heap_setCell_other _ _ _ _ hn, heap_setCell_other _ _ _ _ hn, heap_setCell_other _ _ _ _ hn]; exact h
theorem row3 {w : World} {b t : Nat} {a0 a1 a2 : Value} (h : w.heap[b]? = some (.cells #[a0, a1, a2] t (0, 0))) :
    w.cell? ⟨b, 0, none⟩ = some a0 ∧ w.cell? ⟨b, 1, none⟩ = some a1 ∧ w.cell? ⟨b, 2, none⟩ = some a2 ∧ w.frozen? ⟨b, 0, none⟩ = false ∧ w.frozen? ⟨b, 1, none⟩ = false ∧ w.frozen? ⟨b, 2, none⟩ = false ∧ b < w.heap.size := by
  have h0 : w.cell? ⟨b, 0, none⟩ = some a0 := by rw [cell_of_row w b 0 _ _ _ h]; rfl
  exact ⟨h0, by rw [cell_of_row w b 1 _ _ _ h]; rfl, by rw [cell_of_row w b 2 _ _ _ h]; rfl, frozen_of_row w b 0 _ _ h, frozen_of_row w b 1 _ _ h, frozen_of_row w b 2 _ _ h, World.block_lt_of_cell? w _ h0⟩

/-! plain: the examples -/
theorem ex_cv : vE 1582 10 4 1 2 = 0 ∧ vY 1582 10 4 1 2 = 1582 ∧ vM 1582 10 4 1 2 = 10 ∧ vD 1582 10 4 1 2 = 14 := by
  have t : tE 1 1582 10 4 = 0 := by decide
  have n : tN 1 1582 10 4 = 577735 := by decide
  obtain ⟨a, b, c, d⟩ := fE_at (c := 2) (y := 1582) (m := 10) (d := 14) (n := 577735) (by decide) (by decide) (by decide)
  have e : vE 1582 10 4 1 2 = 0 := by unfold vE; rw [t, n, a]; rfl
  unfold vY vM vD; rw [e, n]; exact ⟨rfl, b, c, d⟩
theorem ex_fy : xE 1 1900 366 = 0 ∧ xY 1 1900 366 = 1900 ∧ xM 1 1900 366 = 12 ∧ xD 1 1900 366 = 31 := by
  have e : xE 1 1900 366 = 0 := by decide
  obtain ⟨a, b, c, d⟩ := fE_at (c := 1) (y := 1900) (m := 12) (d := 31) (n := jul.fst 1900 + 366 - 1) (by decide) (by decide) (by decide)
  unfold xY xM xD; rw [e]; exact ⟨rfl, b, c, d⟩

theorem c5awake_any (W : World) (ht : CTab W) : Calls Tryd.prog 8 #[] W fun e w' => e = .returned (.bool true) ∧ Below W.heap.size W w' := by
  have H1 : ∀ w, CTab w → Calls Tryd.prog 13 #[dtv 1582 10 4, .int .i64 1, .int .i64 2] w fun e w' => e = .returned (datv 1582 10 14 0) ∧ Below w.heap.size w w' := fun w ht => by
    have := ccv_all 1 1582 10 4 w ht 2
    rw [ex_cv.1, ex_cv.2.1, ex_cv.2.2.1, ex_cv.2.2.2] at this; exact this
  have H2 : ∀ w, CTab w → Calls Tryd.prog 15 #[.int .i64 2, dtv 2000 3 1] w fun e w' => e = .returned (numv 61 0) ∧ Below w.heap.size w w' := fun w ht => by
    have := cofy_all 2 2000 3 1 w ht
    rw [show oN 2 2000 3 1 = 61 by decide, show tE 2 2000 3 1 = 0 by decide] at this; exact this
  have H3 : ∀ w, CTab w → Calls Tryd.prog 9 #[.int .i64 3, dtv 1 1 1] w fun e w' => e = .returned (numv 0 3) ∧ Below w.heap.size w w' := fun w ht => by
    have := ctoday_any 1 1 1 w 3 ht
    rw [show tN 3 1 1 1 = 0 by decide, show tE 3 1 1 1 = 3 by decide] at this; exact this
  have H4 : ∀ w, CTab w → Calls Tryd.prog 17 #[.int .i64 1, .int .i64 1900, .int .i64 366] w fun e w' => e = .returned (datv 1900 12 31 0) ∧ Below w.heap.size w w' := fun w ht => by
    have := cfy_all 1 1900 w ht 366
    rw [ex_fy.1, ex_fy.2.1, ex_fy.2.2.1, ex_fy.2.2.2] at this; exact this
  have S0 := Lib.hid (St.start ht)
  clear ht
  go_enter Tryd.func8, Tryd.ntmps8
  go_wp2_with fail
  refine (H1 _ S0.out.t).mono ?_
  rintro e w1 ⟨rfl, hb1⟩
  have S1 := Lib.hid (S0.out.on hb1)
  clear hb1
  go_wp2_with fail
  refine (H2 _ (S1.out.al _).t).mono ?_
  rintro e w2 ⟨rfl, hb2⟩
  have S2 := Lib.hid ((S1.out.al _).on hb2)
  have RD2 := Lib.hid (row_on (heap_alloc_new _ _) hb2)
  obtain ⟨cD0, cD1, cD2, gD0, gD1, gD2, zD⟩ := row3 RD2.out
  clear hb2
  go_wp2_with fail
  refine (H3 _ S2.out.t).mono ?_
  rintro e w3 ⟨rfl, hb3⟩
  have S3 := Lib.hid (S2.out.on hb3)
  have RD3 := Lib.hid (row_on RD2.out hb3)
  clear RD2
  clear cD0 cD1 cD2 gD0 gD1 gD2 zD
  obtain ⟨cD0, cD1, cD2, gD0, gD1, gD2, zD⟩ := row3 RD3.out
  clear hb3
  go_wp2_with fail
  refine (H4 _ S3.out.t).mono ?_
  rintro e w4 ⟨rfl, hb4⟩
  have S4 := Lib.hid (S3.out.on hb4)
  have RD4 := Lib.hid (row_on RD3.out hb4)
  clear RD3
  clear cD0 cD1 cD2 gD0 gD1 gD2 zD
  obtain ⟨cD0, cD1, cD2, gD0, gD1, gD2, zD⟩ := row3 RD4.out
  clear hb4
  have nDX := Nat.ne_of_lt zD
  have nXD := (Nat.ne_of_lt zD).symm
  go_wp2_with fail
  go_ret
  exact ⟨rfl, (S4.out.al _).b⟩
end Go.Proofs.YtdnglkccdmlplaaDoor
