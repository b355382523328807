/- The fixed examples of the laws of package gauss (awake); that what was in memory is as it was, as one condition. -/
import Derived.Test.YtoiiajmdfkgcbaaUd
namespace Go.Proofs.Ytoiiajmdfkgcbaa
open Go.RowKit

/-- What was in memory is as it was. -/
structure Bst (W w : World) : Prop where
  b : Below W.heap.size W w
theorem Bst.start (W : World) : Bst W W := ⟨Below.refl _ _⟩
theorem Bst.on {W w w' : World} (h : Bst W w) (hb : Below w.heap.size w w') : Bst W w' := ⟨below_on h.b hb⟩
theorem Bst.al {W w : World} (h : Bst W w) (o : Obj) : Bst W (w.alloc o) := h.on ((Below.refl w.heap.size w).alloc (Nat.le_refl _) o)
theorem eq5 (M N D E X : Int) (w : World) : (binOp .eql 24 (rsv M N D E X) (rsv M N D E X)).run Try.prog w = .ok (.bool true) w := by simp [go_sem]
theorem eq3 (y m d : Int) (w : World) : (binOp .eql 29 (dtv y m d) (dtv y m d)).run Try.prog w = .ok (.bool true) w := by simp [go_sem]
/-- Two structs of five cells and one of three between them, in memory. -/
def Thr (W : World) (bS bD bT : Nat) (m n d f x y p q : Int) (u : World) : Prop := u.cell? ⟨bS, 0, none⟩ = some (.int .i64 m) ∧ u.cell? ⟨bS, 1, none⟩ = some (.int .i64 n) ∧ u.cell? ⟨bS, 2, none⟩ = some (.int .i64 d) ∧ u.cell? ⟨bS, 3, none⟩ = some (.int .i64 f) ∧ u.cell? ⟨bS, 4, none⟩ = some (.int .i64 x) ∧ u.cell? ⟨bD, 0, none⟩ = some (.int .i64 y) ∧ u.cell? ⟨bD, 1, none⟩ = some (.int .i64 p) ∧ u.cell? ⟨bD, 2, none⟩ = some (.int .i64 q) ∧ u.cell? ⟨bT, 0, none⟩ = some (.int .i64 m) ∧ u.cell? ⟨bT, 1, none⟩ = some (.int .i64 n) ∧ u.cell? ⟨bT, 2, none⟩ = some (.int .i64 d) ∧ u.cell? ⟨bT, 3, none⟩ = some (.int .i64 f) ∧ u.cell? ⟨bT, 4, none⟩ = some (.int .i64 x) ∧ Below W.heap.size W u
theorem Thr.on {W : World} {bS bD bT : Nat} {m n d f x y p q : Int} {u u' : World} (h : Thr W bS bD bT m n d f x y p q u) (hb : Below u.heap.size u u') : Thr W bS bD bT m n d f x y p q u' := by
  obtain ⟨a0, a1, a2, a3, a4, a5, a6, a7, a8, a9, a10, a11, a12, z⟩ := h
  exact ⟨cell_below a0 hb, cell_below a1 hb, cell_below a2 hb, cell_below a3 hb, cell_below a4 hb, cell_below a5 hb, cell_below a6 hb, cell_below a7 hb, cell_below a8 hb, cell_below a9 hb, cell_below a10 hb, cell_below a11 hb, cell_below a12 hb, below_on z hb⟩
theorem Thr.drew {W : World} {bS bD bT : Nat} {m n d f x y p q : Int} {u : World} (h : Thr W bS bD bT m n d f x y p q u) : Thr W bS bD bT m n d f x y p q u.drew := h.on (below_dn (Below.refl _ _) 1)
theorem c11awake_any (W : World) : Calls Try.prog 6 #[] W fun e w' => e = .returned (.bool true) ∧ Below W.heap.size W w' := by
  have H1 : ∀ w, Calls Try.prog 7 #[.int .i64 2, .int .i64 1981] w fun e w' => e = .returned (stv 24 5 29 6 1 0) ∧ Below w.heap.size w w' := fun w => by
    have := utrace_any 2 1981 w (by kernel_rfl)
    rwa [show uM 2 1981 = 24 by kernel_rfl, show uN 2 1981 = 5 by kernel_rfl, show uD 2 1981 = 29 by kernel_rfl, show uE 2 1981 = 6 by kernel_rfl, show uX 2 1981 = 1 by kernel_rfl] at this
  have H2 : ∀ w, Calls Try.prog 8 #[.int .i64 2, .int .i64 1981] w fun e w' => e = .returned (datv 1981 4 19 0) ∧ Below w.heap.size w w' := fun w => by
    have := udate_any 2 1981 w (by kernel_rfl)
    rwa [show marM (uO 2 1981) = 4 by kernel_rfl, show marD (uO 2 1981) = 19 by kernel_rfl] at this
  have H3 : ∀ w, Calls Try.prog 8 #[.int .i64 2, .int .i64 1954] w fun e w' => e = .returned (datv 1954 4 18 0) ∧ Below w.heap.size w w' := fun w => by
    have := udate_any 2 1954 w (by kernel_rfl)
    rwa [show marM (uO 2 1954) = 4 by kernel_rfl, show marD (uO 2 1954) = 18 by kernel_rfl] at this
  have H4 : ∀ w, Calls Try.prog 8 #[.int .i64 2, .int .i64 1582] w fun e w' => e = .returned (datv 0 0 0 1) ∧ Below w.heap.size w w' := fun w => by
    have := udate_bad 2 1582 w (by rw [show epE 2 1582 = 1 by kernel_rfl]; omega)
    rwa [show epE 2 1582 = 1 by kernel_rfl] at this
  have S0 := Lib.hid (Bst.start W)
  go_enter Try.func6, Try.ntmps6
  go_wp2_with fail
  refine (H1 _).mono ?_
  rintro e w1 ⟨rfl, hb1⟩
  have S1 := Lib.hid (S0.out.on hb1)
  clear hb1
  go_wp2_with fail
  refine (H2 _).mono ?_
  rintro e w2 ⟨rfl, hb2⟩
  have S2 := Lib.hid ((S1.out.al _).on hb2)
  have RS2 := Lib.hid (row_on (heap_alloc_new _ _) hb2)
  obtain ⟨cS0, cS1, cS2, cS3, cS4, gS0, gS1, gS2, gS3, gS4, zS⟩ := row5 RS2.out
  clear hb2
  have nSD := Nat.ne_of_lt zS
  have nDS := (Nat.ne_of_lt zS).symm
  go_wp2_with fail
  refine (H3 _).mono ?_
  rintro e w3 ⟨rfl, hb3⟩
  have S3 := Lib.hid ((S2.out.al _).on hb3)
  have RS3 := Lib.hid (row_on (row_al RS2.out _) hb3)
  have RD3 := Lib.hid (row_on (heap_alloc_new _ _) hb3)
  clear RS2
  clear cS0 cS1 cS2 cS3 cS4 gS0 gS1 gS2 gS3 gS4 zS
  obtain ⟨cS0, cS1, cS2, cS3, cS4, gS0, gS1, gS2, gS3, gS4, zS⟩ := row5 RS3.out
  obtain ⟨cD0, cD1, cD2, gD0, gD1, gD2, zD⟩ := row3 RD3.out
  clear hb3
  have nSX := Nat.ne_of_lt zS
  have nXS := (Nat.ne_of_lt zS).symm
  have nDX := Nat.ne_of_lt zD
  have nXD := (Nat.ne_of_lt zD).symm
  go_wp2_with fail
  refine (H4 _).mono ?_
  rintro e w4 ⟨rfl, hb4⟩
  have S4 := Lib.hid ((S3.out.al _).on hb4)
  have RS4 := Lib.hid (row_on (row_al RS3.out _) hb4)
  have RD4 := Lib.hid (row_on (row_al RD3.out _) hb4)
  have RX4 := Lib.hid (row_on (heap_alloc_new _ _) hb4)
  clear RS3 RD3
  clear cS0 cS1 cS2 cS3 cS4 gS0 gS1 gS2 gS3 gS4 zS
  obtain ⟨cS0, cS1, cS2, cS3, cS4, gS0, gS1, gS2, gS3, gS4, zS⟩ := row5 RS4.out
  clear cD0 cD1 cD2 gD0 gD1 gD2 zD
  obtain ⟨cD0, cD1, cD2, gD0, gD1, gD2, zD⟩ := row3 RD4.out
  obtain ⟨cX0, cX1, cX2, gX0, gX1, gX2, zX⟩ := row3 RX4.out
  clear hb4
  go_wp2_with fail
  go_ret
  exact ⟨rfl, (S4.out.al _).b⟩
end Go.Proofs.Ytoiiajmdfkgcbaa
