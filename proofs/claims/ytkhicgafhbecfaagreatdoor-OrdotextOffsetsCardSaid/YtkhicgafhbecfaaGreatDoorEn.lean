/- Package ordotext: entry. -/
import Derived.Test.YtkhicgafhbecfaaGreatDoorEm
import Derived.LoopN
namespace Go.Proofs.YtkhicgafhbecfaaGreatDoor
open Go.RowKit

theorem row14 {q : Nat} {T : TypeId} {u : World} {a0 a1 a2 a3 a4 a5 a6 a7 a8 a9 a10 a11 a12 a13 : Value} (h : u.heap[q]? = some (.cells #[a0, a1, a2, a3, a4, a5, a6, a7, a8, a9, a10, a11, a12, a13] T (0, 0))) :
    u.cell? ⟨q, 0, none⟩ = some a0 ∧ u.cell? ⟨q, 1, none⟩ = some a1 ∧ u.cell? ⟨q, 2, none⟩ = some a2 ∧ u.cell? ⟨q, 3, none⟩ = some a3 ∧ u.cell? ⟨q, 4, none⟩ = some a4 ∧ u.cell? ⟨q, 5, none⟩ = some a5 ∧ u.cell? ⟨q, 6, none⟩ = some a6 ∧ u.cell? ⟨q, 7, none⟩ = some a7 ∧ u.cell? ⟨q, 8, none⟩ = some a8 ∧ u.cell? ⟨q, 9, none⟩ = some a9 ∧ u.cell? ⟨q, 10, none⟩ = some a10 ∧ u.cell? ⟨q, 11, none⟩ = some a11 ∧ u.cell? ⟨q, 12, none⟩ = some a12 ∧ u.cell? ⟨q, 13, none⟩ = some a13 := by
  refine ⟨?_, ?_, ?_, ?_, ?_, ?_, ?_, ?_, ?_, ?_, ?_, ?_, ?_, ?_⟩ <;> (rw [cell_of_row _ _ _ _ _ _ h]; rfl)
theorem fro14 {q : Nat} {T : TypeId} {u : World} {a0 a1 a2 a3 a4 a5 a6 a7 a8 a9 a10 a11 a12 a13 : Value} (h : u.heap[q]? = some (.cells #[a0, a1, a2, a3, a4, a5, a6, a7, a8, a9, a10, a11, a12, a13] T (0, 0))) :
    u.frozen? ⟨q, 0, none⟩ = false ∧ u.frozen? ⟨q, 1, none⟩ = false ∧ u.frozen? ⟨q, 2, none⟩ = false ∧ u.frozen? ⟨q, 3, none⟩ = false ∧ u.frozen? ⟨q, 4, none⟩ = false ∧ u.frozen? ⟨q, 5, none⟩ = false ∧ u.frozen? ⟨q, 6, none⟩ = false ∧ u.frozen? ⟨q, 7, none⟩ = false ∧ u.frozen? ⟨q, 8, none⟩ = false ∧ u.frozen? ⟨q, 9, none⟩ = false ∧ u.frozen? ⟨q, 10, none⟩ = false ∧ u.frozen? ⟨q, 11, none⟩ = false ∧ u.frozen? ⟨q, 12, none⟩ = false ∧ u.frozen? ⟨q, 13, none⟩ = false :=
  ⟨frozen_of_row _ _ 0 _ _ h, frozen_of_row _ _ 1 _ _ h, frozen_of_row _ _ 2 _ _ h, frozen_of_row _ _ 3 _ _ h, frozen_of_row _ _ 4 _ _ h, frozen_of_row _ _ 5 _ _ h, frozen_of_row _ _ 6 _ _ h, frozen_of_row _ _ 7 _ _ h, frozen_of_row _ _ 8 _ _ h, frozen_of_row _ _ 9 _ _ h, frozen_of_row _ _ 10 _ _ h, frozen_of_row _ _ 11 _ _ h, frozen_of_row _ _ 12 _ _ h, frozen_of_row _ _ 13 _ _ h⟩
def set14 (w : World) (q : Nat) (x0 x1 x2 x3 x4 x5 x6 x7 x8 x9 x10 x11 x12 x13 : Value) : World := (((((((((((((w.setCell ⟨q, 0, none⟩ x0).setCell ⟨q, 1, none⟩ x1).setCell ⟨q, 2, none⟩ x2).setCell ⟨q, 3, none⟩ x3).setCell ⟨q, 4, none⟩ x4).setCell ⟨q, 5, none⟩ x5).setCell ⟨q, 6, none⟩ x6).setCell ⟨q, 7, none⟩ x7).setCell ⟨q, 8, none⟩ x8).setCell ⟨q, 9, none⟩ x9).setCell ⟨q, 10, none⟩ x10).setCell ⟨q, 11, none⟩ x11).setCell ⟨q, 12, none⟩ x12).setCell ⟨q, 13, none⟩ x13
theorem set14_row {q : Nat} {T : TypeId} {w : World} {a0 a1 a2 a3 a4 a5 a6 a7 a8 a9 a10 a11 a12 a13 : Value} (x0 x1 x2 x3 x4 x5 x6 x7 x8 x9 x10 x11 x12 x13 : Value) (h : w.heap[q]? = some (.cells #[a0, a1, a2, a3, a4, a5, a6, a7, a8, a9, a10, a11, a12, a13] T (0, 0))) : (set14 w q x0 x1 x2 x3 x4 x5 x6 x7 x8 x9 x10 x11 x12 x13).heap[q]? = some (.cells #[x0, x1, x2, x3, x4, x5, x6, x7, x8, x9, x10, x11, x12, x13] T (0, 0)) := by
  have h1 : (w.setCell ⟨q, 0, none⟩ x0).heap[q]? = some (.cells #[x0, a1, a2, a3, a4, a5, a6, a7, a8, a9, a10, a11, a12, a13] T (0, 0)) := heap_setCell_same _ q 0 _ _ x0 h
  have h2 : ((w.setCell ⟨q, 0, none⟩ x0).setCell ⟨q, 1, none⟩ x1).heap[q]? = some (.cells #[x0, x1, a2, a3, a4, a5, a6, a7, a8, a9, a10, a11, a12, a13] T (0, 0)) := heap_setCell_same _ q 1 _ _ x1 h1
  have h3 : (((w.setCell ⟨q, 0, none⟩ x0).setCell ⟨q, 1, none⟩ x1).setCell ⟨q, 2, none⟩ x2).heap[q]? = some (.cells #[x0, x1, x2, a3, a4, a5, a6, a7, a8, a9, a10, a11, a12, a13] T (0, 0)) := heap_setCell_same _ q 2 _ _ x2 h2
  have h4 : ((((w.setCell ⟨q, 0, none⟩ x0).setCell ⟨q, 1, none⟩ x1).setCell ⟨q, 2, none⟩ x2).setCell ⟨q, 3, none⟩ x3).heap[q]? = some (.cells #[x0, x1, x2, x3, a4, a5, a6, a7, a8, a9, a10, a11, a12, a13] T (0, 0)) := heap_setCell_same _ q 3 _ _ x3 h3
  have h5 : (((((w.setCell ⟨q, 0, none⟩ x0).setCell ⟨q, 1, none⟩ x1).setCell ⟨q, 2, none⟩ x2).setCell ⟨q, 3, none⟩ x3).setCell ⟨q, 4, none⟩ x4).heap[q]? = some (.cells #[x0, x1, x2, x3, x4, a5, a6, a7, a8, a9, a10, a11, a12, a13] T (0, 0)) := heap_setCell_same _ q 4 _ _ x4 h4
  have h6 : ((((((w.setCell ⟨q, 0, none⟩ x0).setCell ⟨q, 1, none⟩ x1).setCell ⟨q, 2, none⟩ x2).setCell ⟨q, 3, none⟩ x3).setCell ⟨q, 4, none⟩ x4).setCell ⟨q, 5, none⟩ x5).heap[q]? = some (.cells #[x0, x1, x2, x3, x4, x5, a6, a7, a8, a9, a10, a11, a12, a13] T (0, 0)) := heap_setCell_same _ q 5 _ _ x5 h5
  have h7 : (((((((w.setCell ⟨q, 0, none⟩ x0).setCell ⟨q, 1, none⟩ x1).setCell ⟨q, 2, none⟩ x2).setCell ⟨q, 3, none⟩ x3).setCell ⟨q, 4, none⟩ x4).setCell ⟨q, 5, none⟩ x5).setCell ⟨q, 6, none⟩ x6).heap[q]? = some (.cells #[x0, x1, x2, x3, x4, x5, x6, a7, a8, a9, a10, a11, a12, a13] T (0, 0)) := heap_setCell_same _ q 6 _ _ x6 h6
  have h8 : ((((((((w.setCell ⟨q, 0, none⟩ x0).setCell ⟨q, 1, none⟩ x1).setCell ⟨q, 2, none⟩ x2).setCell ⟨q, 3, none⟩ x3).setCell ⟨q, 4, none⟩ x4).setCell ⟨q, 5, none⟩ x5).setCell ⟨q, 6, none⟩ x6).setCell ⟨q, 7, none⟩ x7).heap[q]? = some (.cells #[x0, x1, x2, x3, x4, x5, x6, x7, a8, a9, a10, a11, a12, a13] T (0, 0)) := heap_setCell_same _ q 7 _ _ x7 h7
  have h9 : (((((((((w.setCell ⟨q, 0, none⟩ x0).setCell ⟨q, 1, none⟩ x1).setCell ⟨q, 2, none⟩ x2).setCell ⟨q, 3, none⟩ x3).setCell ⟨q, 4, none⟩ x4).setCell ⟨q, 5, none⟩ x5).setCell ⟨q, 6, none⟩ x6).setCell ⟨q, 7, none⟩ x7).setCell ⟨q, 8, none⟩ x8).heap[q]? = some (.cells #[x0, x1, x2, x3, x4, x5, x6, x7, x8, a9, a10, a11, a12, a13] T (0, 0)) := heap_setCell_same _ q 8 _ _ x8 h8
  have h10 : ((((((((((w.setCell ⟨q, 0, none⟩ x0).setCell ⟨q, 1, none⟩ x1).setCell ⟨q, 2, none⟩ x2).setCell ⟨q, 3, none⟩ x3).setCell ⟨q, 4, none⟩ x4).setCell ⟨q, 5, none⟩ x5).setCell ⟨q, 6, none⟩ x6).setCell ⟨q, 7, none⟩ x7).setCell ⟨q, 8, none⟩ x8).setCell ⟨q, 9, none⟩ x9).heap[q]? = some (.cells #[x0, x1, x2, x3, x4, x5, x6, x7, x8, x9, a10, a11, a12, a13] T (0, 0)) := heap_setCell_same _ q 9 _ _ x9 h9
  have h11 : (((((((((((w.setCell ⟨q, 0, none⟩ x0).setCell ⟨q, 1, none⟩ x1).setCell ⟨q, 2, none⟩ x2).setCell ⟨q, 3, none⟩ x3).setCell ⟨q, 4, none⟩ x4).setCell ⟨q, 5, none⟩ x5).setCell ⟨q, 6, none⟩ x6).setCell ⟨q, 7, none⟩ x7).setCell ⟨q, 8, none⟩ x8).setCell ⟨q, 9, none⟩ x9).setCell ⟨q, 10, none⟩ x10).heap[q]? = some (.cells #[x0, x1, x2, x3, x4, x5, x6, x7, x8, x9, x10, a11, a12, a13] T (0, 0)) := heap_setCell_same _ q 10 _ _ x10 h10
  have h12 : ((((((((((((w.setCell ⟨q, 0, none⟩ x0).setCell ⟨q, 1, none⟩ x1).setCell ⟨q, 2, none⟩ x2).setCell ⟨q, 3, none⟩ x3).setCell ⟨q, 4, none⟩ x4).setCell ⟨q, 5, none⟩ x5).setCell ⟨q, 6, none⟩ x6).setCell ⟨q, 7, none⟩ x7).setCell ⟨q, 8, none⟩ x8).setCell ⟨q, 9, none⟩ x9).setCell ⟨q, 10, none⟩ x10).setCell ⟨q, 11, none⟩ x11).heap[q]? = some (.cells #[x0, x1, x2, x3, x4, x5, x6, x7, x8, x9, x10, x11, a12, a13] T (0, 0)) := heap_setCell_same _ q 11 _ _ x11 h11
  have h13 : (((((((((((((w.setCell ⟨q, 0, none⟩ x0).setCell ⟨q, 1, none⟩ x1).setCell ⟨q, 2, none⟩ x2).setCell ⟨q, 3, none⟩ x3).setCell ⟨q, 4, none⟩ x4).setCell ⟨q, 5, none⟩ x5).setCell ⟨q, 6, none⟩ x6).setCell ⟨q, 7, none⟩ x7).setCell ⟨q, 8, none⟩ x8).setCell ⟨q, 9, none⟩ x9).setCell ⟨q, 10, none⟩ x10).setCell ⟨q, 11, none⟩ x11).setCell ⟨q, 12, none⟩ x12).heap[q]? = some (.cells #[x0, x1, x2, x3, x4, x5, x6, x7, x8, x9, x10, x11, x12, a13] T (0, 0)) := heap_setCell_same _ q 12 _ _ x12 h12
  have h14 : ((((((((((((((w.setCell ⟨q, 0, none⟩ x0).setCell ⟨q, 1, none⟩ x1).setCell ⟨q, 2, none⟩ x2).setCell ⟨q, 3, none⟩ x3).setCell ⟨q, 4, none⟩ x4).setCell ⟨q, 5, none⟩ x5).setCell ⟨q, 6, none⟩ x6).setCell ⟨q, 7, none⟩ x7).setCell ⟨q, 8, none⟩ x8).setCell ⟨q, 9, none⟩ x9).setCell ⟨q, 10, none⟩ x10).setCell ⟨q, 11, none⟩ x11).setCell ⟨q, 12, none⟩ x12).setCell ⟨q, 13, none⟩ x13).heap[q]? = some (.cells #[x0, x1, x2, x3, x4, x5, x6, x7, x8, x9, x10, x11, x12, x13] T (0, 0)) := heap_setCell_same _ q 13 _ _ x13 h13
  exact h14
theorem set14_bt (w : World) (q : Nat) (x0 x1 x2 x3 x4 x5 x6 x7 x8 x9 x10 x11 x12 x13 : Value) : Bt q w (set14 w q x0 x1 x2 x3 x4 x5 x6 x7 x8 x9 x10 x11 x12 x13) := by
  unfold set14
  refine ((((((((((((((Bt.set q w 0 x0).trans (Bt.set q _ 1 x1)).trans (Bt.set q _ 2 x2)).trans (Bt.set q _ 3 x3)).trans (Bt.set q _ 4 x4)).trans (Bt.set q _ 5 x5)).trans (Bt.set q _ 6 x6)).trans (Bt.set q _ 7 x7)).trans (Bt.set q _ 8 x8)).trans (Bt.set q _ 9 x9)).trans (Bt.set q _ 10 x10)).trans (Bt.set q _ 11 x11)).trans (Bt.set q _ 12 x12)).trans (Bt.set q _ 13 x13))
theorem msr_mono {α : Type} {f : Prs α} (G : Gk f) {S : ByteArray} {x : Sc} (hk : x.k ≤ S.size) : msr S (f S x).2 ≤ msr S x := by
  cases q : x.b
  · have h1 := G.le S x hk
    unfold msr
    rw [q]
    show _ ≤ _ + 1
    split <;> omega
  · rw [G.bad S x q]; exact Nat.le_refl _
theorem kst_2 (S : ByteArray) (N : Nat) (y : Int)  (x : Sc) : kEnt N y S x = kE2 N y (yNu S (yW [wSp] S x).2).1 S (yNu S (yW [wSp] S x).2).2 := by
  unfold kEnt
  unfold yB
  rfl
theorem kst_4 (S : ByteArray) (N : Nat) (y : Int) (m : Int) (x : Sc) : kE2 N y m S x = kE3 N y m (yNu S (yW [wSp] S x).2).1 S (yNu S (yW [wSp] S x).2).2 := by
  unfold kE2
  unfold yB
  rfl
theorem kst_6 (S : ByteArray) (N : Nat) (y : Int) (m d : Int) (x : Sc) : kE3 N y m d S x = kE4 N y m d (yW lWd S (yW [wSp] S x).2).1 S (yW lWd S (yW [wSp] S x).2).2 := by
  unfold kE3
  unfold yB
  rfl
theorem kst_8 (S : ByteArray) (N : Nat) (y : Int) (m d wd : Int) (x : Sc) : kE4 N y m d wd S x = kE5 N y m d wd (yI S (yW [wSp] S x).2).1 S (yI S (yW [wSp] S x).2).2 := by
  unfold kE4
  unfold yB
  rfl
theorem kst_10 (S : ByteArray) (N : Nat) (y : Int) (m d wd : Int) (se : ByteArray) (x : Sc) : kE5 N y m d wd se S x = kE6 N y m d wd se (yNu S (yW [wSp] S x).2).1 S (yNu S (yW [wSp] S x).2).2 := by
  unfold kE5
  unfold yB
  rfl
theorem kst_12 (S : ByteArray) (N : Nat) (y : Int) (m d wd : Int) (se : ByteArray) (wk : Int) (x : Sc) : kE6 N y m d wd se wk S x = kE7 N y m d wd se wk (1 + (yW lKi S (yW [wSp] S x).2).1) S (yW lKi S (yW [wSp] S x).2).2 := by
  unfold kE6
  unfold yB
  rfl
theorem kst_14 (S : ByteArray) (N : Nat) (y : Int) (m d wd : Int) (se : ByteArray) (wk ki : Int) (x : Sc) : kE7 N y m d wd se wk ki S x = kE8 N y m d wd se wk ki (yI S (yW [wSp] S x).2).1 S (yI S (yW [wSp] S x).2).2 := by
  unfold kE7
  unfold yB
  rfl
theorem kst_16 (S : ByteArray) (N : Nat) (y : Int) (m d wd : Int) (se : ByteArray) (wk ki : Int) (pr : ByteArray) (x : Sc) : kE8 N y m d wd se wk ki pr S x = kRst N y m d wd se wk ki pr (yNu S (yW [wSp] S x).2).1 S (yNu S (yW [wSp] S x).2).2 := by
  unfold kE8
  unfold yB
  rfl
theorem kEnt_steps {S : ByteArray} {N : Nat} {y m d wd wk ki rk j1 j3 j5 j7 j9 j11 j13 j15 : Int} {se pr : ByteArray} {x x1 x2 x3 x4 x5 x6 x7 x8 x9 x10 x11 x12 x13 x14 x15 x16 : Sc} (h1 : yW [wSp] S x = (j1, x1)) (h2 : yNu S x1 = (m, x2)) (h3 : yW [wSp] S x2 = (j3, x3)) (h4 : yNu S x3 = (d, x4)) (h5 : yW [wSp] S x4 = (j5, x5)) (h6 : yW lWd S x5 = (wd, x6)) (h7 : yW [wSp] S x6 = (j7, x7)) (h8 : yI S x7 = (se, x8)) (h9 : yW [wSp] S x8 = (j9, x9)) (h10 : yNu S x9 = (wk, x10)) (h11 : yW [wSp] S x10 = (j11, x11)) (h12 : yW lKi S x11 = (ki, x12)) (h13 : yW [wSp] S x12 = (j13, x13)) (h14 : yI S x13 = (pr, x14)) (h15 : yW [wSp] S x14 = (j15, x15)) (h16 : yNu S x15 = (rk, x16)) : kEnt N y S x = kRst N y m d wd se wk (1 + ki) pr rk S x16 := by
  rw [kst_2, h1]
  dsimp only
  rw [h2]
  dsimp only
  rw [kst_4, h3]
  dsimp only
  rw [h4]
  dsimp only
  rw [kst_6, h5]
  dsimp only
  rw [h6]
  dsimp only
  rw [kst_8, h7]
  dsimp only
  rw [h8]
  dsimp only
  rw [kst_10, h9]
  dsimp only
  rw [h10]
  dsimp only
  rw [kst_12, h11]
  dsimp only
  rw [h12]
  dsimp only
  rw [kst_14, h13]
  dsimp only
  rw [h14]
  dsimp only
  rw [kst_16, h15]
  dsimp only
  rw [h16]
theorem frm_y (S : ByteArray) (x : Sc) (y : Int) : (kFrm 3 y S x).1.1 = y := rfl
theorem kRst_eq {S : ByteArray} {N : Nat} {y m d wd wk ki rk : Int} {se pr : ByteArray} {x : Sc} {f : Int × Int × Int} {x1 : Sc} {co om : List ByteArray} {x2 : Sc} (h1 : kFrm ki y S x = (f, x1)) (h2 : kOth N false [] [] S x1 = ((co, om), x2)) :
    kRst N y m d wd se wk ki pr rk S x = (⟨y, m, d, wd, se, wk, ki, pr, rk, f.1, f.2.1, f.2.2, co, om⟩, x2) := by
  show ((⟨y, m, d, wd, se, wk, ki, pr, rk, (kFrm ki y S x).1.1, (kFrm ki y S x).1.2.1, (kFrm ki y S x).1.2.2, (kOth N false [] [] S (kFrm ki y S x).2).1.1, (kOth N false [] [] S (kFrm ki y S x).2).1.2⟩ : Ent), (kOth N false [] [] S (kFrm ki y S x).2).2) = _
  rw [h1]
  show ((⟨y, m, d, wd, se, wk, ki, pr, rk, f.1, f.2.1, f.2.2, (kOth N false [] [] S x1).1.1, (kOth N false [] [] S x1).1.2⟩ : Ent), (kOth N false [] [] S x1).2) = _
  rw [h2]
abbrev Ent.cells (e : Ent) (vc vo : Value) : Array Value := #[.int .i64 e.y, .int .i64 e.m, .int .i64 e.d, .int .i64 e.wd, .string e.se, .int .i64 e.wk, .int .i64 e.ki, .string e.pr, .int .i64 e.rk, .int .i64 e.fy, .int .i64 e.fm, .int .i64 e.fd, vc, vo]
set_option maxRecDepth 100000 in
set_option maxHeartbeats 4000000 in
theorem p27ent {S : ByteArray} {b : Nat} {x : Sc} {w : World} {y : Int} {N : Nat} (h : w.heap[b]? = some (scX S x)) (hk : x.k ≤ S.size) (hs : S.size ≤ 100000) (hT : WTab w) (hN : msr S x < N) (hN2 : N ≤ 1000000) :
    Calls Tryz.prog 45 #[pv b, .int .i64 y] w fun r w' => ∃ vc vo, r = .returned (.agg ((kEnt N y S x).1.cells vc vo)) ∧ w'.heap[b]? = some (scX S (kEnt N y S x).2) ∧ StrsAt w.heap.size vc (kEnt N y S x).1.co w' ∧ StrsAt w.heap.size vo (kEnt N y S x).1.om w' ∧ Bt b w w' := by
  have HP := Lib.hid (fun (u : World) (E : Nat) => p27prt b E u)
  have lb : b < w.heap.size := row_lt h
  have tg := hT.heap
  have hT := Lib.hid hT
  go_enter Tryz.func45, Tryz.ntmps45
  go_wp2_with fail
  obtain ⟨u, hu⟩ : ∃ u, u = (((w.alloc (.cells #[xp b] 47)).alloc (.cells #[.int .i64 0, .int .i64 0, .int .i64 0, .int .i64 0, .string ⟨#[]⟩, .int .i64 0, .int .i64 0, .string ⟨#[]⟩, .int .i64 0, .int .i64 0, .int .i64 0, .int .i64 0, .slice none 0 0, .slice none 0 0] 40)).alloc (.cells #[.int .i64 0, .int .i64 0, .int .i64 0, .int .i64 0, .string ⟨#[]⟩, .int .i64 0, .int .i64 0, .string ⟨#[]⟩, .int .i64 0, .int .i64 0, .int .i64 0, .int .i64 0, .slice none 0 0, .slice none 0 0] 40)) := ⟨_, rfl⟩
  have B0 : Below w.heap.size w u := hu ▸ al3 w _ _ _
  have rs := row_kept h B0
  have rP : u.heap[w.heap.size]? = some (bxQ b) := hu ▸ row_on (heap_alloc_new _ _) (al2 _ _ _)
  have rR : u.heap[w.heap.size + 1]? = some (.cells #[.int .i64 0, .int .i64 0, .int .i64 0, .int .i64 0, .string ⟨#[]⟩, .int .i64 0, .int .i64 0, .string ⟨#[]⟩, .int .i64 0, .int .i64 0, .int .i64 0, .int .i64 0, .slice none 0 0, .slice none 0 0] 40 (0, 0)) := hu ▸ row_on (row_new1 _ _ _) (al1 _ _)
  have rE : u.heap[w.heap.size + 1 + 1]? = some (.cells #[.int .i64 0, .int .i64 0, .int .i64 0, .int .i64 0, .string ⟨#[]⟩, .int .i64 0, .int .i64 0, .string ⟨#[]⟩, .int .i64 0, .int .i64 0, .int .i64 0, .int .i64 0, .slice none 0 0, .slice none 0 0] 40 (0, 0)) := hu ▸ row_new2 _ _ _ _
  have hz : u.heap.size = w.heap.size + 1 + 1 + 1 := by rw [hu]; simp
  rw [← hu]
  clear hu
  have hb := Bt.of_below (b := b) B0
  have tu := hT.out.on B0
  generalize hPB : w.heap.size = PB at *
  generalize hR : PB + 1 = R at *
  generalize hE : R + 1 = E at *
  refine (HP.out u E).mono ?_
  rintro e0 w1 ⟨rfl, r0, r1, rG, g1⟩
  generalize hP0 : u.heap.size = P0 at *
  generalize hE0 : P0 + 1 = E0 at *
  generalize hG : E0 + 1 = G at *
  have rP := Lib.hid (row_kept rP (hP0 ▸ g1))
  have rR := Lib.hid (row_kept rR (hP0 ▸ g1))
  have hbt := Lib.hid (hb.trans (.of_below (hP0 ▸ g1)))
  have tE : 0 ≠ E := by omega
  have C0 : C27 S b E P0 E0 w1 x #[.int .i64 0, .int .i64 0, .int .i64 0, .int .i64 0, .string ⟨#[]⟩, .int .i64 0, .int .i64 0, .string ⟨#[]⟩, .int .i64 0, .int .i64 0, .int .i64 0, .int .i64 0, .slice none 0 0, .slice none 0 0] w1 := ⟨row_kept rs (hP0 ▸ g1), row_kept rE (hP0 ▸ g1), r0, r1, .refl _ _ _, tu.on (hP0 ▸ g1), by omega, by omega, by omega, tE⟩
  have rG := Lib.hid rG
  have PBb : PB ≠ b := by omega
  have PBE : PB ≠ E := by omega
  have Gb : G ≠ b := by omega
  have GE : G ≠ E := by omega
  have Rb : R ≠ b := by omega
  have RE : R ≠ E := by omega
  have HZ := Lib.hid (⟨by omega, by omega, by have := row_lt r0; omega, by omega⟩ : w.heap.size ≤ PB ∧ w.heap.size ≤ E ∧ w.heap.size ≤ w1.heap.size ∧ w.heap.size ≤ R)
  clear rs rE r0 r1 g1 hb tu B0 hz hPB hR hE hP0 hE0 hG
  replace C0 := Lib.hid C0
  have K0 : x.k ≤ S.size := hk
  have M0 : msr S x ≤ msr S x := Nat.le_refl _
  have Z1 := Tryz.call89
  have Z2 := Tryz.call90
  have Z3 := Tryz.call91
  have Z4 := Tryz.call93
  have Z5 := Tryz.call95
  have Z6 := Tryz.call96
  have Z7 := Tryz.call97
  have Z8 := Tryz.call98
  go_wp2_with fail
  refine wp_loop_rounds 9 ?_
  rw [rounds_succ]
  have cG : w1.cell? ⟨G, 0, none⟩ = some (.func (.func 89) #[] #[.pointer (some ⟨P0, 0, none⟩), .pointer (some ⟨E0, 0, none⟩)]) := by rw [cell_of_row _ _ _ _ _ _ (C0.out.bl.row Gb GE rG.out)]; rfl
  have cP : w1.cell? ⟨PB, 0, none⟩ = some (xp b) := by rw [cell_of_row _ _ _ _ _ _ (C0.out.bl.row PBb PBE rP.out)]; rfl
  go_wp2_with fail
  refine (xw_one (e := wSp) C0.out.s K0 (lt_big hs) wds_wSp).mono ?_
  rintro e u1 ⟨rfl, s1, g1⟩
  clear cG cP
  have K1 := ((gd_W [wSp]).le S x K0).2
  have M1 := Nat.le_trans (msr_mono (gd_W [wSp]) K0) M0
  obtain ⟨q, h1⟩ : ∃ q, yW [wSp] S x = q := ⟨_, rfl⟩
  rw [h1] at s1 K1 M1 ⊢
  obtain ⟨j1, x1⟩ := q
  simp only at s1 K1 M1 ⊢
  have D1 := Lib.hid (C0.out.call s1 g1)
  have h1 := Lib.hid h1
  clear s1 g1
  go_wp2_with fail
  refine (p27c1 D1.out K1 hs rfl).mono ?_
  rintro e u2 ⟨rfl, c1⟩
  have K2 := (gd_N.le S x1 K1).2
  have M2 := Nat.le_trans (msr_mono gd_N K1) M1
  obtain ⟨q, h2⟩ : ∃ q, yNu S x1 = q := ⟨_, rfl⟩
  rw [h2] at c1 K2 M2
  obtain ⟨m, x2⟩ := q
  simp only at c1 K2 M2
  have C1 : Hid (C27 S b E P0 E0 w1 x2 #[.int .i64 0, .int .i64 m, .int .i64 0, .int .i64 0, .string ⟨#[]⟩, .int .i64 0, .int .i64 0, .string ⟨#[]⟩, .int .i64 0, .int .i64 0, .int .i64 0, .int .i64 0, .slice none 0 0, .slice none 0 0] u2) := Lib.hid c1
  have h2 := Lib.hid h2
  clear c1
  go_wp2_with fail
  rw [rounds_succ]
  have cG : u2.cell? ⟨G, 1, none⟩ = some (.func (.func 90) #[] #[.pointer (some ⟨P0, 0, none⟩), .pointer (some ⟨E0, 0, none⟩)]) := by rw [cell_of_row _ _ _ _ _ _ (C1.out.bl.row Gb GE rG.out)]; rfl
  have cP : u2.cell? ⟨PB, 0, none⟩ = some (xp b) := by rw [cell_of_row _ _ _ _ _ _ (C1.out.bl.row PBb PBE rP.out)]; rfl
  go_wp2_with fail
  refine (xw_one (e := wSp) C1.out.s K2 (lt_big hs) wds_wSp).mono ?_
  rintro e u3 ⟨rfl, s1, g1⟩
  clear cG cP
  have K3 := ((gd_W [wSp]).le S x2 K2).2
  have M3 := Nat.le_trans (msr_mono (gd_W [wSp]) K2) M2
  obtain ⟨q, h3⟩ : ∃ q, yW [wSp] S x2 = q := ⟨_, rfl⟩
  rw [h3] at s1 K3 M3 ⊢
  obtain ⟨j3, x3⟩ := q
  simp only at s1 K3 M3 ⊢
  have D2 := Lib.hid (C1.out.call s1 g1)
  have h3 := Lib.hid h3
  clear s1 g1
  go_wp2_with fail
  refine (p27c2 D2.out K3 hs rfl).mono ?_
  rintro e u4 ⟨rfl, c1⟩
  have K4 := (gd_N.le S x3 K3).2
  have M4 := Nat.le_trans (msr_mono gd_N K3) M3
  obtain ⟨q, h4⟩ : ∃ q, yNu S x3 = q := ⟨_, rfl⟩
  rw [h4] at c1 K4 M4
  obtain ⟨d, x4⟩ := q
  simp only at c1 K4 M4
  have C2 : Hid (C27 S b E P0 E0 w1 x4 #[.int .i64 0, .int .i64 m, .int .i64 d, .int .i64 0, .string ⟨#[]⟩, .int .i64 0, .int .i64 0, .string ⟨#[]⟩, .int .i64 0, .int .i64 0, .int .i64 0, .int .i64 0, .slice none 0 0, .slice none 0 0] u4) := Lib.hid c1
  have h4 := Lib.hid h4
  clear c1
  go_wp2_with fail
  rw [rounds_succ]
  have cG : u4.cell? ⟨G, 2, none⟩ = some (.func (.func 91) #[] #[.pointer (some ⟨P0, 0, none⟩), .pointer (some ⟨E0, 0, none⟩)]) := by rw [cell_of_row _ _ _ _ _ _ (C2.out.bl.row Gb GE rG.out)]; rfl
  have cP : u4.cell? ⟨PB, 0, none⟩ = some (xp b) := by rw [cell_of_row _ _ _ _ _ _ (C2.out.bl.row PBb PBE rP.out)]; rfl
  go_wp2_with fail
  refine (xw_one (e := wSp) C2.out.s K4 (lt_big hs) wds_wSp).mono ?_
  rintro e u5 ⟨rfl, s1, g1⟩
  clear cG cP
  have K5 := ((gd_W [wSp]).le S x4 K4).2
  have M5 := Nat.le_trans (msr_mono (gd_W [wSp]) K4) M4
  obtain ⟨q, h5⟩ : ∃ q, yW [wSp] S x4 = q := ⟨_, rfl⟩
  rw [h5] at s1 K5 M5 ⊢
  obtain ⟨j5, x5⟩ := q
  simp only at s1 K5 M5 ⊢
  have D3 := Lib.hid (C2.out.call s1 g1)
  have h5 := Lib.hid h5
  clear s1 g1
  go_wp2_with fail
  refine (p27c3 D3.out K5 hs rfl).mono ?_
  rintro e u6 ⟨rfl, c1⟩
  have K6 := ((gd_W lWd).le S x5 K5).2
  have M6 := Nat.le_trans (msr_mono (gd_W lWd) K5) M5
  obtain ⟨q, h6⟩ : ∃ q, yW lWd S x5 = q := ⟨_, rfl⟩
  rw [h6] at c1 K6 M6
  obtain ⟨wd, x6⟩ := q
  simp only at c1 K6 M6
  have C3 : Hid (C27 S b E P0 E0 w1 x6 #[.int .i64 0, .int .i64 m, .int .i64 d, .int .i64 wd, .string ⟨#[]⟩, .int .i64 0, .int .i64 0, .string ⟨#[]⟩, .int .i64 0, .int .i64 0, .int .i64 0, .int .i64 0, .slice none 0 0, .slice none 0 0] u6) := Lib.hid c1
  have h6 := Lib.hid h6
  clear c1
  go_wp2_with fail
  rw [rounds_succ]
  have cG : u6.cell? ⟨G, 3, none⟩ = some (.func (.func 93) #[] #[.pointer (some ⟨P0, 0, none⟩), .pointer (some ⟨E0, 0, none⟩)]) := by rw [cell_of_row _ _ _ _ _ _ (C3.out.bl.row Gb GE rG.out)]; rfl
  have cP : u6.cell? ⟨PB, 0, none⟩ = some (xp b) := by rw [cell_of_row _ _ _ _ _ _ (C3.out.bl.row PBb PBE rP.out)]; rfl
  go_wp2_with fail
  refine (xw_one (e := wSp) C3.out.s K6 (lt_big hs) wds_wSp).mono ?_
  rintro e u7 ⟨rfl, s1, g1⟩
  clear cG cP
  have K7 := ((gd_W [wSp]).le S x6 K6).2
  have M7 := Nat.le_trans (msr_mono (gd_W [wSp]) K6) M6
  obtain ⟨q, h7⟩ : ∃ q, yW [wSp] S x6 = q := ⟨_, rfl⟩
  rw [h7] at s1 K7 M7 ⊢
  obtain ⟨j7, x7⟩ := q
  simp only at s1 K7 M7 ⊢
  have D4 := Lib.hid (C3.out.call s1 g1)
  have h7 := Lib.hid h7
  clear s1 g1
  go_wp2_with fail
  refine (p27c4 D4.out K7 hs rfl).mono ?_
  rintro e u8 ⟨rfl, c1⟩
  have K8 := (gd_I.le S x7 K7).2
  have M8 := Nat.le_trans (msr_mono gd_I K7) M7
  obtain ⟨q, h8⟩ : ∃ q, yI S x7 = q := ⟨_, rfl⟩
  rw [h8] at c1 K8 M8
  obtain ⟨se, x8⟩ := q
  simp only at c1 K8 M8
  have C4 : Hid (C27 S b E P0 E0 w1 x8 #[.int .i64 0, .int .i64 m, .int .i64 d, .int .i64 wd, .string se, .int .i64 0, .int .i64 0, .string ⟨#[]⟩, .int .i64 0, .int .i64 0, .int .i64 0, .int .i64 0, .slice none 0 0, .slice none 0 0] u8) := Lib.hid c1
  have h8 := Lib.hid h8
  clear c1
  go_wp2_with fail
  rw [rounds_succ]
  have cG : u8.cell? ⟨G, 4, none⟩ = some (.func (.func 95) #[] #[.pointer (some ⟨P0, 0, none⟩), .pointer (some ⟨E0, 0, none⟩)]) := by rw [cell_of_row _ _ _ _ _ _ (C4.out.bl.row Gb GE rG.out)]; rfl
  have cP : u8.cell? ⟨PB, 0, none⟩ = some (xp b) := by rw [cell_of_row _ _ _ _ _ _ (C4.out.bl.row PBb PBE rP.out)]; rfl
  go_wp2_with fail
  refine (xw_one (e := wSp) C4.out.s K8 (lt_big hs) wds_wSp).mono ?_
  rintro e u9 ⟨rfl, s1, g1⟩
  clear cG cP
  have K9 := ((gd_W [wSp]).le S x8 K8).2
  have M9 := Nat.le_trans (msr_mono (gd_W [wSp]) K8) M8
  obtain ⟨q, h9⟩ : ∃ q, yW [wSp] S x8 = q := ⟨_, rfl⟩
  rw [h9] at s1 K9 M9 ⊢
  obtain ⟨j9, x9⟩ := q
  simp only at s1 K9 M9 ⊢
  have D5 := Lib.hid (C4.out.call s1 g1)
  have h9 := Lib.hid h9
  clear s1 g1
  go_wp2_with fail
  refine (p27c5 D5.out K9 hs rfl).mono ?_
  rintro e u10 ⟨rfl, c1⟩
  have K10 := (gd_N.le S x9 K9).2
  have M10 := Nat.le_trans (msr_mono gd_N K9) M9
  obtain ⟨q, h10⟩ : ∃ q, yNu S x9 = q := ⟨_, rfl⟩
  rw [h10] at c1 K10 M10
  obtain ⟨wk, x10⟩ := q
  simp only at c1 K10 M10
  have C5 : Hid (C27 S b E P0 E0 w1 x10 #[.int .i64 0, .int .i64 m, .int .i64 d, .int .i64 wd, .string se, .int .i64 wk, .int .i64 0, .string ⟨#[]⟩, .int .i64 0, .int .i64 0, .int .i64 0, .int .i64 0, .slice none 0 0, .slice none 0 0] u10) := Lib.hid c1
  have h10 := Lib.hid h10
  clear c1
  go_wp2_with fail
  rw [rounds_succ]
  have cG : u10.cell? ⟨G, 5, none⟩ = some (.func (.func 96) #[] #[.pointer (some ⟨P0, 0, none⟩), .pointer (some ⟨E0, 0, none⟩)]) := by rw [cell_of_row _ _ _ _ _ _ (C5.out.bl.row Gb GE rG.out)]; rfl
  have cP : u10.cell? ⟨PB, 0, none⟩ = some (xp b) := by rw [cell_of_row _ _ _ _ _ _ (C5.out.bl.row PBb PBE rP.out)]; rfl
  go_wp2_with fail
  refine (xw_one (e := wSp) C5.out.s K10 (lt_big hs) wds_wSp).mono ?_
  rintro e u11 ⟨rfl, s1, g1⟩
  clear cG cP
  have K11 := ((gd_W [wSp]).le S x10 K10).2
  have M11 := Nat.le_trans (msr_mono (gd_W [wSp]) K10) M10
  obtain ⟨q, h11⟩ : ∃ q, yW [wSp] S x10 = q := ⟨_, rfl⟩
  rw [h11] at s1 K11 M11 ⊢
  obtain ⟨j11, x11⟩ := q
  simp only at s1 K11 M11 ⊢
  have D6 := Lib.hid (C5.out.call s1 g1)
  have h11 := Lib.hid h11
  clear s1 g1
  go_wp2_with fail
  refine (p27c6 D6.out K11 hs rfl).mono ?_
  rintro e u12 ⟨rfl, c1⟩
  have K12 := ((gd_W lKi).le S x11 K11).2
  have M12 := Nat.le_trans (msr_mono (gd_W lKi) K11) M11
  obtain ⟨q, h12⟩ : ∃ q, yW lKi S x11 = q := ⟨_, rfl⟩
  rw [h12] at c1 K12 M12
  obtain ⟨ki, x12⟩ := q
  simp only at c1 K12 M12
  have C6 : Hid (C27 S b E P0 E0 w1 x12 #[.int .i64 0, .int .i64 m, .int .i64 d, .int .i64 wd, .string se, .int .i64 wk, .int .i64 (1 + ki), .string ⟨#[]⟩, .int .i64 0, .int .i64 0, .int .i64 0, .int .i64 0, .slice none 0 0, .slice none 0 0] u12) := Lib.hid c1
  have h12 := Lib.hid h12
  clear c1
  go_wp2_with fail
  rw [rounds_succ]
  have cG : u12.cell? ⟨G, 6, none⟩ = some (.func (.func 97) #[] #[.pointer (some ⟨P0, 0, none⟩), .pointer (some ⟨E0, 0, none⟩)]) := by rw [cell_of_row _ _ _ _ _ _ (C6.out.bl.row Gb GE rG.out)]; rfl
  have cP : u12.cell? ⟨PB, 0, none⟩ = some (xp b) := by rw [cell_of_row _ _ _ _ _ _ (C6.out.bl.row PBb PBE rP.out)]; rfl
  go_wp2_with fail
  refine (xw_one (e := wSp) C6.out.s K12 (lt_big hs) wds_wSp).mono ?_
  rintro e u13 ⟨rfl, s1, g1⟩
  clear cG cP
  have K13 := ((gd_W [wSp]).le S x12 K12).2
  have M13 := Nat.le_trans (msr_mono (gd_W [wSp]) K12) M12
  obtain ⟨q, h13⟩ : ∃ q, yW [wSp] S x12 = q := ⟨_, rfl⟩
  rw [h13] at s1 K13 M13 ⊢
  obtain ⟨j13, x13⟩ := q
  simp only at s1 K13 M13 ⊢
  have D7 := Lib.hid (C6.out.call s1 g1)
  have h13 := Lib.hid h13
  clear s1 g1
  go_wp2_with fail
  refine (p27c7 D7.out K13 hs rfl).mono ?_
  rintro e u14 ⟨rfl, c1⟩
  have K14 := (gd_I.le S x13 K13).2
  have M14 := Nat.le_trans (msr_mono gd_I K13) M13
  obtain ⟨q, h14⟩ : ∃ q, yI S x13 = q := ⟨_, rfl⟩
  rw [h14] at c1 K14 M14
  obtain ⟨pr, x14⟩ := q
  simp only at c1 K14 M14
  have C7 : Hid (C27 S b E P0 E0 w1 x14 #[.int .i64 0, .int .i64 m, .int .i64 d, .int .i64 wd, .string se, .int .i64 wk, .int .i64 (1 + ki), .string pr, .int .i64 0, .int .i64 0, .int .i64 0, .int .i64 0, .slice none 0 0, .slice none 0 0] u14) := Lib.hid c1
  have h14 := Lib.hid h14
  clear c1
  go_wp2_with fail
  rw [rounds_succ]
  have cG : u14.cell? ⟨G, 7, none⟩ = some (.func (.func 98) #[] #[.pointer (some ⟨P0, 0, none⟩), .pointer (some ⟨E0, 0, none⟩)]) := by rw [cell_of_row _ _ _ _ _ _ (C7.out.bl.row Gb GE rG.out)]; rfl
  have cP : u14.cell? ⟨PB, 0, none⟩ = some (xp b) := by rw [cell_of_row _ _ _ _ _ _ (C7.out.bl.row PBb PBE rP.out)]; rfl
  go_wp2_with fail
  refine (xw_one (e := wSp) C7.out.s K14 (lt_big hs) wds_wSp).mono ?_
  rintro e u15 ⟨rfl, s1, g1⟩
  clear cG cP
  have K15 := ((gd_W [wSp]).le S x14 K14).2
  have M15 := Nat.le_trans (msr_mono (gd_W [wSp]) K14) M14
  obtain ⟨q, h15⟩ : ∃ q, yW [wSp] S x14 = q := ⟨_, rfl⟩
  rw [h15] at s1 K15 M15 ⊢
  obtain ⟨j15, x15⟩ := q
  simp only at s1 K15 M15 ⊢
  have D8 := Lib.hid (C7.out.call s1 g1)
  have h15 := Lib.hid h15
  clear s1 g1
  go_wp2_with fail
  refine (p27c8 D8.out K15 hs rfl).mono ?_
  rintro e u16 ⟨rfl, c1⟩
  have K16 := (gd_N.le S x15 K15).2
  have M16 := Nat.le_trans (msr_mono gd_N K15) M15
  obtain ⟨q, h16⟩ : ∃ q, yNu S x15 = q := ⟨_, rfl⟩
  rw [h16] at c1 K16 M16
  obtain ⟨rk, x16⟩ := q
  simp only at c1 K16 M16
  have C8 : Hid (C27 S b E P0 E0 w1 x16 #[.int .i64 0, .int .i64 m, .int .i64 d, .int .i64 wd, .string se, .int .i64 wk, .int .i64 (1 + ki), .string pr, .int .i64 rk, .int .i64 0, .int .i64 0, .int .i64 0, .slice none 0 0, .slice none 0 0] u16) := Lib.hid c1
  have h16 := Lib.hid h16
  clear c1
  go_wp2_with fail
  rw [rounds_succ]
  obtain ⟨ce, fe⟩ := C8.out.off (o := 0) (v := .int .i64 0) rfl
  obtain ⟨ck, -⟩ := C8.out.off (o := 6) (v := .int .i64 (1 + ki)) rfl
  have C9 : Hid (C27 S b E P0 E0 w1 x16 #[.int .i64 y, .int .i64 m, .int .i64 d, .int .i64 wd, .string se, .int .i64 wk, .int .i64 (1 + ki), .string pr, .int .i64 rk, .int .i64 0, .int .i64 0, .int .i64 0, .slice none 0 0, .slice none 0 0] (u16.setCell ⟨E, 0, none⟩ (.int .i64 y))) := Lib.hid (C8.out.put 0 (.int .i64 y))
  have ck9 : (u16.setCell ⟨E, 0, none⟩ (.int .i64 y)).cell? ⟨E, 6, none⟩ = some (.int .i64 (1 + ki)) := by rw [cell_of_row _ _ _ _ _ _ C9.out.v]; rfl
  have cP : (u16.setCell ⟨E, 0, none⟩ (.int .i64 y)).cell? ⟨PB, 0, none⟩ = some (xp b) := by rw [cell_of_row _ _ _ _ _ _ (C9.out.bl.row PBb PBE rP.out)]; rfl
  by_cases c3 : 1 + ki = 3
  · rw [c3] at ck9
    replace c3 := Lib.hid c3
    go_wp2_with fail
    clear ce fe ck ck9 cP
    generalize u16.setCell ⟨E, 0, none⟩ (.int .i64 y) = v0 at *
    have HO := p27org (y := y) C9.out.s K16 hs
    have Kf := (gk_Frm 3 y).le S x16 K16
    have Mf := Nat.le_trans (msr_mono (gk_Frm 3 y) K16) M16
    have hfy := frm_y S x16 y
    obtain ⟨q, hf⟩ : ∃ q, kFrm 3 y S x16 = q := ⟨_, rfl⟩
    rw [hf] at HO Kf Mf hfy
    obtain ⟨⟨fy, fm, fd⟩, x17⟩ := q
    simp only at HO Kf Mf hfy
    subst hfy
    refine HO.mono ?_
    rintro e v1 ⟨rfl, s1, g1⟩
    have C10 := C9.out.call s1 g1
    clear s1 g1 HO
    obtain ⟨q9, f9⟩ := C10.off (o := 9) (v := .int .i64 0) rfl
    obtain ⟨q10, f10⟩ := C10.off (o := 10) (v := .int .i64 0) rfl
    obtain ⟨q11, f11⟩ := C10.off (o := 11) (v := .int .i64 0) rfl
    have C11 : Hid (C27 S b E P0 E0 w1 x17 #[.int .i64 fy, .int .i64 m, .int .i64 d, .int .i64 wd, .string se, .int .i64 wk, .int .i64 (1 + ki), .string pr, .int .i64 rk, .int .i64 fy, .int .i64 fm, .int .i64 fd, .slice none 0 0, .slice none 0 0] (((v1.setCell ⟨E, 9, none⟩ (.int .i64 fy)).setCell ⟨E, 10, none⟩ (.int .i64 fm)).setCell ⟨E, 11, none⟩ (.int .i64 fd))) := Lib.hid (((C10.put 9 (.int .i64 fy)).put 10 (.int .i64 fm)).put 11 (.int .i64 fd))
    have cP : (((v1.setCell ⟨E, 9, none⟩ (.int .i64 fy)).setCell ⟨E, 10, none⟩ (.int .i64 fm)).setCell ⟨E, 11, none⟩ (.int .i64 fd)).cell? ⟨PB, 0, none⟩ = some (xp b) := by rw [cell_of_row _ _ _ _ _ _ (C11.out.bl.row PBb PBE rP.out)]; rfl
    clear C10
    go_wp2_with fail
    clear q9 q10 q11 f9 f10 f11 cP
    generalize ((v1.setCell ⟨E, 9, none⟩ (.int .i64 fy)).setCell ⟨E, 10, none⟩ (.int .i64 fm)).setCell ⟨E, 11, none⟩ (.int .i64 fd) = v2 at *
    have HO := p27oth (N := N) (F := fun vc vo => #[.int .i64 fy, .int .i64 m, .int .i64 d, .int .i64 wd, .string se, .int .i64 wk, .int .i64 (1 + ki), .string pr, .int .i64 rk, .int .i64 fy, .int .i64 fm, .int .i64 fd, vc, vo]) (fun _ _ => rfl) (fun _ _ => rfl) (fun _ _ _ => rfl) (fun _ _ _ => rfl) C11.out.s C11.out.v C11.out.o1 Kf.2 hs C11.out.t tE (Nat.lt_of_le_of_lt Mf hN) hN2
    obtain ⟨q, ho⟩ : ∃ q, kOth N false [] [] S x17 = q := ⟨_, rfl⟩
    rw [ho] at HO
    obtain ⟨⟨co, om⟩, x18⟩ := q
    simp only at HO
    refine HO.mono ?_
    rintro e v3 ⟨rfl, s3, vc, vo, r3, oc, oo, b3⟩
    have bl3 := Lib.hid (C11.out.bl.trans b3)
    have rR3 := bl3.out.row Rb RE rR.out
    have hf2 : kFrm (1 + ki) fy S x16 = ((fy, fm, fd), x17) := by rw [c3.out]; exact hf
    have hRv : R < v2.heap.size := Nat.lt_of_lt_of_le (row_lt rR.out) C11.out.bl.size
    have hws : w.heap.size ≤ v2.heap.size := Nat.le_trans HZ.out.2.2.1 C11.out.bl.size
    clear HO b3
    obtain ⟨p0, p1, p2, p3, p4, p5, p6, p7, p8, p9, p10, p11, p12, p13⟩ := row14 r3
    obtain ⟨n0, n1, n2, n3, n4, n5, n6, n7, n8, n9, n10, n11, n12, n13⟩ := row14 rR3
    obtain ⟨l0, l1, l2, l3, l4, l5, l6, l7, l8, l9, l10, l11, l12, l13⟩ := fro14 rR3
    have r3 := Lib.hid r3
    obtain ⟨ac, nc, kc, rfl⟩ : ∃ a n c, vc = .slice a n c := by obtain ⟨a, c, e⟩ := own_form oc; exact ⟨a, _, c, e⟩
    obtain ⟨ao, no, ko, rfl⟩ : ∃ a n c, vo = .slice a n c := by obtain ⟨a, c, e⟩ := own_form oo; exact ⟨a, _, c, e⟩
    have oc := Lib.hid oc
    have oo := Lib.hid oo
    go_wp2_with fail
    clear p0 n0 l0 p1 n1 l1 p2 n2 l2 p3 n3 l3 p4 n4 l4 p5 n5 l5 p6 n6 l6 p7 n7 l7 p8 n8 l8 p9 n9 l9 p10 n10 l10 p11 n11 l11 p12 n12 l12 p13 n13 l13
    obtain ⟨X, hX⟩ : ∃ X, X = set14 v3 R (.int .i64 fy) (.int .i64 m) (.int .i64 d) (.int .i64 wd) (.string se) (.int .i64 wk) (.int .i64 (1 + ki)) (.string pr) (.int .i64 rk) (.int .i64 fy) (.int .i64 fm) (.int .i64 fd) (.slice ac nc kc) (.slice ao no ko) := ⟨_, rfl⟩
    have BR := set14_bt v3 R (.int .i64 fy) (.int .i64 m) (.int .i64 d) (.int .i64 wd) (.string se) (.int .i64 wk) (.int .i64 (1 + ki)) (.string pr) (.int .i64 rk) (.int .i64 fy) (.int .i64 fm) (.int .i64 fd) (.slice ac nc kc) (.slice ao no ko)
    have rX := set14_row (.int .i64 fy) (.int .i64 m) (.int .i64 d) (.int .i64 wd) (.string se) (.int .i64 wk) (.int .i64 (1 + ki)) (.string pr) (.int .i64 rk) (.int .i64 fy) (.int .i64 fm) (.int .i64 fd) (.slice ac nc kc) (.slice ao no ko) rR3
    rw [← hX] at BR rX
    unfold set14 at hX
    rw [← hX]
    clear hX
    obtain ⟨p0, p1, p2, p3, p4, p5, p6, p7, p8, p9, p10, p11, p12, p13⟩ := row14 rX
    have hkE := kEnt_steps (N := N) (y := fy) h1.out h2.out h3.out h4.out h5.out h6.out h7.out h8.out h9.out h10.out h11.out h12.out h13.out h14.out h15.out h16.out
    rw [kRst_eq hf2 ho] at hkE
    rw [hkE]
    refine bodyPost_ret (v := .agg #[.int .i64 fy, .int .i64 m, .int .i64 d, .int .i64 wd, .string se, .int .i64 wk, .int .i64 (1 + ki), .string pr, .int .i64 rk, .int .i64 fy, .int .i64 fm, .int .i64 fd, .slice ac nc kc, .slice ao no ko]) (by simp [results, Tryz.results45, go_sem, p0, p1, p2, p3, p4, p5, p6, p7, p8, p9, p10, p11, p12, p13]) rfl ⟨.slice ac nc kc, .slice ao no ko, rfl, BR.row (Ne.symm Rb) s3, ?_, ?_, ?_⟩
    · exact own_base (own_bt oc.out BR hRv) hws
    · exact own_base (own_bt oo.out BR hRv) hws
    · exact (B2.out hbt.out bl3.out HZ.out.2.1).over BR HZ.out.2.2.2
  · have hkb : (1 + ki == 3) = false := beq_eq_false_iff_ne.2 c3
    go_wp2_with fail
    clear ce fe ck ck9 cP
    generalize u16.setCell ⟨E, 0, none⟩ (.int .i64 y) = v2 at *
    have hf : kFrm (1 + ki) y S x16 = ((0, 0, 0), x16) := by unfold kFrm; rw [if_neg c3]; rfl
    have HO := p27oth (N := N) (F := fun vc vo => #[.int .i64 y, .int .i64 m, .int .i64 d, .int .i64 wd, .string se, .int .i64 wk, .int .i64 (1 + ki), .string pr, .int .i64 rk, .int .i64 0, .int .i64 0, .int .i64 0, vc, vo]) (fun _ _ => rfl) (fun _ _ => rfl) (fun _ _ _ => rfl) (fun _ _ _ => rfl) C9.out.s C9.out.v C9.out.o1 K16 hs C9.out.t tE (Nat.lt_of_le_of_lt M16 hN) hN2
    obtain ⟨q, ho⟩ : ∃ q, kOth N false [] [] S x16 = q := ⟨_, rfl⟩
    rw [ho] at HO
    obtain ⟨⟨co, om⟩, x18⟩ := q
    simp only at HO
    refine HO.mono ?_
    rintro e v3 ⟨rfl, s3, vc, vo, r3, oc, oo, b3⟩
    have bl3 := Lib.hid (C9.out.bl.trans b3)
    have rR3 := bl3.out.row Rb RE rR.out
    skip
    have hRv : R < v2.heap.size := Nat.lt_of_lt_of_le (row_lt rR.out) C9.out.bl.size
    have hws : w.heap.size ≤ v2.heap.size := Nat.le_trans HZ.out.2.2.1 C9.out.bl.size
    clear HO b3
    obtain ⟨p0, p1, p2, p3, p4, p5, p6, p7, p8, p9, p10, p11, p12, p13⟩ := row14 r3
    obtain ⟨n0, n1, n2, n3, n4, n5, n6, n7, n8, n9, n10, n11, n12, n13⟩ := row14 rR3
    obtain ⟨l0, l1, l2, l3, l4, l5, l6, l7, l8, l9, l10, l11, l12, l13⟩ := fro14 rR3
    have r3 := Lib.hid r3
    obtain ⟨ac, nc, kc, rfl⟩ : ∃ a n c, vc = .slice a n c := by obtain ⟨a, c, e⟩ := own_form oc; exact ⟨a, _, c, e⟩
    obtain ⟨ao, no, ko, rfl⟩ : ∃ a n c, vo = .slice a n c := by obtain ⟨a, c, e⟩ := own_form oo; exact ⟨a, _, c, e⟩
    have oc := Lib.hid oc
    have oo := Lib.hid oo
    go_wp2_with fail
    clear p0 n0 l0 p1 n1 l1 p2 n2 l2 p3 n3 l3 p4 n4 l4 p5 n5 l5 p6 n6 l6 p7 n7 l7 p8 n8 l8 p9 n9 l9 p10 n10 l10 p11 n11 l11 p12 n12 l12 p13 n13 l13
    obtain ⟨X, hX⟩ : ∃ X, X = set14 v3 R (.int .i64 y) (.int .i64 m) (.int .i64 d) (.int .i64 wd) (.string se) (.int .i64 wk) (.int .i64 (1 + ki)) (.string pr) (.int .i64 rk) (.int .i64 0) (.int .i64 0) (.int .i64 0) (.slice ac nc kc) (.slice ao no ko) := ⟨_, rfl⟩
    have BR := set14_bt v3 R (.int .i64 y) (.int .i64 m) (.int .i64 d) (.int .i64 wd) (.string se) (.int .i64 wk) (.int .i64 (1 + ki)) (.string pr) (.int .i64 rk) (.int .i64 0) (.int .i64 0) (.int .i64 0) (.slice ac nc kc) (.slice ao no ko)
    have rX := set14_row (.int .i64 y) (.int .i64 m) (.int .i64 d) (.int .i64 wd) (.string se) (.int .i64 wk) (.int .i64 (1 + ki)) (.string pr) (.int .i64 rk) (.int .i64 0) (.int .i64 0) (.int .i64 0) (.slice ac nc kc) (.slice ao no ko) rR3
    rw [← hX] at BR rX
    unfold set14 at hX
    rw [← hX]
    clear hX
    obtain ⟨p0, p1, p2, p3, p4, p5, p6, p7, p8, p9, p10, p11, p12, p13⟩ := row14 rX
    have hkE := kEnt_steps (N := N) (y := y) h1.out h2.out h3.out h4.out h5.out h6.out h7.out h8.out h9.out h10.out h11.out h12.out h13.out h14.out h15.out h16.out
    rw [kRst_eq hf ho] at hkE
    rw [hkE]
    refine bodyPost_ret (v := .agg #[.int .i64 y, .int .i64 m, .int .i64 d, .int .i64 wd, .string se, .int .i64 wk, .int .i64 (1 + ki), .string pr, .int .i64 rk, .int .i64 0, .int .i64 0, .int .i64 0, .slice ac nc kc, .slice ao no ko]) (by simp [results, Tryz.results45, go_sem, p0, p1, p2, p3, p4, p5, p6, p7, p8, p9, p10, p11, p12, p13]) rfl ⟨.slice ac nc kc, .slice ao no ko, rfl, BR.row (Ne.symm Rb) s3, ?_, ?_, ?_⟩
    · exact own_base (own_bt oc.out BR hRv) hws
    · exact own_base (own_bt oo.out BR hRv) hws
    · exact (B2.out hbt.out bl3.out HZ.out.2.1).over BR HZ.out.2.2.2

end Go.Proofs.YtkhicgafhbecfaaGreatDoor
