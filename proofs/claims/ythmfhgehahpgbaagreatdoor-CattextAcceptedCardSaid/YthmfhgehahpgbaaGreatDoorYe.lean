/- Package cattext: the parser's small methods. -/
import Derived.Test.YthmfhgehahpgbaaGreatDoorYd
import Derived.Test.YthmfhgehahpgbaaGreatDoorYs
import Derived.Test.YthmfhgehahpgbaaGreatDoorM5
import Derived.Test.YthmfhgehahpgbaaGreatDoorKv
namespace Go.Proofs.YthmfhgehahpgbaaGreatDoor
open Go.RowKit

theorem al3 (w : World) (o o' o'' : Obj) : Below w.heap.size w (((w.alloc o).alloc o').alloc o'') := (al2 w o o').alloc (by simp; omega) o''
def putA : Array Value → Nat → List Value → Array Value
  | cs, _, [] => cs
  | cs, o, v :: vs => putA (cs.setIfInBounds o v) (o + 1) vs
theorem rows_put {q : Nat} {T : TypeId} : ∀ (vs : List Value) (o : Nat) (cs : Array Value) {w : World}, w.heap[q]? = some (.cells cs T (0, 0)) → (w.setCells q o vs).heap[q]? = some (.cells (putA cs o vs) T (0, 0))
  | [], _, _, _, h => h
  | v :: vs, o, cs, w, h => rows_put vs (o + 1) (cs.setIfInBounds o v) (heap_setCell_same w q o cs T v h)
abbrev scX (S : ByteArray) (x : Sc) : Obj := scO S x.k x.b
abbrev pv (b : Nat) : Value := .agg #[xp b]
abbrev bxP (b : Nat) : Obj := .cells #[xp b] 47
theorem xw_sc {S : ByteArray} {b g cap : Nat} {x : Sc} {ws : List ByteArray} {w : World} (h : w.heap[b]? = some (scX S x)) (hk : x.k ≤ S.size) (hs : S.size < big) (hW : StrsIn g cap ws w) (hgb : g ≠ b) (hw : Wds ws) :
    Calls Tryz.prog 38 #[xp b, .slice (some ⟨g, 0, none⟩) ws.length cap] w fun e w' => e = .returned (.int .i64 (yW ws S x).1) ∧ w'.heap[b]? = some (scX S (yW ws S x).2) ∧ Bt b w w' := xw_all h hk hs hW hgb hw
theorem xw_one {S : ByteArray} {b : Nat} {x : Sc} {e : ByteArray} {w : World} (h : w.heap[b]? = some (scX S x)) (hk : x.k ≤ S.size) (hs : S.size < big) (hw : Wds [e]) :
    Calls Tryz.prog 38 #[xp b, .slice (some ⟨w.heap.size, 0, none⟩) 1 1] (w.alloc (.cells #[.string e] 9)) fun r w' => r = .returned (.int .i64 (yW [e] S x).1) ∧ w'.heap[b]? = some (scX S (yW [e] S x).2) ∧ Bt b w w' :=
  (xw_sc (row_kept h (al1 w _)) hk hs (lit1 e _) (by have := row_lt h; omega) hw).mono fun _ _ ⟨h1, h2, h3⟩ => ⟨h1, h2, (Bt.al b w _).trans h3⟩
theorem xn_sc {S : ByteArray} {b : Nat} {x : Sc} {w : World} (h : w.heap[b]? = some (scX S x)) (hk : x.k ≤ S.size) (hs : S.size < big) :
    Calls Tryz.prog 63 #[xp b] w fun e w' => e = .returned (.int .i64 (yNu S x).1) ∧ w'.heap[b]? = some (scX S (yNu S x).2) ∧ Bt b w w' := xn_all h hk hs
theorem xi_sc {S : ByteArray} {b : Nat} {x : Sc} {w : World} (h : w.heap[b]? = some (scX S x)) (hk : x.k ≤ S.size) (hs : S.size < big) :
    Calls Tryz.prog 88 #[xp b] w fun e w' => e = .returned (.string (yI S x).1) ∧ w'.heap[b]? = some (scX S (yI S x).2) ∧ Bt b w w' := xi_all h hk hs
set_option maxRecDepth 100000 in
theorem p26num {S : ByteArray} {b : Nat} {x : Sc} {e : ByteArray} {w : World} (h : w.heap[b]? = some (scX S x)) (hk : x.k ≤ S.size) (hs : S.size < big) (hw : Wds [e]) :
    Calls Tryz.prog 39 #[pv b, .string e] w fun r w' => r = .returned (.int .i64 (zN e S x).1) ∧ w'.heap[b]? = some (scX S (zN e S x).2) ∧ Bt b w w' := by
  have HN := Lib.hid (fun (u : World) (h : u.heap[b]? = some (scX S x)) => xn_sc h hk hs)
  have HW := Lib.hid (fun (u : World) (h : u.heap[b]? = some (scX S (yNu S x).2)) => xw_one h (gd_N.le S x hk).2 hs hw)
  have hl := row_lt h
  have rs := row_kept h (al1 w (bxP b))
  clear hk hs hw h
  go_enter Tryz.func39, Tryz.ntmps39
  go_wp2_with fail
  obtain ⟨u, hu⟩ : ∃ u, u = w.alloc (bxP b) := ⟨_, rfl⟩
  have B0 : Below w.heap.size w u := hu ▸ al1 w _
  have r0 : u.heap[w.heap.size]? = some (bxP b) := hu ▸ heap_alloc_new w _
  rw [← hu] at rs ⊢
  clear hu
  have hb := Bt.of_below (b := b) B0
  refine (HN.out u rs).mono ?_
  rintro e1 w1 ⟨rfl, r1, g1⟩
  have r0 := g1.row (show w.heap.size ≠ b by omega) r0
  have cp : w1.cell? ⟨w.heap.size, 0, none⟩ = some (xp b) := by rw [cell_of_row w1 _ 0 _ _ _ r0]; rfl
  go_wp2_with fail
  refine (HW.out w1 r1).mono ?_
  rintro e2 w2 ⟨rfl, r2, g2⟩
  go_wp2_with fail
  go_ret
  exact ⟨rfl, r2, (hb.trans g1).trans g2⟩
/-! generated -/
theorem anc_all {w : World} {q : Nat} {T : TypeId} {a0 a1 a2 a3 a4 a5 : Value} (x0 x1 x2 x3 x4 x5 : Value) (h : w.heap[q]? = some (.cells #[a0, a1, a2, a3, a4, a5] T (0, 0))) :
    ((((((w.setCell ⟨q, 0, none⟩ x0).setCell ⟨q, 1, none⟩ x1).setCell ⟨q, 2, none⟩ x2).setCell ⟨q, 3, none⟩ x3).setCell ⟨q, 4, none⟩ x4).setCell ⟨q, 5, none⟩ x5).heap[q]? = some (.cells #[x0, x1, x2, x3, x4, x5] T (0, 0)) := by
  have h1 : (w.setCell ⟨q, 0, none⟩ x0).heap[q]? = some (.cells #[x0, a1, a2, a3, a4, a5] T (0, 0)) := heap_setCell_same _ q 0 _ _ x0 h
  have h2 : ((w.setCell ⟨q, 0, none⟩ x0).setCell ⟨q, 1, none⟩ x1).heap[q]? = some (.cells #[x0, x1, a2, a3, a4, a5] T (0, 0)) := heap_setCell_same _ q 1 _ _ x1 h1
  have h3 : (((w.setCell ⟨q, 0, none⟩ x0).setCell ⟨q, 1, none⟩ x1).setCell ⟨q, 2, none⟩ x2).heap[q]? = some (.cells #[x0, x1, x2, a3, a4, a5] T (0, 0)) := heap_setCell_same _ q 2 _ _ x2 h2
  have h4 : ((((w.setCell ⟨q, 0, none⟩ x0).setCell ⟨q, 1, none⟩ x1).setCell ⟨q, 2, none⟩ x2).setCell ⟨q, 3, none⟩ x3).heap[q]? = some (.cells #[x0, x1, x2, x3, a4, a5] T (0, 0)) := heap_setCell_same _ q 3 _ _ x3 h3
  have h5 : (((((w.setCell ⟨q, 0, none⟩ x0).setCell ⟨q, 1, none⟩ x1).setCell ⟨q, 2, none⟩ x2).setCell ⟨q, 3, none⟩ x3).setCell ⟨q, 4, none⟩ x4).heap[q]? = some (.cells #[x0, x1, x2, x3, x4, a5] T (0, 0)) := heap_setCell_same _ q 4 _ _ x4 h4
  have h6 : ((((((w.setCell ⟨q, 0, none⟩ x0).setCell ⟨q, 1, none⟩ x1).setCell ⟨q, 2, none⟩ x2).setCell ⟨q, 3, none⟩ x3).setCell ⟨q, 4, none⟩ x4).setCell ⟨q, 5, none⟩ x5).heap[q]? = some (.cells #[x0, x1, x2, x3, x4, x5] T (0, 0)) := heap_setCell_same _ q 5 _ _ x5 h5
  exact h6
theorem itm_all {w : World} {q : Nat} {T : TypeId} {a0 a1 a2 a3 a4 a5 a6 a7 a8 : Value} (x0 x1 x2 x3 x4 x5 x6 x7 x8 : Value) (h : w.heap[q]? = some (.cells #[a0, a1, a2, a3, a4, a5, a6, a7, a8] T (0, 0))) :
    (((((((((w.setCell ⟨q, 0, none⟩ x0).setCell ⟨q, 1, none⟩ x1).setCell ⟨q, 2, none⟩ x2).setCell ⟨q, 3, none⟩ x3).setCell ⟨q, 4, none⟩ x4).setCell ⟨q, 5, none⟩ x5).setCell ⟨q, 6, none⟩ x6).setCell ⟨q, 7, none⟩ x7).setCell ⟨q, 8, none⟩ x8).heap[q]? = some (.cells #[x0, x1, x2, x3, x4, x5, x6, x7, x8] T (0, 0)) := by
  have h1 : (w.setCell ⟨q, 0, none⟩ x0).heap[q]? = some (.cells #[x0, a1, a2, a3, a4, a5, a6, a7, a8] T (0, 0)) := heap_setCell_same _ q 0 _ _ x0 h
  have h2 : ((w.setCell ⟨q, 0, none⟩ x0).setCell ⟨q, 1, none⟩ x1).heap[q]? = some (.cells #[x0, x1, a2, a3, a4, a5, a6, a7, a8] T (0, 0)) := heap_setCell_same _ q 1 _ _ x1 h1
  have h3 : (((w.setCell ⟨q, 0, none⟩ x0).setCell ⟨q, 1, none⟩ x1).setCell ⟨q, 2, none⟩ x2).heap[q]? = some (.cells #[x0, x1, x2, a3, a4, a5, a6, a7, a8] T (0, 0)) := heap_setCell_same _ q 2 _ _ x2 h2
  have h4 : ((((w.setCell ⟨q, 0, none⟩ x0).setCell ⟨q, 1, none⟩ x1).setCell ⟨q, 2, none⟩ x2).setCell ⟨q, 3, none⟩ x3).heap[q]? = some (.cells #[x0, x1, x2, x3, a4, a5, a6, a7, a8] T (0, 0)) := heap_setCell_same _ q 3 _ _ x3 h3
  have h5 : (((((w.setCell ⟨q, 0, none⟩ x0).setCell ⟨q, 1, none⟩ x1).setCell ⟨q, 2, none⟩ x2).setCell ⟨q, 3, none⟩ x3).setCell ⟨q, 4, none⟩ x4).heap[q]? = some (.cells #[x0, x1, x2, x3, x4, a5, a6, a7, a8] T (0, 0)) := heap_setCell_same _ q 4 _ _ x4 h4
  have h6 : ((((((w.setCell ⟨q, 0, none⟩ x0).setCell ⟨q, 1, none⟩ x1).setCell ⟨q, 2, none⟩ x2).setCell ⟨q, 3, none⟩ x3).setCell ⟨q, 4, none⟩ x4).setCell ⟨q, 5, none⟩ x5).heap[q]? = some (.cells #[x0, x1, x2, x3, x4, x5, a6, a7, a8] T (0, 0)) := heap_setCell_same _ q 5 _ _ x5 h5
  have h7 : (((((((w.setCell ⟨q, 0, none⟩ x0).setCell ⟨q, 1, none⟩ x1).setCell ⟨q, 2, none⟩ x2).setCell ⟨q, 3, none⟩ x3).setCell ⟨q, 4, none⟩ x4).setCell ⟨q, 5, none⟩ x5).setCell ⟨q, 6, none⟩ x6).heap[q]? = some (.cells #[x0, x1, x2, x3, x4, x5, x6, a7, a8] T (0, 0)) := heap_setCell_same _ q 6 _ _ x6 h6
  have h8 : ((((((((w.setCell ⟨q, 0, none⟩ x0).setCell ⟨q, 1, none⟩ x1).setCell ⟨q, 2, none⟩ x2).setCell ⟨q, 3, none⟩ x3).setCell ⟨q, 4, none⟩ x4).setCell ⟨q, 5, none⟩ x5).setCell ⟨q, 6, none⟩ x6).setCell ⟨q, 7, none⟩ x7).heap[q]? = some (.cells #[x0, x1, x2, x3, x4, x5, x6, x7, a8] T (0, 0)) := heap_setCell_same _ q 7 _ _ x7 h7
  have h9 : (((((((((w.setCell ⟨q, 0, none⟩ x0).setCell ⟨q, 1, none⟩ x1).setCell ⟨q, 2, none⟩ x2).setCell ⟨q, 3, none⟩ x3).setCell ⟨q, 4, none⟩ x4).setCell ⟨q, 5, none⟩ x5).setCell ⟨q, 6, none⟩ x6).setCell ⟨q, 7, none⟩ x7).setCell ⟨q, 8, none⟩ x8).heap[q]? = some (.cells #[x0, x1, x2, x3, x4, x5, x6, x7, x8] T (0, 0)) := heap_setCell_same _ q 8 _ _ x8 h8
  exact h9
theorem itm_anc {w : World} {q : Nat} {T : TypeId} {a0 a1 a2 a3 a4 a5 a6 a7 a8 : Value} (x0 x1 x2 x3 x4 x5 : Value) (h : w.heap[q]? = some (.cells #[a0, a1, a2, a3, a4, a5, a6, a7, a8] T (0, 0))) :
    ((((((w.setCell ⟨q, 3, none⟩ x0).setCell ⟨q, 4, none⟩ x1).setCell ⟨q, 5, none⟩ x2).setCell ⟨q, 6, none⟩ x3).setCell ⟨q, 7, none⟩ x4).setCell ⟨q, 8, none⟩ x5).heap[q]? = some (.cells #[a0, a1, a2, x0, x1, x2, x3, x4, x5] T (0, 0)) := by
  have h1 : (w.setCell ⟨q, 3, none⟩ x0).heap[q]? = some (.cells #[a0, a1, a2, x0, a4, a5, a6, a7, a8] T (0, 0)) := heap_setCell_same _ q 3 _ _ x0 h
  have h2 : ((w.setCell ⟨q, 3, none⟩ x0).setCell ⟨q, 4, none⟩ x1).heap[q]? = some (.cells #[a0, a1, a2, x0, x1, a5, a6, a7, a8] T (0, 0)) := heap_setCell_same _ q 4 _ _ x1 h1
  have h3 : (((w.setCell ⟨q, 3, none⟩ x0).setCell ⟨q, 4, none⟩ x1).setCell ⟨q, 5, none⟩ x2).heap[q]? = some (.cells #[a0, a1, a2, x0, x1, x2, a6, a7, a8] T (0, 0)) := heap_setCell_same _ q 5 _ _ x2 h2
  have h4 : ((((w.setCell ⟨q, 3, none⟩ x0).setCell ⟨q, 4, none⟩ x1).setCell ⟨q, 5, none⟩ x2).setCell ⟨q, 6, none⟩ x3).heap[q]? = some (.cells #[a0, a1, a2, x0, x1, x2, x3, a7, a8] T (0, 0)) := heap_setCell_same _ q 6 _ _ x3 h3
  have h5 : (((((w.setCell ⟨q, 3, none⟩ x0).setCell ⟨q, 4, none⟩ x1).setCell ⟨q, 5, none⟩ x2).setCell ⟨q, 6, none⟩ x3).setCell ⟨q, 7, none⟩ x4).heap[q]? = some (.cells #[a0, a1, a2, x0, x1, x2, x3, x4, a8] T (0, 0)) := heap_setCell_same _ q 7 _ _ x4 h4
  have h6 : ((((((w.setCell ⟨q, 3, none⟩ x0).setCell ⟨q, 4, none⟩ x1).setCell ⟨q, 5, none⟩ x2).setCell ⟨q, 6, none⟩ x3).setCell ⟨q, 7, none⟩ x4).setCell ⟨q, 8, none⟩ x5).heap[q]? = some (.cells #[a0, a1, a2, x0, x1, x2, x3, x4, x5] T (0, 0)) := heap_setCell_same _ q 8 _ _ x5 h5
  exact h6
theorem cat_all {w : World} {q : Nat} {T : TypeId} {a0 a1 a2 : Value} (x0 x1 x2 : Value) (h : w.heap[q]? = some (.cells #[a0, a1, a2] T (0, 0))) :
    (((w.setCell ⟨q, 0, none⟩ x0).setCell ⟨q, 1, none⟩ x1).setCell ⟨q, 2, none⟩ x2).heap[q]? = some (.cells #[x0, x1, x2] T (0, 0)) := by
  have h1 : (w.setCell ⟨q, 0, none⟩ x0).heap[q]? = some (.cells #[x0, a1, a2] T (0, 0)) := heap_setCell_same _ q 0 _ _ x0 h
  have h2 : ((w.setCell ⟨q, 0, none⟩ x0).setCell ⟨q, 1, none⟩ x1).heap[q]? = some (.cells #[x0, x1, a2] T (0, 0)) := heap_setCell_same _ q 1 _ _ x1 h1
  have h3 : (((w.setCell ⟨q, 0, none⟩ x0).setCell ⟨q, 1, none⟩ x1).setCell ⟨q, 2, none⟩ x2).heap[q]? = some (.cells #[x0, x1, x2] T (0, 0)) := heap_setCell_same _ q 2 _ _ x2 h2
  exact h3
theorem sc_all {w : World} {q : Nat} {T : TypeId} {a0 a1 a2 : Value} (x0 x1 x2 : Value) (h : w.heap[q]? = some (.cells #[a0, a1, a2] T (0, 0))) :
    (((w.setCell ⟨q, 0, none⟩ x0).setCell ⟨q, 1, none⟩ x1).setCell ⟨q, 2, none⟩ x2).heap[q]? = some (.cells #[x0, x1, x2] T (0, 0)) := by
  have h1 : (w.setCell ⟨q, 0, none⟩ x0).heap[q]? = some (.cells #[x0, a1, a2] T (0, 0)) := heap_setCell_same _ q 0 _ _ x0 h
  have h2 : ((w.setCell ⟨q, 0, none⟩ x0).setCell ⟨q, 1, none⟩ x1).heap[q]? = some (.cells #[x0, x1, a2] T (0, 0)) := heap_setCell_same _ q 1 _ _ x1 h1
  have h3 : (((w.setCell ⟨q, 0, none⟩ x0).setCell ⟨q, 1, none⟩ x1).setCell ⟨q, 2, none⟩ x2).heap[q]? = some (.cells #[x0, x1, x2] T (0, 0)) := heap_setCell_same _ q 2 _ _ x2 h2
  exact h3
abbrev anc26 (a : Anc) : Value := .agg #[.int .i64 a.k, .int .i64 a.m, .int .i64 a.d, .int .i64 a.o, .int .i64 a.w, .int .i64 a.c]
set_option maxRecDepth 100000 in
set_option maxHeartbeats 1000000 in
theorem p26fix_go {S : ByteArray} {b : Nat} {x : Sc} {w : World} {m d : Int} {y1 y2 : Sc} (h : w.heap[b]? = some (scX S x)) (H1 : ∀ u : World, u.heap[b]? = some (scX S x) → Calls Tryz.prog 39 #[pv b, .string wSp] u fun r w' => r = .returned (.int .i64 m) ∧ w'.heap[b]? = some (scX S y1) ∧ Bt b u w') (H2 : ∀ u : World, u.heap[b]? = some (scX S y1) → Calls Tryz.prog 39 #[pv b, .string wLf] u fun r w' => r = .returned (.int .i64 d) ∧ w'.heap[b]? = some (scX S y2) ∧ Bt b u w') :
    Calls Tryz.prog 89 #[pv b] w fun r w' => r = .returned (.agg #[.int .i64 1, .int .i64 m, .int .i64 d, .int .i64 0, .int .i64 0, .int .i64 0]) ∧ w'.heap[b]? = some (scX S y2) ∧ Bt b w w' := by
  have H1 := Lib.hid H1
  have H2 := Lib.hid H2
  go_enter Tryz.func89, Tryz.ntmps89
  go_wp2_with fail
  obtain ⟨u, hu⟩ : ∃ u, u = (((w.alloc (.cells #[xp b] 47)).alloc (.cells #[.int .i64 0, .int .i64 0, .int .i64 0, .int .i64 0, .int .i64 0, .int .i64 0] 39)).alloc (.cells #[.int .i64 1, .int .i64 0, .int .i64 0, .int .i64 0, .int .i64 0, .int .i64 0] 39)) := ⟨_, rfl⟩
  have B0 : Below w.heap.size w u := hu ▸ al3 w _ _ _
  have rs := row_kept h B0
  have rP : u.heap[w.heap.size]? = some (.cells #[xp b] 47 (0, 0)) := hu ▸ row_on (heap_alloc_new _ _) (al2 _ _ _)
  have rR : u.heap[w.heap.size + 1]? = some (.cells #[.int .i64 0, .int .i64 0, .int .i64 0, .int .i64 0, .int .i64 0, .int .i64 0] 39 (0, 0)) := hu ▸ row_on (row_new1 _ _ _) (al1 _ _)
  have rQ : u.heap[w.heap.size + 1 + 1]? = some (.cells #[.int .i64 1, .int .i64 0, .int .i64 0, .int .i64 0, .int .i64 0, .int .i64 0] 39 (0, 0)) := hu ▸ row_new2 _ _ _ _
  rw [← hu]
  clear hu
  have hb := Bt.of_below (b := b) B0
  generalize hP : w.heap.size = P at *
  generalize hR : P + 1 = R at *
  generalize hQ : R + 1 = Q at *
  have lb : b < P := by have := row_lt h; omega
  refine (H1.out u rs).mono ?_
  rintro e1 w1 ⟨rfl, rs1, g1⟩
  have rP_1 := g1.row (show P ≠ b by omega) rP
  have rR_1 := g1.row (show R ≠ b by omega) rR
  have rQ_1 := g1.row (show Q ≠ b by omega) rQ
  have hb1 := hb.trans g1
  have cP0_1 : w1.cell? ⟨P, 0, none⟩ = some (xp b) := by rw [cell_of_row _ P 0 _ _ _ rP_1]; rfl
  have cQ1_1 : w1.cell? ⟨Q, 1, none⟩ = some (.int .i64 0) := by rw [cell_of_row _ Q 1 _ _ _ rQ_1]; rfl
  have fQ1_1 : w1.frozen? ⟨Q, 1, none⟩ = false := frozen_of_row _ Q 1 _ _ rQ_1
  have t1 : Bt Q w1 (w1.setCell ⟨Q, 1, none⟩ (.int .i64 m)) := Bt.sets Q [(.int .i64 m)] 1 w1
  have pQ1 : (w1.setCell ⟨Q, 1, none⟩ (.int .i64 m)).heap[Q]? = some (.cells #[.int .i64 1, .int .i64 m, .int .i64 0, .int .i64 0, .int .i64 0, .int .i64 0] 39 (0, 0)) := heap_setCell_same _ Q 1 _ _ _ rQ_1
  have pP1 := t1.row (show P ≠ Q by omega) rP_1
  have pR1 := t1.row (show R ≠ Q by omega) rR_1
  have ps1 := t1.row (show b ≠ Q by omega) rs1
  have hbp1 := hb1.over t1 (show w.heap.size ≤ Q by omega)
  have cP0_2 : (w1.setCell ⟨Q, 1, none⟩ (.int .i64 m)).cell? ⟨P, 0, none⟩ = some (xp b) := by rw [cell_of_row _ P 0 _ _ _ pP1]; rfl
  go_wp2_with fail
  refine (H2.out (w1.setCell ⟨Q, 1, none⟩ (.int .i64 m)) ps1).mono ?_
  clear cP0_1 cQ1_1 fQ1_1 cP0_2
  rintro e3 w3 ⟨rfl, rs3, g3⟩
  have rP_3 := g3.row (show P ≠ b by omega) pP1
  have rR_3 := g3.row (show R ≠ b by omega) pR1
  have rQ_3 := g3.row (show Q ≠ b by omega) pQ1
  have hb3 := hbp1.trans g3
  have cQ2_3 : w3.cell? ⟨Q, 2, none⟩ = some (.int .i64 0) := by rw [cell_of_row _ Q 2 _ _ _ rQ_3]; rfl
  have fQ2_3 : w3.frozen? ⟨Q, 2, none⟩ = false := frozen_of_row _ Q 2 _ _ rQ_3
  have t2 : Bt Q w3 (w3.setCell ⟨Q, 2, none⟩ (.int .i64 d)) := Bt.sets Q [(.int .i64 d)] 2 w3
  have pQ2 : (w3.setCell ⟨Q, 2, none⟩ (.int .i64 d)).heap[Q]? = some (.cells #[.int .i64 1, .int .i64 m, .int .i64 d, .int .i64 0, .int .i64 0, .int .i64 0] 39 (0, 0)) := heap_setCell_same _ Q 2 _ _ _ rQ_3
  have pP2 := t2.row (show P ≠ Q by omega) rP_3
  have pR2 := t2.row (show R ≠ Q by omega) rR_3
  have ps2 := t2.row (show b ≠ Q by omega) rs3
  have hbp2 := hb3.over t2 (show w.heap.size ≤ Q by omega)
  have cQ0_4 : (w3.setCell ⟨Q, 2, none⟩ (.int .i64 d)).cell? ⟨Q, 0, none⟩ = some (.int .i64 1) := by rw [cell_of_row _ Q 0 _ _ _ pQ2]; rfl
  have cQ1_4 : (w3.setCell ⟨Q, 2, none⟩ (.int .i64 d)).cell? ⟨Q, 1, none⟩ = some (.int .i64 m) := by rw [cell_of_row _ Q 1 _ _ _ pQ2]; rfl
  have cQ2_4 : (w3.setCell ⟨Q, 2, none⟩ (.int .i64 d)).cell? ⟨Q, 2, none⟩ = some (.int .i64 d) := by rw [cell_of_row _ Q 2 _ _ _ pQ2]; rfl
  have cQ3_4 : (w3.setCell ⟨Q, 2, none⟩ (.int .i64 d)).cell? ⟨Q, 3, none⟩ = some (.int .i64 0) := by rw [cell_of_row _ Q 3 _ _ _ pQ2]; rfl
  have cQ4_4 : (w3.setCell ⟨Q, 2, none⟩ (.int .i64 d)).cell? ⟨Q, 4, none⟩ = some (.int .i64 0) := by rw [cell_of_row _ Q 4 _ _ _ pQ2]; rfl
  have cQ5_4 : (w3.setCell ⟨Q, 2, none⟩ (.int .i64 d)).cell? ⟨Q, 5, none⟩ = some (.int .i64 0) := by rw [cell_of_row _ Q 5 _ _ _ pQ2]; rfl
  have cR0_4 : (w3.setCell ⟨Q, 2, none⟩ (.int .i64 d)).cell? ⟨R, 0, none⟩ = some (.int .i64 0) := by rw [cell_of_row _ R 0 _ _ _ pR2]; rfl
  have fR0_4 : (w3.setCell ⟨Q, 2, none⟩ (.int .i64 d)).frozen? ⟨R, 0, none⟩ = false := frozen_of_row _ R 0 _ _ pR2
  have cR1_4 : (w3.setCell ⟨Q, 2, none⟩ (.int .i64 d)).cell? ⟨R, 1, none⟩ = some (.int .i64 0) := by rw [cell_of_row _ R 1 _ _ _ pR2]; rfl
  have fR1_4 : (w3.setCell ⟨Q, 2, none⟩ (.int .i64 d)).frozen? ⟨R, 1, none⟩ = false := frozen_of_row _ R 1 _ _ pR2
  have cR2_4 : (w3.setCell ⟨Q, 2, none⟩ (.int .i64 d)).cell? ⟨R, 2, none⟩ = some (.int .i64 0) := by rw [cell_of_row _ R 2 _ _ _ pR2]; rfl
  have fR2_4 : (w3.setCell ⟨Q, 2, none⟩ (.int .i64 d)).frozen? ⟨R, 2, none⟩ = false := frozen_of_row _ R 2 _ _ pR2
  have cR3_4 : (w3.setCell ⟨Q, 2, none⟩ (.int .i64 d)).cell? ⟨R, 3, none⟩ = some (.int .i64 0) := by rw [cell_of_row _ R 3 _ _ _ pR2]; rfl
  have fR3_4 : (w3.setCell ⟨Q, 2, none⟩ (.int .i64 d)).frozen? ⟨R, 3, none⟩ = false := frozen_of_row _ R 3 _ _ pR2
  have cR4_4 : (w3.setCell ⟨Q, 2, none⟩ (.int .i64 d)).cell? ⟨R, 4, none⟩ = some (.int .i64 0) := by rw [cell_of_row _ R 4 _ _ _ pR2]; rfl
  have fR4_4 : (w3.setCell ⟨Q, 2, none⟩ (.int .i64 d)).frozen? ⟨R, 4, none⟩ = false := frozen_of_row _ R 4 _ _ pR2
  have cR5_4 : (w3.setCell ⟨Q, 2, none⟩ (.int .i64 d)).cell? ⟨R, 5, none⟩ = some (.int .i64 0) := by rw [cell_of_row _ R 5 _ _ _ pR2]; rfl
  have fR5_4 : (w3.setCell ⟨Q, 2, none⟩ (.int .i64 d)).frozen? ⟨R, 5, none⟩ = false := frozen_of_row _ R 5 _ _ pR2
  have t3 : Bt R (w3.setCell ⟨Q, 2, none⟩ (.int .i64 d)) (((((((w3.setCell ⟨Q, 2, none⟩ (.int .i64 d)).setCell ⟨R, 0, none⟩ (.int .i64 1)).setCell ⟨R, 1, none⟩ (.int .i64 m)).setCell ⟨R, 2, none⟩ (.int .i64 d)).setCell ⟨R, 3, none⟩ (.int .i64 0)).setCell ⟨R, 4, none⟩ (.int .i64 0)).setCell ⟨R, 5, none⟩ (.int .i64 0)) := Bt.sets R [(.int .i64 1), (.int .i64 m), (.int .i64 d), (.int .i64 0), (.int .i64 0), (.int .i64 0)] 0 (w3.setCell ⟨Q, 2, none⟩ (.int .i64 d))
  have pR3 : (((((((w3.setCell ⟨Q, 2, none⟩ (.int .i64 d)).setCell ⟨R, 0, none⟩ (.int .i64 1)).setCell ⟨R, 1, none⟩ (.int .i64 m)).setCell ⟨R, 2, none⟩ (.int .i64 d)).setCell ⟨R, 3, none⟩ (.int .i64 0)).setCell ⟨R, 4, none⟩ (.int .i64 0)).setCell ⟨R, 5, none⟩ (.int .i64 0)).heap[R]? = some (.cells #[.int .i64 1, .int .i64 m, .int .i64 d, .int .i64 0, .int .i64 0, .int .i64 0] 39 (0, 0)) := anc_all (.int .i64 1) (.int .i64 m) (.int .i64 d) (.int .i64 0) (.int .i64 0) (.int .i64 0) pR2
  have pP3 := t3.row (show P ≠ R by omega) pP2
  have pQ3 := t3.row (show Q ≠ R by omega) pQ2
  have ps3 := t3.row (show b ≠ R by omega) ps2
  have hbp3 := hbp2.over t3 (show w.heap.size ≤ R by omega)
  go_wp2_with fail
  obtain ⟨u9, hu9⟩ : ∃ u9, u9 = (((((((w3.setCell ⟨Q, 2, none⟩ (.int .i64 d)).setCell ⟨R, 0, none⟩ (.int .i64 1)).setCell ⟨R, 1, none⟩ (.int .i64 m)).setCell ⟨R, 2, none⟩ (.int .i64 d)).setCell ⟨R, 3, none⟩ (.int .i64 0)).setCell ⟨R, 4, none⟩ (.int .i64 0)).setCell ⟨R, 5, none⟩ (.int .i64 0)) := ⟨_, rfl⟩
  rw [← hu9] at pR3 ps3 hbp3 ⊢
  have k0 : u9.cell? ⟨R, 0, none⟩ = some (.int .i64 1) := by rw [cell_of_row _ R 0 _ _ _ pR3]; rfl
  have k1 : u9.cell? ⟨R, 1, none⟩ = some (.int .i64 m) := by rw [cell_of_row _ R 1 _ _ _ pR3]; rfl
  have k2 : u9.cell? ⟨R, 2, none⟩ = some (.int .i64 d) := by rw [cell_of_row _ R 2 _ _ _ pR3]; rfl
  have k3 : u9.cell? ⟨R, 3, none⟩ = some (.int .i64 0) := by rw [cell_of_row _ R 3 _ _ _ pR3]; rfl
  have k4 : u9.cell? ⟨R, 4, none⟩ = some (.int .i64 0) := by rw [cell_of_row _ R 4 _ _ _ pR3]; rfl
  have k5 : u9.cell? ⟨R, 5, none⟩ = some (.int .i64 0) := by rw [cell_of_row _ R 5 _ _ _ pR3]; rfl
  exact bodyPost_ret (v := .agg #[.int .i64 1, .int .i64 m, .int .i64 d, .int .i64 0, .int .i64 0, .int .i64 0]) (by simp [results, Tryz.results89, go_sem, k0, k1, k2, k3, k4, k5]) rfl ⟨rfl, ps3, hbp3⟩
set_option maxRecDepth 100000 in
set_option maxHeartbeats 1000000 in
theorem p26eas_go {S : ByteArray} {b : Nat} {x : Sc} {w : World} {m : Int} {y1 : Sc} (h : w.heap[b]? = some (scX S x)) (H1 : ∀ u : World, u.heap[b]? = some (scX S x) → Calls Tryz.prog 39 #[pv b, .string wLf] u fun r w' => r = .returned (.int .i64 m) ∧ w'.heap[b]? = some (scX S y1) ∧ Bt b u w') :
    Calls Tryz.prog 90 #[pv b] w fun r w' => r = .returned (.agg #[.int .i64 2, .int .i64 0, .int .i64 0, .int .i64 m, .int .i64 0, .int .i64 0]) ∧ w'.heap[b]? = some (scX S y1) ∧ Bt b w w' := by
  have H1 := Lib.hid H1
  go_enter Tryz.func90, Tryz.ntmps90
  go_wp2_with fail
  obtain ⟨u, hu⟩ : ∃ u, u = ((w.alloc (.cells #[xp b] 47)).alloc (.cells #[.int .i64 0, .int .i64 0, .int .i64 0, .int .i64 0, .int .i64 0, .int .i64 0] 39)) := ⟨_, rfl⟩
  have B0 : Below w.heap.size w u := hu ▸ al2 w _ _
  have rs := row_kept h B0
  have rP : u.heap[w.heap.size]? = some (.cells #[xp b] 47 (0, 0)) := hu ▸ row_on (heap_alloc_new _ _) (al1 _ _)
  have rR : u.heap[w.heap.size + 1]? = some (.cells #[.int .i64 0, .int .i64 0, .int .i64 0, .int .i64 0, .int .i64 0, .int .i64 0] 39 (0, 0)) := hu ▸ row_new1 _ _ _
  rw [← hu]
  clear hu
  have hb := Bt.of_below (b := b) B0
  generalize hP : w.heap.size = P at *
  generalize hR : P + 1 = R at *
  have lb : b < P := by have := row_lt h; omega
  refine (H1.out u rs).mono ?_
  rintro e1 w1 ⟨rfl, rs1, g1⟩
  have rP_1 := g1.row (show P ≠ b by omega) rP
  have rR_1 := g1.row (show R ≠ b by omega) rR
  have hb1 := hb.trans g1
  have cR0_1 : w1.cell? ⟨R, 0, none⟩ = some (.int .i64 0) := by rw [cell_of_row _ R 0 _ _ _ rR_1]; rfl
  have fR0_1 : w1.frozen? ⟨R, 0, none⟩ = false := frozen_of_row _ R 0 _ _ rR_1
  have cR1_1 : w1.cell? ⟨R, 1, none⟩ = some (.int .i64 0) := by rw [cell_of_row _ R 1 _ _ _ rR_1]; rfl
  have fR1_1 : w1.frozen? ⟨R, 1, none⟩ = false := frozen_of_row _ R 1 _ _ rR_1
  have cR2_1 : w1.cell? ⟨R, 2, none⟩ = some (.int .i64 0) := by rw [cell_of_row _ R 2 _ _ _ rR_1]; rfl
  have fR2_1 : w1.frozen? ⟨R, 2, none⟩ = false := frozen_of_row _ R 2 _ _ rR_1
  have cR3_1 : w1.cell? ⟨R, 3, none⟩ = some (.int .i64 0) := by rw [cell_of_row _ R 3 _ _ _ rR_1]; rfl
  have fR3_1 : w1.frozen? ⟨R, 3, none⟩ = false := frozen_of_row _ R 3 _ _ rR_1
  have cR4_1 : w1.cell? ⟨R, 4, none⟩ = some (.int .i64 0) := by rw [cell_of_row _ R 4 _ _ _ rR_1]; rfl
  have fR4_1 : w1.frozen? ⟨R, 4, none⟩ = false := frozen_of_row _ R 4 _ _ rR_1
  have cR5_1 : w1.cell? ⟨R, 5, none⟩ = some (.int .i64 0) := by rw [cell_of_row _ R 5 _ _ _ rR_1]; rfl
  have fR5_1 : w1.frozen? ⟨R, 5, none⟩ = false := frozen_of_row _ R 5 _ _ rR_1
  have t1 : Bt R w1 ((((((w1.setCell ⟨R, 0, none⟩ (.int .i64 2)).setCell ⟨R, 1, none⟩ (.int .i64 0)).setCell ⟨R, 2, none⟩ (.int .i64 0)).setCell ⟨R, 3, none⟩ (.int .i64 m)).setCell ⟨R, 4, none⟩ (.int .i64 0)).setCell ⟨R, 5, none⟩ (.int .i64 0)) := Bt.sets R [(.int .i64 2), (.int .i64 0), (.int .i64 0), (.int .i64 m), (.int .i64 0), (.int .i64 0)] 0 w1
  have pR1 : ((((((w1.setCell ⟨R, 0, none⟩ (.int .i64 2)).setCell ⟨R, 1, none⟩ (.int .i64 0)).setCell ⟨R, 2, none⟩ (.int .i64 0)).setCell ⟨R, 3, none⟩ (.int .i64 m)).setCell ⟨R, 4, none⟩ (.int .i64 0)).setCell ⟨R, 5, none⟩ (.int .i64 0)).heap[R]? = some (.cells #[.int .i64 2, .int .i64 0, .int .i64 0, .int .i64 m, .int .i64 0, .int .i64 0] 39 (0, 0)) := anc_all (.int .i64 2) (.int .i64 0) (.int .i64 0) (.int .i64 m) (.int .i64 0) (.int .i64 0) rR_1
  have pP1 := t1.row (show P ≠ R by omega) rP_1
  have ps1 := t1.row (show b ≠ R by omega) rs1
  have hbp1 := hb1.over t1 (show w.heap.size ≤ R by omega)
  go_wp2_with fail
  obtain ⟨u9, hu9⟩ : ∃ u9, u9 = ((((((w1.setCell ⟨R, 0, none⟩ (.int .i64 2)).setCell ⟨R, 1, none⟩ (.int .i64 0)).setCell ⟨R, 2, none⟩ (.int .i64 0)).setCell ⟨R, 3, none⟩ (.int .i64 m)).setCell ⟨R, 4, none⟩ (.int .i64 0)).setCell ⟨R, 5, none⟩ (.int .i64 0)) := ⟨_, rfl⟩
  rw [← hu9] at pR1 ps1 hbp1 ⊢
  have k0 : u9.cell? ⟨R, 0, none⟩ = some (.int .i64 2) := by rw [cell_of_row _ R 0 _ _ _ pR1]; rfl
  have k1 : u9.cell? ⟨R, 1, none⟩ = some (.int .i64 0) := by rw [cell_of_row _ R 1 _ _ _ pR1]; rfl
  have k2 : u9.cell? ⟨R, 2, none⟩ = some (.int .i64 0) := by rw [cell_of_row _ R 2 _ _ _ pR1]; rfl
  have k3 : u9.cell? ⟨R, 3, none⟩ = some (.int .i64 m) := by rw [cell_of_row _ R 3 _ _ _ pR1]; rfl
  have k4 : u9.cell? ⟨R, 4, none⟩ = some (.int .i64 0) := by rw [cell_of_row _ R 4 _ _ _ pR1]; rfl
  have k5 : u9.cell? ⟨R, 5, none⟩ = some (.int .i64 0) := by rw [cell_of_row _ R 5 _ _ _ pR1]; rfl
  exact bodyPost_ret (v := .agg #[.int .i64 2, .int .i64 0, .int .i64 0, .int .i64 m, .int .i64 0, .int .i64 0]) (by simp [results, Tryz.results90, go_sem, k0, k1, k2, k3, k4, k5]) rfl ⟨rfl, ps1, hbp1⟩
set_option maxHeartbeats 1000000 in
set_option maxRecDepth 100000 in
theorem p26wwd (W : World) (hT : WTab W) : Calls Tryz.prog 106 #[] W fun e w' => ∃ g cap, e = .returned (.slice (some ⟨g, 0, none⟩) 7 cap) ∧ StrsIn g cap lWd w' ∧ W.heap.size ≤ g ∧ Below W.heap.size W w' := by
  obtain ⟨i0, hi, hz0, hz1, hz2⟩ := info_parts infoStr
  have HN := Lib.hid (fun (i : Nat) (u : World) (h : WTab u) => name_any (i : Int) u h)
  have hW0 : ∀ i : Nat, i < 7 → nm (i : Int) = lWd.getD i ByteArray.empty := by decide +kernel
  have HW := Lib.hid hW0
  clear hW0
  have HT := Lib.hid hT
  go_enter Tryz.func106, Tryz.ntmps106
  go_wp2_with fail
  go_loopw [1, 2] (fun v vi wr => ∃ i : Nat, i ≤ 7 ∧ vi = .int .i64 i ∧ Below W.heap.size W wr ∧ StrsAt W.heap.size v (lWd.take i) wr) (fun _ vi _ => 7 - (intOf vi).toNat)
  case atStart => exact ⟨0, by omega, rfl, Below.refl _ _, StrsAt.emp _ _⟩
  case round =>
    obtain ⟨k, hk, rfl, hb, hv⟩ := hrel
    have HB := Lib.hid hb
    have HV := Lib.hid hv
    clear hb hv
    by_cases hlt : k < 7
    · have d0 : decide ((k : Int) < 7) = true := dtrue (by omega)
      have d1 : decide ((k : Int) ≤ 6) = true := dtrue (by omega)
      have d2 : (k : Int) < 7 := by omega
      have d3 : (k : Int) ≤ 6 := by omega
      have hmap := Lib.hid (show lWd.take (k + 1) = lWd.take k ++ [nm (k : Int)] by
        rw [HW.out k hlt, List.take_succ_eq_append_getElem (show k < lWd.length from hlt), List.getD_eq_getElem?_getD, List.getElem?_eq_getElem (show k < lWd.length from hlt)]; rfl)
      have hle : (lWd.take k).length = k := by rw [List.length_take]; show min k 7 = k; omega
      obtain ⟨nw, hnw⟩ : ∃ nw, nw = nm (k : Int) := ⟨_, rfl⟩
      have HN1 := Lib.hid (fun (u : World) (h : WTab u) => HN.out k u h)
      rw [← hnw] at HN1 hmap
      clear hnw
      have hz := Lib.hid (show W.heap.size ≤ wr.heap.size from HB.out.size)
      have HTr := Lib.hid (HT.out.on HB.out)
      go_wp2_with fail
      refine (HN1.out _ HTr.out).mono ?_
      rintro e w1 ⟨rfl, rfl⟩
      go_wp2_with (at_builtin; refine wpList_append_own _ rfl _ _ 55 rfl W.heap.size 9 i0 (.string ⟨#[]⟩) 1 16 Tryz.underlying55 hi hz0 hz1 hz2 rfl (by decide) _ _ _ rfl (HV.out.al _) ⟨wr.heap.size, 0, none⟩ 1 1 [.string nw] rfl rfl (cell_one_new _ _ _) (by simp [Value.oneCell']) (by unfold maxLen; omega) (by omega) (by have := hz.out; simp; omega) ?_; intro v' w2 hown' hgrow _; obtain ⟨hv2, hb2⟩ := HV.out.app HB.out hz.out hown' hgrow; have HV2 := Lib.hid hv2; have HB2 := Lib.hid hb2; clear hown' hgrow hv2 hb2)
      go_roundw
      case rel => exact ⟨k + 1, by omega, by go_num, HB2.out, by rw [hmap.out]; exact HV2.out⟩
      case measure => simp [intOf]; omega
    · obtain rfl : k = 7 := by omega
      have d0 : decide (((7 : Nat) : Int) < 7) = false := by decide
      have d1 : decide (((7 : Nat) : Int) ≤ 6) = false := by decide
      have HV7 := Lib.hid (show StrsAt W.heap.size _ lWd wr from HV.out)
      go_wp2_with fail
      go_ret
      rcases HV7.out.get with ⟨_, e⟩ | ⟨g, cap, rfl, hI⟩
      · cases e
      · exact ⟨g, cap, rfl, hI, (World.ownsRow.lt HV7.out g rfl).1, HB.out⟩
set_option maxHeartbeats 1000000 in
set_option maxRecDepth 100000 in
theorem r26wwd (W : World) : Calls Tryz.prog 53 #[] W fun e w' => ∃ g cap, e = .returned (.slice (some ⟨g, 0, none⟩) 7 cap) ∧ StrsIn g cap lWd w' ∧ W.heap.size ≤ g ∧ Below W.heap.size W w' := by
  obtain ⟨i0, hi, hz0, hz1, hz2⟩ := info_parts infoStr
  have HN := Lib.hid (fun (i : Nat) (u : World) => rname_any (i : Int) u)
  have hW0 : ∀ i : Nat, i < 7 → nm (i : Int) = lWd.getD i ByteArray.empty := by decide +kernel
  have HW := Lib.hid hW0
  clear hW0
  skip
  go_enter Tryz.func53, Tryz.ntmps53
  go_wp2_with fail
  go_loopw [1, 2] (fun v vi wr => ∃ i : Nat, i ≤ 7 ∧ vi = .int .i64 i ∧ Below W.heap.size W wr ∧ StrsAt W.heap.size v (lWd.take i) wr) (fun _ vi _ => 7 - (intOf vi).toNat)
  case atStart => exact ⟨0, by omega, rfl, Below.refl _ _, StrsAt.emp _ _⟩
  case round =>
    obtain ⟨k, hk, rfl, hb, hv⟩ := hrel
    have HB := Lib.hid hb
    have HV := Lib.hid hv
    clear hb hv
    by_cases hlt : k < 7
    · have d0 : decide ((k : Int) < 7) = true := dtrue (by omega)
      have d1 : decide ((k : Int) ≤ 6) = true := dtrue (by omega)
      have d2 : (k : Int) < 7 := by omega
      have d3 : (k : Int) ≤ 6 := by omega
      have hmap := Lib.hid (show lWd.take (k + 1) = lWd.take k ++ [nm (k : Int)] by
        rw [HW.out k hlt, List.take_succ_eq_append_getElem (show k < lWd.length from hlt), List.getD_eq_getElem?_getD, List.getElem?_eq_getElem (show k < lWd.length from hlt)]; rfl)
      have hle : (lWd.take k).length = k := by rw [List.length_take]; show min k 7 = k; omega
      obtain ⟨nw, hnw⟩ : ∃ nw, nw = nm (k : Int) := ⟨_, rfl⟩
      have HN1 := Lib.hid (fun (u : World) => HN.out k u)
      rw [← hnw] at HN1 hmap
      clear hnw
      have hz := Lib.hid (show W.heap.size ≤ wr.heap.size from HB.out.size)
      skip
      go_wp2_with fail
      refine (HN1.out _).mono ?_
      rintro e w1 ⟨rfl, rfl⟩
      go_wp2_with (at_builtin; refine wpList_append_own _ rfl _ _ 55 rfl W.heap.size 9 i0 (.string ⟨#[]⟩) 1 16 Tryz.underlying55 hi hz0 hz1 hz2 rfl (by decide) _ _ _ rfl (HV.out.al _) ⟨wr.heap.size, 0, none⟩ 1 1 [.string nw] rfl rfl (cell_one_new _ _ _) (by simp [Value.oneCell']) (by unfold maxLen; omega) (by omega) (by have := hz.out; simp; omega) ?_; intro v' w2 hown' hgrow _; obtain ⟨hv2, hb2⟩ := HV.out.app HB.out hz.out hown' hgrow; have HV2 := Lib.hid hv2; have HB2 := Lib.hid hb2; clear hown' hgrow hv2 hb2)
      go_roundw
      case rel => exact ⟨k + 1, by omega, by go_num, HB2.out, by rw [hmap.out]; exact HV2.out⟩
      case measure => simp [intOf]; omega
    · obtain rfl : k = 7 := by omega
      have d0 : decide (((7 : Nat) : Int) < 7) = false := by decide
      have d1 : decide (((7 : Nat) : Int) ≤ 6) = false := by decide
      have HV7 := Lib.hid (show StrsAt W.heap.size _ lWd wr from HV.out)
      go_wp2_with fail
      go_ret
      rcases HV7.out.get with ⟨_, e⟩ | ⟨g, cap, rfl, hI⟩
      · cases e
      · exact ⟨g, cap, rfl, hI, (World.ownsRow.lt HV7.out g rfl).1, HB.out⟩
end Go.Proofs.YthmfhgehahpgbaaGreatDoor
