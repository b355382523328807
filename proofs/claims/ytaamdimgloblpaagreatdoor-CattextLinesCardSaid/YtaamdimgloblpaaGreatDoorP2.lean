/- What earlier stages proved: Ye Yf Yh Yi Yk. -/
import Derived.Test.YtaamdimgloblpaaGreatDoorP1
import Derived.Test.YtaamdimgloblpaaGreatDoorYs
import Derived.Test.YtaamdimgloblpaaGreatDoorM5
import Derived.Test.YtaamdimgloblpaaGreatDoorKv
import Derived.Deep.RegionHeld3
import Derived.Test.YtaamdimgloblpaaGreatDoorL1
import Derived.Test.YtaamdimgloblpaaGreatDoorM6
namespace Go.Proofs.YtaamdimgloblpaaGreatDoor
open Go.RowKit

theorem al3 (w : World) (o o' o'' : Obj) : Below w.heap.size w (((w.alloc o).alloc o').alloc o'') := (al2 w o o').alloc (by simp; omega) o''
def putA : Array Value → Nat → List Value → Array Value
  | cs, _, [] => cs
  | cs, o, v :: vs => putA (cs.setIfInBounds o v) (o + 1) vs
theorem rows_put {q : Nat} {T : TypeId} : ∀ (vs : List Value) (o : Nat) (cs : Array Value) {w : World}, w.heap[q]? = some (.cells cs T (0, 0)) → (w.setCells q o vs).heap[q]? = some (.cells (putA cs o vs) T (0, 0))
  | [], _, _, _, h => h
  | v :: vs, o, cs, w, h => rows_put vs (o + 1) (cs.setIfInBounds o v) (heap_setCell_same w q o cs T v h)
abbrev scX (S : ByteArray) (x : Sc) : Obj := scO S x.k x.b
abbrev pv (b : Nat) : Value := .agg #[xp b]
abbrev bxP (b : Nat) : Obj := .cells #[xp b] 59
theorem xw_sc {S : ByteArray} {b g cap : Nat} {x : Sc} {ws : List ByteArray} {w : World} (h : w.heap[b]? = some (scX S x)) (hk : x.k ≤ S.size) (hs : S.size < big) (hW : StrsIn g cap ws w) (hgb : g ≠ b) (hw : Wds ws) :
    Calls Tryz.prog 34 #[xp b, .slice (some ⟨g, 0, none⟩) ws.length cap] w fun e w' => e = .returned (.int .i64 (yW ws S x).1) ∧ w'.heap[b]? = some (scX S (yW ws S x).2) ∧ Bt b w w' := xw_all h hk hs hW hgb hw
theorem xw_one {S : ByteArray} {b : Nat} {x : Sc} {e : ByteArray} {w : World} (h : w.heap[b]? = some (scX S x)) (hk : x.k ≤ S.size) (hs : S.size < big) (hw : Wds [e]) :
    Calls Tryz.prog 34 #[xp b, .slice (some ⟨w.heap.size, 0, none⟩) 1 1] (w.alloc (.cells #[.string e] 9)) fun r w' => r = .returned (.int .i64 (yW [e] S x).1) ∧ w'.heap[b]? = some (scX S (yW [e] S x).2) ∧ Bt b w w' :=
  (xw_sc (row_kept h (al1 w _)) hk hs (lit1 e _) (by have := row_lt h; omega) hw).mono fun _ _ ⟨h1, h2, h3⟩ => ⟨h1, h2, (Bt.al b w _).trans h3⟩
theorem xn_sc {S : ByteArray} {b : Nat} {x : Sc} {w : World} (h : w.heap[b]? = some (scX S x)) (hk : x.k ≤ S.size) (hs : S.size < big) :
    Calls Tryz.prog 55 #[xp b] w fun e w' => e = .returned (.int .i64 (yNu S x).1) ∧ w'.heap[b]? = some (scX S (yNu S x).2) ∧ Bt b w w' := xn_all h hk hs
theorem xi_sc {S : ByteArray} {b : Nat} {x : Sc} {w : World} (h : w.heap[b]? = some (scX S x)) (hk : x.k ≤ S.size) (hs : S.size < big) :
    Calls Tryz.prog 78 #[xp b] w fun e w' => e = .returned (.string (yI S x).1) ∧ w'.heap[b]? = some (scX S (yI S x).2) ∧ Bt b w w' := xi_all h hk hs
set_option maxRecDepth 100000 in
theorem p26num {S : ByteArray} {b : Nat} {x : Sc} {e : ByteArray} {w : World} (h : w.heap[b]? = some (scX S x)) (hk : x.k ≤ S.size) (hs : S.size < big) (hw : Wds [e]) :
    Calls Tryz.prog 35 #[pv b, .string e] w fun r w' => r = .returned (.int .i64 (zN e S x).1) ∧ w'.heap[b]? = some (scX S (zN e S x).2) ∧ Bt b w w' := by
  have HN := Lib.hid (fun (u : World) (h : u.heap[b]? = some (scX S x)) => xn_sc h hk hs)
  have HW := Lib.hid (fun (u : World) (h : u.heap[b]? = some (scX S (yNu S x).2)) => xw_one h (gd_N.le S x hk).2 hs hw)
  have hl := row_lt h
  have rs := row_kept h (al1 w (bxP b))
  clear hk hs hw h
  go_enter Tryz.func35, Tryz.ntmps35
  go_wp2_with fail
  obtain ⟨u, hu⟩ : ∃ u, u = w.alloc (bxP b) := ⟨_, rfl⟩
  have B0 : Below w.heap.size w u := hu ▸ al1 w _
  have r0 : u.heap[w.heap.size]? = some (bxP b) := hu ▸ heap_alloc_new w _
  rw [← hu] at rs ⊢
  clear hu
  have hb := Bt.of_below (b := b) B0
  refine (HN.out u rs).mono ?_
  rintro e1 w1 ⟨rfl, r1, g1⟩
  have r0 := g1.row (show w.heap.size ≠ b by omega) r0
  have cp : w1.cell? ⟨w.heap.size, 0, none⟩ = some (xp b) := by rw [cell_of_row w1 _ 0 _ _ _ r0]; rfl
  go_wp2_with fail
  refine (HW.out w1 r1).mono ?_
  rintro e2 w2 ⟨rfl, r2, g2⟩
  go_wp2_with fail
  go_ret
  exact ⟨rfl, r2, (hb.trans g1).trans g2⟩
theorem anc_all {w : World} {q : Nat} {T : TypeId} {a0 a1 a2 a3 a4 a5 : Value} (x0 x1 x2 x3 x4 x5 : Value) (h : w.heap[q]? = some (.cells #[a0, a1, a2, a3, a4, a5] T (0, 0))) :
    ((((((w.setCell ⟨q, 0, none⟩ x0).setCell ⟨q, 1, none⟩ x1).setCell ⟨q, 2, none⟩ x2).setCell ⟨q, 3, none⟩ x3).setCell ⟨q, 4, none⟩ x4).setCell ⟨q, 5, none⟩ x5).heap[q]? = some (.cells #[x0, x1, x2, x3, x4, x5] T (0, 0)) := by
  have h1 : (w.setCell ⟨q, 0, none⟩ x0).heap[q]? = some (.cells #[x0, a1, a2, a3, a4, a5] T (0, 0)) := heap_setCell_same _ q 0 _ _ x0 h
  have h2 : ((w.setCell ⟨q, 0, none⟩ x0).setCell ⟨q, 1, none⟩ x1).heap[q]? = some (.cells #[x0, x1, a2, a3, a4, a5] T (0, 0)) := heap_setCell_same _ q 1 _ _ x1 h1
  have h3 : (((w.setCell ⟨q, 0, none⟩ x0).setCell ⟨q, 1, none⟩ x1).setCell ⟨q, 2, none⟩ x2).heap[q]? = some (.cells #[x0, x1, x2, a3, a4, a5] T (0, 0)) := heap_setCell_same _ q 2 _ _ x2 h2
  have h4 : ((((w.setCell ⟨q, 0, none⟩ x0).setCell ⟨q, 1, none⟩ x1).setCell ⟨q, 2, none⟩ x2).setCell ⟨q, 3, none⟩ x3).heap[q]? = some (.cells #[x0, x1, x2, x3, a4, a5] T (0, 0)) := heap_setCell_same _ q 3 _ _ x3 h3
  have h5 : (((((w.setCell ⟨q, 0, none⟩ x0).setCell ⟨q, 1, none⟩ x1).setCell ⟨q, 2, none⟩ x2).setCell ⟨q, 3, none⟩ x3).setCell ⟨q, 4, none⟩ x4).heap[q]? = some (.cells #[x0, x1, x2, x3, x4, a5] T (0, 0)) := heap_setCell_same _ q 4 _ _ x4 h4
  have h6 : ((((((w.setCell ⟨q, 0, none⟩ x0).setCell ⟨q, 1, none⟩ x1).setCell ⟨q, 2, none⟩ x2).setCell ⟨q, 3, none⟩ x3).setCell ⟨q, 4, none⟩ x4).setCell ⟨q, 5, none⟩ x5).heap[q]? = some (.cells #[x0, x1, x2, x3, x4, x5] T (0, 0)) := heap_setCell_same _ q 5 _ _ x5 h5
  exact h6
theorem itm_all {w : World} {q : Nat} {T : TypeId} {a0 a1 a2 a3 a4 a5 a6 a7 a8 : Value} (x0 x1 x2 x3 x4 x5 x6 x7 x8 : Value) (h : w.heap[q]? = some (.cells #[a0, a1, a2, a3, a4, a5, a6, a7, a8] T (0, 0))) :
    (((((((((w.setCell ⟨q, 0, none⟩ x0).setCell ⟨q, 1, none⟩ x1).setCell ⟨q, 2, none⟩ x2).setCell ⟨q, 3, none⟩ x3).setCell ⟨q, 4, none⟩ x4).setCell ⟨q, 5, none⟩ x5).setCell ⟨q, 6, none⟩ x6).setCell ⟨q, 7, none⟩ x7).setCell ⟨q, 8, none⟩ x8).heap[q]? = some (.cells #[x0, x1, x2, x3, x4, x5, x6, x7, x8] T (0, 0)) := by
  have h1 : (w.setCell ⟨q, 0, none⟩ x0).heap[q]? = some (.cells #[x0, a1, a2, a3, a4, a5, a6, a7, a8] T (0, 0)) := heap_setCell_same _ q 0 _ _ x0 h
  have h2 : ((w.setCell ⟨q, 0, none⟩ x0).setCell ⟨q, 1, none⟩ x1).heap[q]? = some (.cells #[x0, x1, a2, a3, a4, a5, a6, a7, a8] T (0, 0)) := heap_setCell_same _ q 1 _ _ x1 h1
  have h3 : (((w.setCell ⟨q, 0, none⟩ x0).setCell ⟨q, 1, none⟩ x1).setCell ⟨q, 2, none⟩ x2).heap[q]? = some (.cells #[x0, x1, x2, a3, a4, a5, a6, a7, a8] T (0, 0)) := heap_setCell_same _ q 2 _ _ x2 h2
  have h4 : ((((w.setCell ⟨q, 0, none⟩ x0).setCell ⟨q, 1, none⟩ x1).setCell ⟨q, 2, none⟩ x2).setCell ⟨q, 3, none⟩ x3).heap[q]? = some (.cells #[x0, x1, x2, x3, a4, a5, a6, a7, a8] T (0, 0)) := heap_setCell_same _ q 3 _ _ x3 h3
  have h5 : (((((w.setCell ⟨q, 0, none⟩ x0).setCell ⟨q, 1, none⟩ x1).setCell ⟨q, 2, none⟩ x2).setCell ⟨q, 3, none⟩ x3).setCell ⟨q, 4, none⟩ x4).heap[q]? = some (.cells #[x0, x1, x2, x3, x4, a5, a6, a7, a8] T (0, 0)) := heap_setCell_same _ q 4 _ _ x4 h4
  have h6 : ((((((w.setCell ⟨q, 0, none⟩ x0).setCell ⟨q, 1, none⟩ x1).setCell ⟨q, 2, none⟩ x2).setCell ⟨q, 3, none⟩ x3).setCell ⟨q, 4, none⟩ x4).setCell ⟨q, 5, none⟩ x5).heap[q]? = some (.cells #[x0, x1, x2, x3, x4, x5, a6, a7, a8] T (0, 0)) := heap_setCell_same _ q 5 _ _ x5 h5
  have h7 : (((((((w.setCell ⟨q, 0, none⟩ x0).setCell ⟨q, 1, none⟩ x1).setCell ⟨q, 2, none⟩ x2).setCell ⟨q, 3, none⟩ x3).setCell ⟨q, 4, none⟩ x4).setCell ⟨q, 5, none⟩ x5).setCell ⟨q, 6, none⟩ x6).heap[q]? = some (.cells #[x0, x1, x2, x3, x4, x5, x6, a7, a8] T (0, 0)) := heap_setCell_same _ q 6 _ _ x6 h6
  have h8 : ((((((((w.setCell ⟨q, 0, none⟩ x0).setCell ⟨q, 1, none⟩ x1).setCell ⟨q, 2, none⟩ x2).setCell ⟨q, 3, none⟩ x3).setCell ⟨q, 4, none⟩ x4).setCell ⟨q, 5, none⟩ x5).setCell ⟨q, 6, none⟩ x6).setCell ⟨q, 7, none⟩ x7).heap[q]? = some (.cells #[x0, x1, x2, x3, x4, x5, x6, x7, a8] T (0, 0)) := heap_setCell_same _ q 7 _ _ x7 h7
  have h9 : (((((((((w.setCell ⟨q, 0, none⟩ x0).setCell ⟨q, 1, none⟩ x1).setCell ⟨q, 2, none⟩ x2).setCell ⟨q, 3, none⟩ x3).setCell ⟨q, 4, none⟩ x4).setCell ⟨q, 5, none⟩ x5).setCell ⟨q, 6, none⟩ x6).setCell ⟨q, 7, none⟩ x7).setCell ⟨q, 8, none⟩ x8).heap[q]? = some (.cells #[x0, x1, x2, x3, x4, x5, x6, x7, x8] T (0, 0)) := heap_setCell_same _ q 8 _ _ x8 h8
  exact h9
theorem itm_anc {w : World} {q : Nat} {T : TypeId} {a0 a1 a2 a3 a4 a5 a6 a7 a8 : Value} (x0 x1 x2 x3 x4 x5 : Value) (h : w.heap[q]? = some (.cells #[a0, a1, a2, a3, a4, a5, a6, a7, a8] T (0, 0))) :
    ((((((w.setCell ⟨q, 3, none⟩ x0).setCell ⟨q, 4, none⟩ x1).setCell ⟨q, 5, none⟩ x2).setCell ⟨q, 6, none⟩ x3).setCell ⟨q, 7, none⟩ x4).setCell ⟨q, 8, none⟩ x5).heap[q]? = some (.cells #[a0, a1, a2, x0, x1, x2, x3, x4, x5] T (0, 0)) := by
  have h1 : (w.setCell ⟨q, 3, none⟩ x0).heap[q]? = some (.cells #[a0, a1, a2, x0, a4, a5, a6, a7, a8] T (0, 0)) := heap_setCell_same _ q 3 _ _ x0 h
  have h2 : ((w.setCell ⟨q, 3, none⟩ x0).setCell ⟨q, 4, none⟩ x1).heap[q]? = some (.cells #[a0, a1, a2, x0, x1, a5, a6, a7, a8] T (0, 0)) := heap_setCell_same _ q 4 _ _ x1 h1
  have h3 : (((w.setCell ⟨q, 3, none⟩ x0).setCell ⟨q, 4, none⟩ x1).setCell ⟨q, 5, none⟩ x2).heap[q]? = some (.cells #[a0, a1, a2, x0, x1, x2, a6, a7, a8] T (0, 0)) := heap_setCell_same _ q 5 _ _ x2 h2
  have h4 : ((((w.setCell ⟨q, 3, none⟩ x0).setCell ⟨q, 4, none⟩ x1).setCell ⟨q, 5, none⟩ x2).setCell ⟨q, 6, none⟩ x3).heap[q]? = some (.cells #[a0, a1, a2, x0, x1, x2, x3, a7, a8] T (0, 0)) := heap_setCell_same _ q 6 _ _ x3 h3
  have h5 : (((((w.setCell ⟨q, 3, none⟩ x0).setCell ⟨q, 4, none⟩ x1).setCell ⟨q, 5, none⟩ x2).setCell ⟨q, 6, none⟩ x3).setCell ⟨q, 7, none⟩ x4).heap[q]? = some (.cells #[a0, a1, a2, x0, x1, x2, x3, x4, a8] T (0, 0)) := heap_setCell_same _ q 7 _ _ x4 h4
  have h6 : ((((((w.setCell ⟨q, 3, none⟩ x0).setCell ⟨q, 4, none⟩ x1).setCell ⟨q, 5, none⟩ x2).setCell ⟨q, 6, none⟩ x3).setCell ⟨q, 7, none⟩ x4).setCell ⟨q, 8, none⟩ x5).heap[q]? = some (.cells #[a0, a1, a2, x0, x1, x2, x3, x4, x5] T (0, 0)) := heap_setCell_same _ q 8 _ _ x5 h5
  exact h6
theorem cat_all {w : World} {q : Nat} {T : TypeId} {a0 a1 a2 : Value} (x0 x1 x2 : Value) (h : w.heap[q]? = some (.cells #[a0, a1, a2] T (0, 0))) :
    (((w.setCell ⟨q, 0, none⟩ x0).setCell ⟨q, 1, none⟩ x1).setCell ⟨q, 2, none⟩ x2).heap[q]? = some (.cells #[x0, x1, x2] T (0, 0)) := by
  have h1 : (w.setCell ⟨q, 0, none⟩ x0).heap[q]? = some (.cells #[x0, a1, a2] T (0, 0)) := heap_setCell_same _ q 0 _ _ x0 h
  have h2 : ((w.setCell ⟨q, 0, none⟩ x0).setCell ⟨q, 1, none⟩ x1).heap[q]? = some (.cells #[x0, x1, a2] T (0, 0)) := heap_setCell_same _ q 1 _ _ x1 h1
  have h3 : (((w.setCell ⟨q, 0, none⟩ x0).setCell ⟨q, 1, none⟩ x1).setCell ⟨q, 2, none⟩ x2).heap[q]? = some (.cells #[x0, x1, x2] T (0, 0)) := heap_setCell_same _ q 2 _ _ x2 h2
  exact h3
theorem sc_all {w : World} {q : Nat} {T : TypeId} {a0 a1 a2 : Value} (x0 x1 x2 : Value) (h : w.heap[q]? = some (.cells #[a0, a1, a2] T (0, 0))) :
    (((w.setCell ⟨q, 0, none⟩ x0).setCell ⟨q, 1, none⟩ x1).setCell ⟨q, 2, none⟩ x2).heap[q]? = some (.cells #[x0, x1, x2] T (0, 0)) := by
  have h1 : (w.setCell ⟨q, 0, none⟩ x0).heap[q]? = some (.cells #[x0, a1, a2] T (0, 0)) := heap_setCell_same _ q 0 _ _ x0 h
  have h2 : ((w.setCell ⟨q, 0, none⟩ x0).setCell ⟨q, 1, none⟩ x1).heap[q]? = some (.cells #[x0, x1, a2] T (0, 0)) := heap_setCell_same _ q 1 _ _ x1 h1
  have h3 : (((w.setCell ⟨q, 0, none⟩ x0).setCell ⟨q, 1, none⟩ x1).setCell ⟨q, 2, none⟩ x2).heap[q]? = some (.cells #[x0, x1, x2] T (0, 0)) := heap_setCell_same _ q 2 _ _ x2 h2
  exact h3
abbrev anc26 (a : Anc) : Value := .agg #[.int .i64 a.k, .int .i64 a.m, .int .i64 a.d, .int .i64 a.o, .int .i64 a.w, .int .i64 a.c]
set_option maxRecDepth 100000 in
set_option maxHeartbeats 1000000 in
theorem p26fix_go {S : ByteArray} {b : Nat} {x : Sc} {w : World} {m d : Int} {y1 y2 : Sc} (h : w.heap[b]? = some (scX S x)) (H1 : ∀ u : World, u.heap[b]? = some (scX S x) → Calls Tryz.prog 35 #[pv b, .string wSp] u fun r w' => r = .returned (.int .i64 m) ∧ w'.heap[b]? = some (scX S y1) ∧ Bt b u w') (H2 : ∀ u : World, u.heap[b]? = some (scX S y1) → Calls Tryz.prog 35 #[pv b, .string wLf] u fun r w' => r = .returned (.int .i64 d) ∧ w'.heap[b]? = some (scX S y2) ∧ Bt b u w') :
    Calls Tryz.prog 79 #[pv b] w fun r w' => r = .returned (.agg #[.int .i64 1, .int .i64 m, .int .i64 d, .int .i64 0, .int .i64 0, .int .i64 0]) ∧ w'.heap[b]? = some (scX S y2) ∧ Bt b w w' := by
  have H1 := Lib.hid H1
  have H2 := Lib.hid H2
  go_enter Tryz.func79, Tryz.ntmps79
  go_wp2_with fail
  obtain ⟨u, hu⟩ : ∃ u, u = (((w.alloc (.cells #[xp b] 59)).alloc (.cells #[.int .i64 0, .int .i64 0, .int .i64 0, .int .i64 0, .int .i64 0, .int .i64 0] 36)).alloc (.cells #[.int .i64 1, .int .i64 0, .int .i64 0, .int .i64 0, .int .i64 0, .int .i64 0] 36)) := ⟨_, rfl⟩
  have B0 : Below w.heap.size w u := hu ▸ al3 w _ _ _
  have rs := row_kept h B0
  have rP : u.heap[w.heap.size]? = some (.cells #[xp b] 59 (0, 0)) := hu ▸ row_on (heap_alloc_new _ _) (al2 _ _ _)
  have rR : u.heap[w.heap.size + 1]? = some (.cells #[.int .i64 0, .int .i64 0, .int .i64 0, .int .i64 0, .int .i64 0, .int .i64 0] 36 (0, 0)) := hu ▸ row_on (row_new1 _ _ _) (al1 _ _)
  have rQ : u.heap[w.heap.size + 1 + 1]? = some (.cells #[.int .i64 1, .int .i64 0, .int .i64 0, .int .i64 0, .int .i64 0, .int .i64 0] 36 (0, 0)) := hu ▸ row_new2 _ _ _ _
  rw [← hu]
  clear hu
  have hb := Bt.of_below (b := b) B0
  generalize hP : w.heap.size = P at *
  generalize hR : P + 1 = R at *
  generalize hQ : R + 1 = Q at *
  have lb : b < P := by have := row_lt h; omega
  refine (H1.out u rs).mono ?_
  rintro e1 w1 ⟨rfl, rs1, g1⟩
  have rP_1 := g1.row (show P ≠ b by omega) rP
  have rR_1 := g1.row (show R ≠ b by omega) rR
  have rQ_1 := g1.row (show Q ≠ b by omega) rQ
  have hb1 := hb.trans g1
  have cP0_1 : w1.cell? ⟨P, 0, none⟩ = some (xp b) := by rw [cell_of_row _ P 0 _ _ _ rP_1]; rfl
  have cQ1_1 : w1.cell? ⟨Q, 1, none⟩ = some (.int .i64 0) := by rw [cell_of_row _ Q 1 _ _ _ rQ_1]; rfl
  have fQ1_1 : w1.frozen? ⟨Q, 1, none⟩ = false := frozen_of_row _ Q 1 _ _ rQ_1
  have t1 : Bt Q w1 (w1.setCell ⟨Q, 1, none⟩ (.int .i64 m)) := Bt.sets Q [(.int .i64 m)] 1 w1
  have pQ1 : (w1.setCell ⟨Q, 1, none⟩ (.int .i64 m)).heap[Q]? = some (.cells #[.int .i64 1, .int .i64 m, .int .i64 0, .int .i64 0, .int .i64 0, .int .i64 0] 36 (0, 0)) := heap_setCell_same _ Q 1 _ _ _ rQ_1
  have pP1 := t1.row (show P ≠ Q by omega) rP_1
  have pR1 := t1.row (show R ≠ Q by omega) rR_1
  have ps1 := t1.row (show b ≠ Q by omega) rs1
  have hbp1 := hb1.over t1 (show w.heap.size ≤ Q by omega)
  have cP0_2 : (w1.setCell ⟨Q, 1, none⟩ (.int .i64 m)).cell? ⟨P, 0, none⟩ = some (xp b) := by rw [cell_of_row _ P 0 _ _ _ pP1]; rfl
  go_wp2_with fail
  refine (H2.out (w1.setCell ⟨Q, 1, none⟩ (.int .i64 m)) ps1).mono ?_
  clear cP0_1 cQ1_1 fQ1_1 cP0_2
  rintro e3 w3 ⟨rfl, rs3, g3⟩
  have rP_3 := g3.row (show P ≠ b by omega) pP1
  have rR_3 := g3.row (show R ≠ b by omega) pR1
  have rQ_3 := g3.row (show Q ≠ b by omega) pQ1
  have hb3 := hbp1.trans g3
  have cQ2_3 : w3.cell? ⟨Q, 2, none⟩ = some (.int .i64 0) := by rw [cell_of_row _ Q 2 _ _ _ rQ_3]; rfl
  have fQ2_3 : w3.frozen? ⟨Q, 2, none⟩ = false := frozen_of_row _ Q 2 _ _ rQ_3
  have t2 : Bt Q w3 (w3.setCell ⟨Q, 2, none⟩ (.int .i64 d)) := Bt.sets Q [(.int .i64 d)] 2 w3
  have pQ2 : (w3.setCell ⟨Q, 2, none⟩ (.int .i64 d)).heap[Q]? = some (.cells #[.int .i64 1, .int .i64 m, .int .i64 d, .int .i64 0, .int .i64 0, .int .i64 0] 36 (0, 0)) := heap_setCell_same _ Q 2 _ _ _ rQ_3
  have pP2 := t2.row (show P ≠ Q by omega) rP_3
  have pR2 := t2.row (show R ≠ Q by omega) rR_3
  have ps2 := t2.row (show b ≠ Q by omega) rs3
  have hbp2 := hb3.over t2 (show w.heap.size ≤ Q by omega)
  have cQ0_4 : (w3.setCell ⟨Q, 2, none⟩ (.int .i64 d)).cell? ⟨Q, 0, none⟩ = some (.int .i64 1) := by rw [cell_of_row _ Q 0 _ _ _ pQ2]; rfl
  have cQ1_4 : (w3.setCell ⟨Q, 2, none⟩ (.int .i64 d)).cell? ⟨Q, 1, none⟩ = some (.int .i64 m) := by rw [cell_of_row _ Q 1 _ _ _ pQ2]; rfl
  have cQ2_4 : (w3.setCell ⟨Q, 2, none⟩ (.int .i64 d)).cell? ⟨Q, 2, none⟩ = some (.int .i64 d) := by rw [cell_of_row _ Q 2 _ _ _ pQ2]; rfl
  have cQ3_4 : (w3.setCell ⟨Q, 2, none⟩ (.int .i64 d)).cell? ⟨Q, 3, none⟩ = some (.int .i64 0) := by rw [cell_of_row _ Q 3 _ _ _ pQ2]; rfl
  have cQ4_4 : (w3.setCell ⟨Q, 2, none⟩ (.int .i64 d)).cell? ⟨Q, 4, none⟩ = some (.int .i64 0) := by rw [cell_of_row _ Q 4 _ _ _ pQ2]; rfl
  have cQ5_4 : (w3.setCell ⟨Q, 2, none⟩ (.int .i64 d)).cell? ⟨Q, 5, none⟩ = some (.int .i64 0) := by rw [cell_of_row _ Q 5 _ _ _ pQ2]; rfl
  have cR0_4 : (w3.setCell ⟨Q, 2, none⟩ (.int .i64 d)).cell? ⟨R, 0, none⟩ = some (.int .i64 0) := by rw [cell_of_row _ R 0 _ _ _ pR2]; rfl
  have fR0_4 : (w3.setCell ⟨Q, 2, none⟩ (.int .i64 d)).frozen? ⟨R, 0, none⟩ = false := frozen_of_row _ R 0 _ _ pR2
  have cR1_4 : (w3.setCell ⟨Q, 2, none⟩ (.int .i64 d)).cell? ⟨R, 1, none⟩ = some (.int .i64 0) := by rw [cell_of_row _ R 1 _ _ _ pR2]; rfl
  have fR1_4 : (w3.setCell ⟨Q, 2, none⟩ (.int .i64 d)).frozen? ⟨R, 1, none⟩ = false := frozen_of_row _ R 1 _ _ pR2
  have cR2_4 : (w3.setCell ⟨Q, 2, none⟩ (.int .i64 d)).cell? ⟨R, 2, none⟩ = some (.int .i64 0) := by rw [cell_of_row _ R 2 _ _ _ pR2]; rfl
  have fR2_4 : (w3.setCell ⟨Q, 2, none⟩ (.int .i64 d)).frozen? ⟨R, 2, none⟩ = false := frozen_of_row _ R 2 _ _ pR2
  have cR3_4 : (w3.setCell ⟨Q, 2, none⟩ (.int .i64 d)).cell? ⟨R, 3, none⟩ = some (.int .i64 0) := by rw [cell_of_row _ R 3 _ _ _ pR2]; rfl
  have fR3_4 : (w3.setCell ⟨Q, 2, none⟩ (.int .i64 d)).frozen? ⟨R, 3, none⟩ = false := frozen_of_row _ R 3 _ _ pR2
  have cR4_4 : (w3.setCell ⟨Q, 2, none⟩ (.int .i64 d)).cell? ⟨R, 4, none⟩ = some (.int .i64 0) := by rw [cell_of_row _ R 4 _ _ _ pR2]; rfl
  have fR4_4 : (w3.setCell ⟨Q, 2, none⟩ (.int .i64 d)).frozen? ⟨R, 4, none⟩ = false := frozen_of_row _ R 4 _ _ pR2
  have cR5_4 : (w3.setCell ⟨Q, 2, none⟩ (.int .i64 d)).cell? ⟨R, 5, none⟩ = some (.int .i64 0) := by rw [cell_of_row _ R 5 _ _ _ pR2]; rfl
  have fR5_4 : (w3.setCell ⟨Q, 2, none⟩ (.int .i64 d)).frozen? ⟨R, 5, none⟩ = false := frozen_of_row _ R 5 _ _ pR2
  have t3 : Bt R (w3.setCell ⟨Q, 2, none⟩ (.int .i64 d)) (((((((w3.setCell ⟨Q, 2, none⟩ (.int .i64 d)).setCell ⟨R, 0, none⟩ (.int .i64 1)).setCell ⟨R, 1, none⟩ (.int .i64 m)).setCell ⟨R, 2, none⟩ (.int .i64 d)).setCell ⟨R, 3, none⟩ (.int .i64 0)).setCell ⟨R, 4, none⟩ (.int .i64 0)).setCell ⟨R, 5, none⟩ (.int .i64 0)) := Bt.sets R [(.int .i64 1), (.int .i64 m), (.int .i64 d), (.int .i64 0), (.int .i64 0), (.int .i64 0)] 0 (w3.setCell ⟨Q, 2, none⟩ (.int .i64 d))
  have pR3 : (((((((w3.setCell ⟨Q, 2, none⟩ (.int .i64 d)).setCell ⟨R, 0, none⟩ (.int .i64 1)).setCell ⟨R, 1, none⟩ (.int .i64 m)).setCell ⟨R, 2, none⟩ (.int .i64 d)).setCell ⟨R, 3, none⟩ (.int .i64 0)).setCell ⟨R, 4, none⟩ (.int .i64 0)).setCell ⟨R, 5, none⟩ (.int .i64 0)).heap[R]? = some (.cells #[.int .i64 1, .int .i64 m, .int .i64 d, .int .i64 0, .int .i64 0, .int .i64 0] 36 (0, 0)) := anc_all (.int .i64 1) (.int .i64 m) (.int .i64 d) (.int .i64 0) (.int .i64 0) (.int .i64 0) pR2
  have pP3 := t3.row (show P ≠ R by omega) pP2
  have pQ3 := t3.row (show Q ≠ R by omega) pQ2
  have ps3 := t3.row (show b ≠ R by omega) ps2
  have hbp3 := hbp2.over t3 (show w.heap.size ≤ R by omega)
  go_wp2_with fail
  obtain ⟨u9, hu9⟩ : ∃ u9, u9 = (((((((w3.setCell ⟨Q, 2, none⟩ (.int .i64 d)).setCell ⟨R, 0, none⟩ (.int .i64 1)).setCell ⟨R, 1, none⟩ (.int .i64 m)).setCell ⟨R, 2, none⟩ (.int .i64 d)).setCell ⟨R, 3, none⟩ (.int .i64 0)).setCell ⟨R, 4, none⟩ (.int .i64 0)).setCell ⟨R, 5, none⟩ (.int .i64 0)) := ⟨_, rfl⟩
  rw [← hu9] at pR3 ps3 hbp3 ⊢
  have k0 : u9.cell? ⟨R, 0, none⟩ = some (.int .i64 1) := by rw [cell_of_row _ R 0 _ _ _ pR3]; rfl
  have k1 : u9.cell? ⟨R, 1, none⟩ = some (.int .i64 m) := by rw [cell_of_row _ R 1 _ _ _ pR3]; rfl
  have k2 : u9.cell? ⟨R, 2, none⟩ = some (.int .i64 d) := by rw [cell_of_row _ R 2 _ _ _ pR3]; rfl
  have k3 : u9.cell? ⟨R, 3, none⟩ = some (.int .i64 0) := by rw [cell_of_row _ R 3 _ _ _ pR3]; rfl
  have k4 : u9.cell? ⟨R, 4, none⟩ = some (.int .i64 0) := by rw [cell_of_row _ R 4 _ _ _ pR3]; rfl
  have k5 : u9.cell? ⟨R, 5, none⟩ = some (.int .i64 0) := by rw [cell_of_row _ R 5 _ _ _ pR3]; rfl
  exact bodyPost_ret (v := .agg #[.int .i64 1, .int .i64 m, .int .i64 d, .int .i64 0, .int .i64 0, .int .i64 0]) (by simp [results, Tryz.results79, go_sem, k0, k1, k2, k3, k4, k5]) rfl ⟨rfl, ps3, hbp3⟩
set_option maxRecDepth 100000 in
set_option maxHeartbeats 1000000 in
theorem p26eas_go {S : ByteArray} {b : Nat} {x : Sc} {w : World} {m : Int} {y1 : Sc} (h : w.heap[b]? = some (scX S x)) (H1 : ∀ u : World, u.heap[b]? = some (scX S x) → Calls Tryz.prog 35 #[pv b, .string wLf] u fun r w' => r = .returned (.int .i64 m) ∧ w'.heap[b]? = some (scX S y1) ∧ Bt b u w') :
    Calls Tryz.prog 80 #[pv b] w fun r w' => r = .returned (.agg #[.int .i64 2, .int .i64 0, .int .i64 0, .int .i64 m, .int .i64 0, .int .i64 0]) ∧ w'.heap[b]? = some (scX S y1) ∧ Bt b w w' := by
  have H1 := Lib.hid H1
  go_enter Tryz.func80, Tryz.ntmps80
  go_wp2_with fail
  obtain ⟨u, hu⟩ : ∃ u, u = ((w.alloc (.cells #[xp b] 59)).alloc (.cells #[.int .i64 0, .int .i64 0, .int .i64 0, .int .i64 0, .int .i64 0, .int .i64 0] 36)) := ⟨_, rfl⟩
  have B0 : Below w.heap.size w u := hu ▸ al2 w _ _
  have rs := row_kept h B0
  have rP : u.heap[w.heap.size]? = some (.cells #[xp b] 59 (0, 0)) := hu ▸ row_on (heap_alloc_new _ _) (al1 _ _)
  have rR : u.heap[w.heap.size + 1]? = some (.cells #[.int .i64 0, .int .i64 0, .int .i64 0, .int .i64 0, .int .i64 0, .int .i64 0] 36 (0, 0)) := hu ▸ row_new1 _ _ _
  rw [← hu]
  clear hu
  have hb := Bt.of_below (b := b) B0
  generalize hP : w.heap.size = P at *
  generalize hR : P + 1 = R at *
  have lb : b < P := by have := row_lt h; omega
  refine (H1.out u rs).mono ?_
  rintro e1 w1 ⟨rfl, rs1, g1⟩
  have rP_1 := g1.row (show P ≠ b by omega) rP
  have rR_1 := g1.row (show R ≠ b by omega) rR
  have hb1 := hb.trans g1
  have cR0_1 : w1.cell? ⟨R, 0, none⟩ = some (.int .i64 0) := by rw [cell_of_row _ R 0 _ _ _ rR_1]; rfl
  have fR0_1 : w1.frozen? ⟨R, 0, none⟩ = false := frozen_of_row _ R 0 _ _ rR_1
  have cR1_1 : w1.cell? ⟨R, 1, none⟩ = some (.int .i64 0) := by rw [cell_of_row _ R 1 _ _ _ rR_1]; rfl
  have fR1_1 : w1.frozen? ⟨R, 1, none⟩ = false := frozen_of_row _ R 1 _ _ rR_1
  have cR2_1 : w1.cell? ⟨R, 2, none⟩ = some (.int .i64 0) := by rw [cell_of_row _ R 2 _ _ _ rR_1]; rfl
  have fR2_1 : w1.frozen? ⟨R, 2, none⟩ = false := frozen_of_row _ R 2 _ _ rR_1
  have cR3_1 : w1.cell? ⟨R, 3, none⟩ = some (.int .i64 0) := by rw [cell_of_row _ R 3 _ _ _ rR_1]; rfl
  have fR3_1 : w1.frozen? ⟨R, 3, none⟩ = false := frozen_of_row _ R 3 _ _ rR_1
  have cR4_1 : w1.cell? ⟨R, 4, none⟩ = some (.int .i64 0) := by rw [cell_of_row _ R 4 _ _ _ rR_1]; rfl
  have fR4_1 : w1.frozen? ⟨R, 4, none⟩ = false := frozen_of_row _ R 4 _ _ rR_1
  have cR5_1 : w1.cell? ⟨R, 5, none⟩ = some (.int .i64 0) := by rw [cell_of_row _ R 5 _ _ _ rR_1]; rfl
  have fR5_1 : w1.frozen? ⟨R, 5, none⟩ = false := frozen_of_row _ R 5 _ _ rR_1
  have t1 : Bt R w1 ((((((w1.setCell ⟨R, 0, none⟩ (.int .i64 2)).setCell ⟨R, 1, none⟩ (.int .i64 0)).setCell ⟨R, 2, none⟩ (.int .i64 0)).setCell ⟨R, 3, none⟩ (.int .i64 m)).setCell ⟨R, 4, none⟩ (.int .i64 0)).setCell ⟨R, 5, none⟩ (.int .i64 0)) := Bt.sets R [(.int .i64 2), (.int .i64 0), (.int .i64 0), (.int .i64 m), (.int .i64 0), (.int .i64 0)] 0 w1
  have pR1 : ((((((w1.setCell ⟨R, 0, none⟩ (.int .i64 2)).setCell ⟨R, 1, none⟩ (.int .i64 0)).setCell ⟨R, 2, none⟩ (.int .i64 0)).setCell ⟨R, 3, none⟩ (.int .i64 m)).setCell ⟨R, 4, none⟩ (.int .i64 0)).setCell ⟨R, 5, none⟩ (.int .i64 0)).heap[R]? = some (.cells #[.int .i64 2, .int .i64 0, .int .i64 0, .int .i64 m, .int .i64 0, .int .i64 0] 36 (0, 0)) := anc_all (.int .i64 2) (.int .i64 0) (.int .i64 0) (.int .i64 m) (.int .i64 0) (.int .i64 0) rR_1
  have pP1 := t1.row (show P ≠ R by omega) rP_1
  have ps1 := t1.row (show b ≠ R by omega) rs1
  have hbp1 := hb1.over t1 (show w.heap.size ≤ R by omega)
  go_wp2_with fail
  obtain ⟨u9, hu9⟩ : ∃ u9, u9 = ((((((w1.setCell ⟨R, 0, none⟩ (.int .i64 2)).setCell ⟨R, 1, none⟩ (.int .i64 0)).setCell ⟨R, 2, none⟩ (.int .i64 0)).setCell ⟨R, 3, none⟩ (.int .i64 m)).setCell ⟨R, 4, none⟩ (.int .i64 0)).setCell ⟨R, 5, none⟩ (.int .i64 0)) := ⟨_, rfl⟩
  rw [← hu9] at pR1 ps1 hbp1 ⊢
  have k0 : u9.cell? ⟨R, 0, none⟩ = some (.int .i64 2) := by rw [cell_of_row _ R 0 _ _ _ pR1]; rfl
  have k1 : u9.cell? ⟨R, 1, none⟩ = some (.int .i64 0) := by rw [cell_of_row _ R 1 _ _ _ pR1]; rfl
  have k2 : u9.cell? ⟨R, 2, none⟩ = some (.int .i64 0) := by rw [cell_of_row _ R 2 _ _ _ pR1]; rfl
  have k3 : u9.cell? ⟨R, 3, none⟩ = some (.int .i64 m) := by rw [cell_of_row _ R 3 _ _ _ pR1]; rfl
  have k4 : u9.cell? ⟨R, 4, none⟩ = some (.int .i64 0) := by rw [cell_of_row _ R 4 _ _ _ pR1]; rfl
  have k5 : u9.cell? ⟨R, 5, none⟩ = some (.int .i64 0) := by rw [cell_of_row _ R 5 _ _ _ pR1]; rfl
  exact bodyPost_ret (v := .agg #[.int .i64 2, .int .i64 0, .int .i64 0, .int .i64 m, .int .i64 0, .int .i64 0]) (by simp [results, Tryz.results80, go_sem, k0, k1, k2, k3, k4, k5]) rfl ⟨rfl, ps1, hbp1⟩
set_option maxHeartbeats 1000000 in
set_option maxRecDepth 100000 in
theorem p26wwd (W : World) (hT : WTab W) : Calls Tryz.prog 97 #[] W fun e w' => ∃ g cap, e = .returned (.slice (some ⟨g, 0, none⟩) 7 cap) ∧ StrsIn g cap lWd w' ∧ W.heap.size ≤ g ∧ Below W.heap.size W w' := by
  obtain ⟨i0, hi, hz0, hz1, hz2⟩ := info_parts infoStr
  have HN := Lib.hid (fun (i : Nat) (u : World) (h : WTab u) => name_any (i : Int) u h)
  have hW0 : ∀ i : Nat, i < 7 → nm (i : Int) = lWd.getD i ByteArray.empty := by decide +kernel
  have HW := Lib.hid hW0
  clear hW0
  have HT := Lib.hid hT
  go_enter Tryz.func97, Tryz.ntmps97
  go_wp2_with fail
  go_loopw [1, 2] (fun v vi wr => ∃ i : Nat, i ≤ 7 ∧ vi = .int .i64 i ∧ Below W.heap.size W wr ∧ StrsAt W.heap.size v (lWd.take i) wr) (fun _ vi _ => 7 - (intOf vi).toNat)
  case atStart => exact ⟨0, by omega, rfl, Below.refl _ _, StrsAt.emp _ _⟩
  case round =>
    obtain ⟨k, hk, rfl, hb, hv⟩ := hrel
    have HB := Lib.hid hb
    have HV := Lib.hid hv
    clear hb hv
    by_cases hlt : k < 7
    · have d0 : decide ((k : Int) < 7) = true := dtrue (by omega)
      have d1 : decide ((k : Int) ≤ 6) = true := dtrue (by omega)
      have d2 : (k : Int) < 7 := by omega
      have d3 : (k : Int) ≤ 6 := by omega
      have hmap := Lib.hid (show lWd.take (k + 1) = lWd.take k ++ [nm (k : Int)] by
        rw [HW.out k hlt, List.take_succ_eq_append_getElem (show k < lWd.length from hlt), List.getD_eq_getElem?_getD, List.getElem?_eq_getElem (show k < lWd.length from hlt)]; rfl)
      have hle : (lWd.take k).length = k := by rw [List.length_take]; show min k 7 = k; omega
      obtain ⟨nw, hnw⟩ : ∃ nw, nw = nm (k : Int) := ⟨_, rfl⟩
      have HN1 := Lib.hid (fun (u : World) (h : WTab u) => HN.out k u h)
      rw [← hnw] at HN1 hmap
      clear hnw
      have hz := Lib.hid (show W.heap.size ≤ wr.heap.size from HB.out.size)
      have HTr := Lib.hid (HT.out.on HB.out)
      go_wp2_with fail
      refine (HN1.out _ HTr.out).mono ?_
      rintro e w1 ⟨rfl, rfl⟩
      go_wp2_with (at_builtin; refine wpList_append_own _ rfl _ _ 63 rfl W.heap.size 9 i0 (.string ⟨#[]⟩) 1 16 Tryz.underlying63 hi hz0 hz1 hz2 rfl (by decide) _ _ _ rfl (HV.out.al _) ⟨wr.heap.size, 0, none⟩ 1 1 [.string nw] rfl rfl (cell_one_new _ _ _) (by simp [Value.oneCell']) (by unfold maxLen; omega) (by omega) (by have := hz.out; simp; omega) ?_; intro v' w2 hown' hgrow _; obtain ⟨hv2, hb2⟩ := HV.out.app HB.out hz.out hown' hgrow; have HV2 := Lib.hid hv2; have HB2 := Lib.hid hb2; clear hown' hgrow hv2 hb2)
      go_roundw
      case rel => exact ⟨k + 1, by omega, by go_num, HB2.out, by rw [hmap.out]; exact HV2.out⟩
      case measure => simp [intOf]; omega
    · obtain rfl : k = 7 := by omega
      have d0 : decide (((7 : Nat) : Int) < 7) = false := by decide
      have d1 : decide (((7 : Nat) : Int) ≤ 6) = false := by decide
      have HV7 := Lib.hid (show StrsAt W.heap.size _ lWd wr from HV.out)
      go_wp2_with fail
      go_ret
      rcases HV7.out.get with ⟨_, e⟩ | ⟨g, cap, rfl, hI⟩
      · cases e
      · exact ⟨g, cap, rfl, hI, (World.ownsRow.lt HV7.out g rfl).1, HB.out⟩
end Go.Proofs.YtaamdimgloblpaaGreatDoor

namespace Go.Proofs.YtaamdimgloblpaaGreatDoor
open Go.RowKit

theorem ne_scan {w : World} {b : Nat} {S : ByteArray} {x : Sc} (h : WTab w) (hr : w.heap[b]? = some (scX S x)) : 1 ≠ b := by
  rintro rfl
  obtain ⟨t, fr, e⟩ := h.row
  rw [hr] at e
  injection e with e
  injection e with e _ _
  have e := congrArg Array.size e
  rw [show nms.size = 7 from rfl] at e
  exact absurd e (by show ¬ 3 = 7; decide)
theorem WTab.mv {w w' : World} {b : Nat} (h : WTab w) (hb : Bt b w w') (hn : 1 ≠ b) : WTab w' := by
  obtain ⟨t, fr, e⟩ := h.row
  exact ⟨⟨t, fr, hb.row hn e⟩⟩
set_option maxRecDepth 100000 in
theorem p26clo (s : ByteArray) (hs : s.size ≤ 100000) (w : World) : Calls Tryz.prog 77 #[.string s] w fun e w' => e = .returned (.string s) ∧ Below w.heap.size w w' := by
  have H := Lib.hid (fun u => sh_stringslite_Clone s u (by omega))
  go_enter Tryz.func77, Tryz.ntmps77
  go_wp2_with fail
  refine (H.out w).mono ?_
  rintro e w' ⟨rfl, hb⟩
  go_wp2_with fail
  go_ret
  exact ⟨rfl, hb⟩
theorem p26pol (w : World) : Calls Tryz.prog 33 #[] w fun e w' => ∃ g, e = .returned (.slice (some ⟨g, 0, none⟩) 3 3) ∧ StrsIn g 3 lPo w' ∧ w.heap.size ≤ g ∧ Below w.heap.size w w' := by
  go_enter Tryz.func33, Tryz.ntmps33
  go_wp2_with fail
  go_ret
  exact ⟨_, rfl, lit3 _ _ _ _, Nat.le_refl _, al1 _ _⟩
set_option maxRecDepth 100000 in
set_option maxHeartbeats 1000000 in
theorem p26ide_go {S : ByteArray} {b : Nat} {x : Sc} {w : World} {s : ByteArray} {i : Int} {y1 y2 : Sc} (h : w.heap[b]? = some (scX S x)) (H1 : ∀ u : World, u.heap[b]? = some (scX S x) → Calls Tryz.prog 78 #[xp b] u fun r w' => r = .returned (.string s) ∧ w'.heap[b]? = some (scX S y1) ∧ Bt b u w') (H2 : ∀ u : World, Calls Tryz.prog 77 #[.string s] u fun e w' => e = .returned (.string s) ∧ Below u.heap.size u w') (H3 : ∀ u : World, u.heap[b]? = some (scX S y1) → Calls Tryz.prog 34 #[xp b, .slice (some ⟨u.heap.size, 0, none⟩) 1 1] (u.alloc (.cells #[.string ⟨#[32]⟩] 9)) fun r w' => r = .returned (.int .i64 i) ∧ w'.heap[b]? = some (scX S y2) ∧ Bt b u w') :
    Calls Tryz.prog 57 #[pv b] w fun r w' => r = .returned (.string s) ∧ w'.heap[b]? = some (scX S y2) ∧ Bt b w w' := by
  have H1 := Lib.hid H1
  have H2 := Lib.hid H2
  have H3 := Lib.hid H3
  go_enter Tryz.func57, Tryz.ntmps57
  go_wp2_with fail
  obtain ⟨u, hu⟩ : ∃ u, u = (w.alloc (.cells #[xp b] 59)) := ⟨_, rfl⟩
  have B0 : Below w.heap.size w u := hu ▸ al1 w _
  have rs := row_kept h B0
  have rP : u.heap[w.heap.size]? = some (.cells #[xp b] 59 (0, 0)) := hu ▸ heap_alloc_new _ _
  rw [← hu]
  clear hu
  have hb := Bt.of_below (b := b) B0
  generalize hP : w.heap.size = P at *
  have lb : b < P := by have := row_lt h; omega
  refine (H1.out u rs).mono ?_
  rintro e1 w1 ⟨rfl, rs1, g1⟩
  have rP_1 := g1.row (show P ≠ b by omega) rP
  have hb1 := hb.trans g1
  go_wp2_with fail
  refine (H2.out _).mono ?_
  rintro e2 w2 ⟨rfl, g2⟩
  have rP_2 := row_kept rP_1 g2
  have rs2 := row_kept rs1 g2
  have hb2 := hb1.trans (Bt.of_below g2)
  have cP0_2 : w2.cell? ⟨P, 0, none⟩ = some (xp b) := by rw [cell_of_row _ P 0 _ _ _ rP_2]; rfl
  go_wp2_with fail
  refine (H3.out w2 rs2).mono ?_
  clear cP0_2
  rintro e3 w3 ⟨rfl, rs3, g3⟩
  have rP_3 := g3.row (show P ≠ b by omega) rP_2
  have hb3 := hb2.trans g3
  go_wp2_with fail
  go_ret
  exact ⟨rfl, rs3, hb3⟩
set_option maxRecDepth 100000 in
set_option maxHeartbeats 1000000 in
theorem p26cho_go {S : ByteArray} {b : Nat} {x : Sc} {w : World} {v : Value} {i j : Int} {y1 y2 : Sc} (h : w.heap[b]? = some (scX S x)) (H1 : ∀ u : World, u.heap[b]? = some (scX S x) → Below w.heap.size w u → Calls Tryz.prog 34 #[xp b, v] u fun r w' => r = .returned (.int .i64 i) ∧ w'.heap[b]? = some (scX S y1) ∧ Bt b u w') (H3 : ∀ u : World, u.heap[b]? = some (scX S y1) → Calls Tryz.prog 34 #[xp b, .slice (some ⟨u.heap.size, 0, none⟩) 1 1] (u.alloc (.cells #[.string ⟨#[32]⟩] 9)) fun r w' => r = .returned (.int .i64 j) ∧ w'.heap[b]? = some (scX S y2) ∧ Bt b u w') :
    Calls Tryz.prog 59 #[pv b, v] w fun r w' => r = .returned (.int .i64 i) ∧ w'.heap[b]? = some (scX S y2) ∧ Bt b w w' := by
  have H1 := Lib.hid H1
  have H3 := Lib.hid H3
  go_enter Tryz.func59, Tryz.ntmps59
  go_wp2_with fail
  obtain ⟨u, hu⟩ : ∃ u, u = (w.alloc (.cells #[xp b] 59)) := ⟨_, rfl⟩
  have B0 : Below w.heap.size w u := hu ▸ al1 w _
  have rs := row_kept h B0
  have rP : u.heap[w.heap.size]? = some (.cells #[xp b] 59 (0, 0)) := hu ▸ heap_alloc_new _ _
  rw [← hu]
  clear hu
  have hb := Bt.of_below (b := b) B0
  generalize hP : w.heap.size = P at *
  have lb : b < P := by have := row_lt h; omega
  refine (H1.out u rs B0).mono ?_
  rintro e1 w1 ⟨rfl, rs1, g1⟩
  have rP_1 := g1.row (show P ≠ b by omega) rP
  have hb1 := hb.trans g1
  have cP0_1 : w1.cell? ⟨P, 0, none⟩ = some (xp b) := by rw [cell_of_row _ P 0 _ _ _ rP_1]; rfl
  go_wp2_with fail
  refine (H3.out w1 rs1).mono ?_
  clear cP0_1
  rintro e2 w2 ⟨rfl, rs2, g2⟩
  have rP_2 := g2.row (show P ≠ b by omega) rP_1
  have hb2 := hb1.trans g2
  go_wp2_with fail
  go_ret
  exact ⟨rfl, rs2, hb2⟩
set_option maxRecDepth 100000 in
set_option maxHeartbeats 1000000 in
theorem p26beg_go {S : ByteArray} {b : Nat} {x : Sc} {w : World} {t : ByteArray} {c d : Int} {r : Bool} (h : w.heap[b]? = some (scX S x)) (H1 : ∀ u : World, u.heap[b]? = some (scX S x) → Calls Tryz.prog 56 #[xp b] u fun e w' => e = .returned (.int .u8 c) ∧ Below u.heap.size u w')
    (hd : ∀ u : World, (Instr.index 9 (.string t) (.int .i64 0)).run Tryz.prog u = .ok (.int .u8 d) u) (hr : (c == d) = r) :
    Calls Tryz.prog 36 #[pv b, .string t] w fun e w' => e = .returned (.bool r) ∧ Below w.heap.size w w' := by
  have H1 := Lib.hid (fun u (hu : u.cell? ⟨w.heap.size, 0, none⟩ = some (xp b) ∧ u.heap[b]? = some (scX S x) ∧ Below w.heap.size w u) => (H1 u hu.2.1).mono (R' := fun e u' => e = .returned (.int .u8 c) ∧ (u'.cell? ⟨w.heap.size, 0, none⟩ = some (xp b) ∧ u'.heap[b]? = some (scX S x) ∧ Below w.heap.size w u')) fun e u' ⟨he, hq⟩ => ⟨he, cell_below hu.1 hq, row_kept hu.2.1 hq, hu.2.2.trans (hq.mono hu.2.2.size)⟩)
  have Hs := Lib.hid (show (w.alloc (bxP b)).drew.cell? ⟨w.heap.size, 0, none⟩ = some (xp b) ∧ (w.alloc (bxP b)).drew.heap[b]? = some (scX S x) ∧ Below w.heap.size w (w.alloc (bxP b)).drew from ⟨by rw [cell_of_row (w.alloc (bxP b)).drew w.heap.size 0 _ _ _ (heap_alloc_new w _)]; rfl, row_kept h (below_dn (al1 w (bxP b)) 1), below_dn (al1 w _) 1⟩)
  go_enter Tryz.func36, Tryz.ntmps36
  go_wp2_with fail
  refine wp_region_held_drew (S := fun u => u.cell? ⟨w.heap.size, 0, none⟩ = some (xp b) ∧ u.heap[b]? = some (scX S x) ∧ Below w.heap.size w u) (by kernel_rfl) Hs.out (fun hHeld => ?_)
  refine wpAnyH_take (i := 0) (oi := { dst := some 5, op := _, type := _, pos := _, after := _, guard := _ }) (v := ?v1_0) rfl (by kernel_rfl) (by kernel_rfl) (by kernel_rfl) (fun _ _ _ h => h) (Or.inl ⟨by rfl, ?hy1_0⟩) hHeld ?_
  case hy1_0 => (intro w hSw; (try dsimp only at hSw); go_simp; try with_reducible rfl)
  simp only [Act.put, List.setIfInBounds_toArray, List.set_cons_zero, List.set_cons_succ]
  refine wpAnyH_take (i := 1) (oi := { dst := some 6, op := _, type := _, pos := _, after := _, guard := _ }) (v := ?v1_1) rfl (by kernel_rfl) (by kernel_rfl) (by kernel_rfl) (fun _ _ _ h => h) (Or.inl ⟨by rfl, ?hy1_1⟩) hHeld ?_
  case hy1_1 => (intro w hSw; (try dsimp only at hSw); go_simp; try with_reducible rfl)
  simp only [Act.put, List.setIfInBounds_toArray, List.set_cons_zero, List.set_cons_succ]
  refine wpAnyH_take (i := 3) (oi := { dst := some 8, op := _, type := _, pos := _, after := _, guard := _ }) (v := ?v1_3) rfl (by kernel_rfl) (by kernel_rfl) (by kernel_rfl) (fun _ _ _ h => h) (Or.inl ⟨by rfl, ?hy1_3⟩) hHeld ?_
  case hy1_3 => (intro w hSw; (try dsimp only at hSw); go_simp; try with_reducible rfl)
  simp only [Act.put, List.setIfInBounds_toArray, List.set_cons_zero, List.set_cons_succ]
  refine wpAnyH_take (i := 4) (oi := { dst := some 9, op := _, type := _, pos := _, after := _, guard := _ }) (v := ?v1_4) rfl (by kernel_rfl) (by kernel_rfl) (by kernel_rfl) (fun _ _ _ h => h) (Or.inl ⟨by rfl, ?hy1_4⟩) hHeld ?_
  case hy1_4 => (intro w hSw; (try dsimp only at hSw); go_simp; try with_reducible rfl)
  simp only [Act.put, List.setIfInBounds_toArray, List.set_cons_zero, List.set_cons_succ]
  refine wpAnyH_ready (rs := [2]) (by kernel_rfl) (by simp) ?_
  refine AllReadyH.cons (o := { dst := some 7, op := _, type := _, pos := _, after := _, guard := _ }) rfl (fun K hK => ?_) AllReadyH.nil
  go_simp
  go_at_call 56
  refine (H1.out _ (by assumption)).mono ?_
  rintro ee u1 ⟨rfl, hs1⟩
  refine hK.out _ _ hs1 (fun hHeld => ?_)
  clear hK K
  refine wpAnyH_take (i := 5) (oi := { dst := some 10, op := _, type := _, pos := _, after := _, guard := _ }) (v := ?v1_5) rfl (by kernel_rfl) (by kernel_rfl) (by kernel_rfl) (fun _ _ _ h => h) (Or.inl ⟨by rfl, ?hy1_5⟩) hHeld ?_
  case hy1_5 => (intro w hSw; (try dsimp only at hSw); go_simp; try with_reducible rfl)
  simp only [Act.put, List.setIfInBounds_toArray, List.set_cons_zero, List.set_cons_succ]
  refine wpAnyH_take (i := 6) (oi := { dst := some 4, op := _, type := _, pos := _, after := _, guard := _ }) (v := ?v1_6) rfl (by kernel_rfl) (by kernel_rfl) (by kernel_rfl) (fun _ _ _ h => h) (Or.inl ⟨by rfl, ?hy1_6⟩) hHeld ?_
  case hy1_6 => (intro w hSw; (try dsimp only at hSw); go_simp; try with_reducible rfl)
  simp only [Act.put, List.setIfInBounds_toArray, List.set_cons_zero, List.set_cons_succ]
  refine wpAnyH_done (by kernel_rfl) ?_ _
  go_wp2_with fail
  go_ret
  exact ⟨rfl, hs1.2.2⟩
set_option maxRecDepth 100000 in
set_option maxHeartbeats 1000000 in
theorem p26nth_go {S : ByteArray} {b : Nat} {x : Sc} {w : World} {i c m d : Int} {y1 y2 y3 y4 : Sc} (h : w.heap[b]? = some (scX S x)) (hT : WTab w) (HW : ∀ u : World, WTab u → Calls Tryz.prog 97 #[] u fun e w' => ∃ g cap, e = .returned (.slice (some ⟨g, 0, none⟩) 7 cap) ∧ StrsIn g cap lWd w' ∧ u.heap.size ≤ g ∧ Below u.heap.size u w') (H1 : ∀ (u : World) (g cap : Nat), u.heap[b]? = some (scX S x) → StrsIn g cap lWd u → g ≠ b → Calls Tryz.prog 59 #[pv b, .slice (some ⟨g, 0, none⟩) 7 cap] u fun r w' => r = .returned (.int .i64 i) ∧ w'.heap[b]? = some (scX S y1) ∧ Bt b u w') (H2 : ∀ u : World, u.heap[b]? = some (scX S y1) → Calls Tryz.prog 35 #[pv b, .string wSp] u fun r w' => r = .returned (.int .i64 c) ∧ w'.heap[b]? = some (scX S y2) ∧ Bt b u w') (H3 : ∀ u : World, u.heap[b]? = some (scX S y2) → Calls Tryz.prog 35 #[pv b, .string wSp] u fun r w' => r = .returned (.int .i64 m) ∧ w'.heap[b]? = some (scX S y3) ∧ Bt b u w') (H4 : ∀ u : World, u.heap[b]? = some (scX S y3) → Calls Tryz.prog 35 #[pv b, .string wLf] u fun r w' => r = .returned (.int .i64 d) ∧ w'.heap[b]? = some (scX S y4) ∧ Bt b u w') :
    Calls Tryz.prog 81 #[pv b] w fun r w' => r = .returned (.agg #[.int .i64 3, .int .i64 m, .int .i64 d, .int .i64 0, .int .i64 i, .int .i64 c]) ∧ w'.heap[b]? = some (scX S y4) ∧ Bt b w w' := by
  have HW := Lib.hid HW
  have H1 := Lib.hid H1
  have H2 := Lib.hid H2
  have H3 := Lib.hid H3
  have H4 := Lib.hid H4
  go_enter Tryz.func81, Tryz.ntmps81
  go_wp2_with fail
  obtain ⟨u, hu⟩ : ∃ u, u = (((w.alloc (.cells #[xp b] 59)).alloc (.cells #[.int .i64 0, .int .i64 0, .int .i64 0, .int .i64 0, .int .i64 0, .int .i64 0] 36)).alloc (.cells #[.int .i64 3, .int .i64 0, .int .i64 0, .int .i64 0, .int .i64 0, .int .i64 0] 36)) := ⟨_, rfl⟩
  have B0 : Below w.heap.size w u := hu ▸ al3 w _ _ _
  have rs := row_kept h B0
  have rP : u.heap[w.heap.size]? = some (.cells #[xp b] 59 (0, 0)) := hu ▸ row_on (heap_alloc_new _ _) (al2 _ _ _)
  have rR : u.heap[w.heap.size + 1]? = some (.cells #[.int .i64 0, .int .i64 0, .int .i64 0, .int .i64 0, .int .i64 0, .int .i64 0] 36 (0, 0)) := hu ▸ row_on (row_new1 _ _ _) (al1 _ _)
  have rQ : u.heap[w.heap.size + 1 + 1]? = some (.cells #[.int .i64 3, .int .i64 0, .int .i64 0, .int .i64 0, .int .i64 0, .int .i64 0] 36 (0, 0)) := hu ▸ row_new2 _ _ _ _
  rw [← hu]
  clear hu
  have hb := Bt.of_below (b := b) B0
  generalize hP : w.heap.size = P at *
  generalize hR : P + 1 = R at *
  generalize hQ : R + 1 = Q at *
  have lb : b < P := by have := row_lt h; omega
  have HT := Lib.hid ((hT.below B0 (by have := hT.heap; omega)).on (below_dn (Below.refl _ _) 1))
  clear hT
  have Hs := Lib.hid (show (u).drew.cell? ⟨P, 0, none⟩ = some (xp b) from by rw [cell_of_row (u).drew P 0 _ _ _ rP]; rfl)
  refine wp_region_held_drew (S := fun u => u.cell? ⟨P, 0, none⟩ = some (xp b)) (by kernel_rfl) Hs.out (fun hHeld => ?_)
  refine wpAnyH_take (i := 0) (oi := { dst := some 5, op := _, type := _, pos := _, after := _, guard := _ }) (v := ?v2_0) rfl (by kernel_rfl) (by kernel_rfl) (by kernel_rfl) (fun _ _ _ h => h) (Or.inl ⟨by rfl, ?hy2_0⟩) hHeld ?_
  case hy2_0 => (intro w hSw; (try dsimp only at hSw); go_simp; try with_reducible rfl)
  simp only [Act.put, List.setIfInBounds_toArray, List.set_cons_zero, List.set_cons_succ]
  refine wpAnyH_ready (rs := [1]) (by kernel_rfl) (by simp) ?_
  refine AllReadyH.cons (o := { dst := some 6, op := _, type := _, pos := _, after := _, guard := _ }) rfl (fun K hK => ?_) AllReadyH.nil
  go_simp
  go_at_call 97
  refine (HW.out _ HT.out).mono ?_
  rintro ee1 v1 ⟨g1, cap1, rfl, hI1, hg1, q1⟩
  refine hK.out _ _ (cell_below Hs.out q1) (fun hHeld => ?_)
  clear hK K
  have vP1 := row_kept (show (u).drew.heap[P]? = _ from rP) q1
  have vR1 := row_kept (show (u).drew.heap[R]? = _ from rR) q1
  have vQ1 := row_kept (show (u).drew.heap[Q]? = _ from rQ) q1
  have vs1 := row_kept (show (u).drew.heap[b]? = _ from rs) q1
  have vb1 := hb.drew.trans (Bt.of_below q1)
  refine wpAnyH_ready (rs := [2]) (by kernel_rfl) (by simp) ?_
  refine AllReadyH.cons (o := { dst := some 7, op := _, type := _, pos := _, after := _, guard := _ }) rfl (fun K hK => ?_) AllReadyH.nil
  go_simp
  go_at_call 59
  refine (H1.out v1 g1 cap1 vs1 hI1 (by have : (u.drewN 1).heap.size = u.heap.size := rfl; have := row_lt rs; omega)).mono ?_
  rintro ee2 v2 ⟨rfl, vs2, q2⟩
  refine hK.out _ _ (q2.cell (show P ≠ b by omega) (cell_below Hs.out q1)) (fun hHeld => ?_)
  clear hK K
  have vP2 := q2.row (show P ≠ b by omega) vP1
  have vR2 := q2.row (show R ≠ b by omega) vR1
  have vQ2 := q2.row (show Q ≠ b by omega) vQ1
  have vb2 := vb1.trans q2
  refine wpAnyH_take (i := 3) (oi := { dst := some 8, op := _, type := _, pos := _, after := _, guard := _ }) (v := ?v2_3) rfl (by kernel_rfl) (by kernel_rfl) (by kernel_rfl) (fun _ _ _ h => h) (Or.inl ⟨by rfl, ?hy2_3⟩) hHeld ?_
  case hy2_3 => (intro w hSw; (try dsimp only at hSw); go_simp; try with_reducible rfl)
  simp only [Act.put, List.setIfInBounds_toArray, List.set_cons_zero, List.set_cons_succ]
  have cQ4_10 : v2.cell? ⟨Q, 4, none⟩ = some (.int .i64 0) := by rw [cell_of_row _ Q 4 _ _ _ vQ2]; rfl
  have fQ4_10 : v2.frozen? ⟨Q, 4, none⟩ = false := frozen_of_row _ Q 4 _ _ vQ2
  have t1 : Bt Q v2 (v2.setCell ⟨Q, 4, none⟩ (.int .i64 i)) := Bt.sets Q [(.int .i64 i)] 4 v2
  have pQ1 : (v2.setCell ⟨Q, 4, none⟩ (.int .i64 i)).heap[Q]? = some (.cells #[.int .i64 3, .int .i64 0, .int .i64 0, .int .i64 0, .int .i64 i, .int .i64 0] 36 (0, 0)) := heap_setCell_same _ Q 4 _ _ _ vQ2
  have pP1 := t1.row (show P ≠ Q by omega) vP2
  have pR1 := t1.row (show R ≠ Q by omega) vR2
  have ps1 := t1.row (show b ≠ Q by omega) vs2
  have hbp1 := vb2.over t1 (show w.heap.size ≤ Q by omega)
  have cP0_11 : (v2.setCell ⟨Q, 4, none⟩ (.int .i64 i)).cell? ⟨P, 0, none⟩ = some (xp b) := by rw [cell_of_row _ P 0 _ _ _ pP1]; rfl
  refine wpAnyH_ready (rs := [4]) (by kernel_rfl) (by simp) ?_
  refine AllReadyH.cons (o := { dst := none, op := _, type := _, pos := _, after := _, guard := _ }) rfl (fun K hK => ?_) AllReadyH.nil
  go_simp
  refine hK.out _ _ (by rw [cell_of_row _ P 0 _ _ _ pP1]; rfl) (fun hHeld => ?_)
  clear hK K
  refine wpAnyH_done (by kernel_rfl) ?_ _
  go_wp2_with fail
  refine (H2.out (v2.setCell ⟨Q, 4, none⟩ (.int .i64 i)) ps1).mono ?_
  clear cQ4_10 fQ4_10 cP0_11
  rintro e12 w12 ⟨rfl, rs12, g12⟩
  have rP_12 := g12.row (show P ≠ b by omega) pP1
  have rR_12 := g12.row (show R ≠ b by omega) pR1
  have rQ_12 := g12.row (show Q ≠ b by omega) pQ1
  have hb12 := hbp1.trans g12
  have cQ5_12 : w12.cell? ⟨Q, 5, none⟩ = some (.int .i64 0) := by rw [cell_of_row _ Q 5 _ _ _ rQ_12]; rfl
  have fQ5_12 : w12.frozen? ⟨Q, 5, none⟩ = false := frozen_of_row _ Q 5 _ _ rQ_12
  have t2 : Bt Q w12 (w12.setCell ⟨Q, 5, none⟩ (.int .i64 c)) := Bt.sets Q [(.int .i64 c)] 5 w12
  have pQ2 : (w12.setCell ⟨Q, 5, none⟩ (.int .i64 c)).heap[Q]? = some (.cells #[.int .i64 3, .int .i64 0, .int .i64 0, .int .i64 0, .int .i64 i, .int .i64 c] 36 (0, 0)) := heap_setCell_same _ Q 5 _ _ _ rQ_12
  have pP2 := t2.row (show P ≠ Q by omega) rP_12
  have pR2 := t2.row (show R ≠ Q by omega) rR_12
  have ps2 := t2.row (show b ≠ Q by omega) rs12
  have hbp2 := hb12.over t2 (show w.heap.size ≤ Q by omega)
  have cP0_13 : (w12.setCell ⟨Q, 5, none⟩ (.int .i64 c)).cell? ⟨P, 0, none⟩ = some (xp b) := by rw [cell_of_row _ P 0 _ _ _ pP2]; rfl
  go_wp2_with fail
  refine (H3.out (w12.setCell ⟨Q, 5, none⟩ (.int .i64 c)) ps2).mono ?_
  clear cQ5_12 fQ5_12 cP0_13
  rintro e14 w14 ⟨rfl, rs14, g14⟩
  have rP_14 := g14.row (show P ≠ b by omega) pP2
  have rR_14 := g14.row (show R ≠ b by omega) pR2
  have rQ_14 := g14.row (show Q ≠ b by omega) pQ2
  have hb14 := hbp2.trans g14
  have cQ1_14 : w14.cell? ⟨Q, 1, none⟩ = some (.int .i64 0) := by rw [cell_of_row _ Q 1 _ _ _ rQ_14]; rfl
  have fQ1_14 : w14.frozen? ⟨Q, 1, none⟩ = false := frozen_of_row _ Q 1 _ _ rQ_14
  have t3 : Bt Q w14 (w14.setCell ⟨Q, 1, none⟩ (.int .i64 m)) := Bt.sets Q [(.int .i64 m)] 1 w14
  have pQ3 : (w14.setCell ⟨Q, 1, none⟩ (.int .i64 m)).heap[Q]? = some (.cells #[.int .i64 3, .int .i64 m, .int .i64 0, .int .i64 0, .int .i64 i, .int .i64 c] 36 (0, 0)) := heap_setCell_same _ Q 1 _ _ _ rQ_14
  have pP3 := t3.row (show P ≠ Q by omega) rP_14
  have pR3 := t3.row (show R ≠ Q by omega) rR_14
  have ps3 := t3.row (show b ≠ Q by omega) rs14
  have hbp3 := hb14.over t3 (show w.heap.size ≤ Q by omega)
  have cP0_15 : (w14.setCell ⟨Q, 1, none⟩ (.int .i64 m)).cell? ⟨P, 0, none⟩ = some (xp b) := by rw [cell_of_row _ P 0 _ _ _ pP3]; rfl
  go_wp2_with fail
  refine (H4.out (w14.setCell ⟨Q, 1, none⟩ (.int .i64 m)) ps3).mono ?_
  clear cQ1_14 fQ1_14 cP0_15
  rintro e16 w16 ⟨rfl, rs16, g16⟩
  have rP_16 := g16.row (show P ≠ b by omega) pP3
  have rR_16 := g16.row (show R ≠ b by omega) pR3
  have rQ_16 := g16.row (show Q ≠ b by omega) pQ3
  have hb16 := hbp3.trans g16
  have cQ2_16 : w16.cell? ⟨Q, 2, none⟩ = some (.int .i64 0) := by rw [cell_of_row _ Q 2 _ _ _ rQ_16]; rfl
  have fQ2_16 : w16.frozen? ⟨Q, 2, none⟩ = false := frozen_of_row _ Q 2 _ _ rQ_16
  have t4 : Bt Q w16 (w16.setCell ⟨Q, 2, none⟩ (.int .i64 d)) := Bt.sets Q [(.int .i64 d)] 2 w16
  have pQ4 : (w16.setCell ⟨Q, 2, none⟩ (.int .i64 d)).heap[Q]? = some (.cells #[.int .i64 3, .int .i64 m, .int .i64 d, .int .i64 0, .int .i64 i, .int .i64 c] 36 (0, 0)) := heap_setCell_same _ Q 2 _ _ _ rQ_16
  have pP4 := t4.row (show P ≠ Q by omega) rP_16
  have pR4 := t4.row (show R ≠ Q by omega) rR_16
  have ps4 := t4.row (show b ≠ Q by omega) rs16
  have hbp4 := hb16.over t4 (show w.heap.size ≤ Q by omega)
  have cQ0_17 : (w16.setCell ⟨Q, 2, none⟩ (.int .i64 d)).cell? ⟨Q, 0, none⟩ = some (.int .i64 3) := by rw [cell_of_row _ Q 0 _ _ _ pQ4]; rfl
  have cQ1_17 : (w16.setCell ⟨Q, 2, none⟩ (.int .i64 d)).cell? ⟨Q, 1, none⟩ = some (.int .i64 m) := by rw [cell_of_row _ Q 1 _ _ _ pQ4]; rfl
  have cQ2_17 : (w16.setCell ⟨Q, 2, none⟩ (.int .i64 d)).cell? ⟨Q, 2, none⟩ = some (.int .i64 d) := by rw [cell_of_row _ Q 2 _ _ _ pQ4]; rfl
  have cQ3_17 : (w16.setCell ⟨Q, 2, none⟩ (.int .i64 d)).cell? ⟨Q, 3, none⟩ = some (.int .i64 0) := by rw [cell_of_row _ Q 3 _ _ _ pQ4]; rfl
  have cQ4_17 : (w16.setCell ⟨Q, 2, none⟩ (.int .i64 d)).cell? ⟨Q, 4, none⟩ = some (.int .i64 i) := by rw [cell_of_row _ Q 4 _ _ _ pQ4]; rfl
  have cQ5_17 : (w16.setCell ⟨Q, 2, none⟩ (.int .i64 d)).cell? ⟨Q, 5, none⟩ = some (.int .i64 c) := by rw [cell_of_row _ Q 5 _ _ _ pQ4]; rfl
  have cR0_17 : (w16.setCell ⟨Q, 2, none⟩ (.int .i64 d)).cell? ⟨R, 0, none⟩ = some (.int .i64 0) := by rw [cell_of_row _ R 0 _ _ _ pR4]; rfl
  have fR0_17 : (w16.setCell ⟨Q, 2, none⟩ (.int .i64 d)).frozen? ⟨R, 0, none⟩ = false := frozen_of_row _ R 0 _ _ pR4
  have cR1_17 : (w16.setCell ⟨Q, 2, none⟩ (.int .i64 d)).cell? ⟨R, 1, none⟩ = some (.int .i64 0) := by rw [cell_of_row _ R 1 _ _ _ pR4]; rfl
  have fR1_17 : (w16.setCell ⟨Q, 2, none⟩ (.int .i64 d)).frozen? ⟨R, 1, none⟩ = false := frozen_of_row _ R 1 _ _ pR4
  have cR2_17 : (w16.setCell ⟨Q, 2, none⟩ (.int .i64 d)).cell? ⟨R, 2, none⟩ = some (.int .i64 0) := by rw [cell_of_row _ R 2 _ _ _ pR4]; rfl
  have fR2_17 : (w16.setCell ⟨Q, 2, none⟩ (.int .i64 d)).frozen? ⟨R, 2, none⟩ = false := frozen_of_row _ R 2 _ _ pR4
  have cR3_17 : (w16.setCell ⟨Q, 2, none⟩ (.int .i64 d)).cell? ⟨R, 3, none⟩ = some (.int .i64 0) := by rw [cell_of_row _ R 3 _ _ _ pR4]; rfl
  have fR3_17 : (w16.setCell ⟨Q, 2, none⟩ (.int .i64 d)).frozen? ⟨R, 3, none⟩ = false := frozen_of_row _ R 3 _ _ pR4
  have cR4_17 : (w16.setCell ⟨Q, 2, none⟩ (.int .i64 d)).cell? ⟨R, 4, none⟩ = some (.int .i64 0) := by rw [cell_of_row _ R 4 _ _ _ pR4]; rfl
  have fR4_17 : (w16.setCell ⟨Q, 2, none⟩ (.int .i64 d)).frozen? ⟨R, 4, none⟩ = false := frozen_of_row _ R 4 _ _ pR4
  have cR5_17 : (w16.setCell ⟨Q, 2, none⟩ (.int .i64 d)).cell? ⟨R, 5, none⟩ = some (.int .i64 0) := by rw [cell_of_row _ R 5 _ _ _ pR4]; rfl
  have fR5_17 : (w16.setCell ⟨Q, 2, none⟩ (.int .i64 d)).frozen? ⟨R, 5, none⟩ = false := frozen_of_row _ R 5 _ _ pR4
  have t5 : Bt R (w16.setCell ⟨Q, 2, none⟩ (.int .i64 d)) (((((((w16.setCell ⟨Q, 2, none⟩ (.int .i64 d)).setCell ⟨R, 0, none⟩ (.int .i64 3)).setCell ⟨R, 1, none⟩ (.int .i64 m)).setCell ⟨R, 2, none⟩ (.int .i64 d)).setCell ⟨R, 3, none⟩ (.int .i64 0)).setCell ⟨R, 4, none⟩ (.int .i64 i)).setCell ⟨R, 5, none⟩ (.int .i64 c)) := Bt.sets R [(.int .i64 3), (.int .i64 m), (.int .i64 d), (.int .i64 0), (.int .i64 i), (.int .i64 c)] 0 (w16.setCell ⟨Q, 2, none⟩ (.int .i64 d))
  have pR5 : (((((((w16.setCell ⟨Q, 2, none⟩ (.int .i64 d)).setCell ⟨R, 0, none⟩ (.int .i64 3)).setCell ⟨R, 1, none⟩ (.int .i64 m)).setCell ⟨R, 2, none⟩ (.int .i64 d)).setCell ⟨R, 3, none⟩ (.int .i64 0)).setCell ⟨R, 4, none⟩ (.int .i64 i)).setCell ⟨R, 5, none⟩ (.int .i64 c)).heap[R]? = some (.cells #[.int .i64 3, .int .i64 m, .int .i64 d, .int .i64 0, .int .i64 i, .int .i64 c] 36 (0, 0)) := anc_all (.int .i64 3) (.int .i64 m) (.int .i64 d) (.int .i64 0) (.int .i64 i) (.int .i64 c) pR4
  have pP5 := t5.row (show P ≠ R by omega) pP4
  have pQ5 := t5.row (show Q ≠ R by omega) pQ4
  have ps5 := t5.row (show b ≠ R by omega) ps4
  have hbp5 := hbp4.over t5 (show w.heap.size ≤ R by omega)
  go_wp2_with fail
  obtain ⟨u9, hu9⟩ : ∃ u9, u9 = (((((((w16.setCell ⟨Q, 2, none⟩ (.int .i64 d)).setCell ⟨R, 0, none⟩ (.int .i64 3)).setCell ⟨R, 1, none⟩ (.int .i64 m)).setCell ⟨R, 2, none⟩ (.int .i64 d)).setCell ⟨R, 3, none⟩ (.int .i64 0)).setCell ⟨R, 4, none⟩ (.int .i64 i)).setCell ⟨R, 5, none⟩ (.int .i64 c)) := ⟨_, rfl⟩
  rw [← hu9] at pR5 ps5 hbp5 ⊢
  have k0 : u9.cell? ⟨R, 0, none⟩ = some (.int .i64 3) := by rw [cell_of_row _ R 0 _ _ _ pR5]; rfl
  have k1 : u9.cell? ⟨R, 1, none⟩ = some (.int .i64 m) := by rw [cell_of_row _ R 1 _ _ _ pR5]; rfl
  have k2 : u9.cell? ⟨R, 2, none⟩ = some (.int .i64 d) := by rw [cell_of_row _ R 2 _ _ _ pR5]; rfl
  have k3 : u9.cell? ⟨R, 3, none⟩ = some (.int .i64 0) := by rw [cell_of_row _ R 3 _ _ _ pR5]; rfl
  have k4 : u9.cell? ⟨R, 4, none⟩ = some (.int .i64 i) := by rw [cell_of_row _ R 4 _ _ _ pR5]; rfl
  have k5 : u9.cell? ⟨R, 5, none⟩ = some (.int .i64 c) := by rw [cell_of_row _ R 5 _ _ _ pR5]; rfl
  exact bodyPost_ret (v := .agg #[.int .i64 3, .int .i64 m, .int .i64 d, .int .i64 0, .int .i64 i, .int .i64 c]) (by simp [results, Tryz.results81, go_sem, k0, k1, k2, k3, k4, k5]) rfl ⟨rfl, ps5, hbp5⟩
set_option maxRecDepth 100000 in
set_option maxHeartbeats 1000000 in
theorem p26anc_go0 {S : ByteArray} {b : Nat} {x : Sc} {w : World} {k m d o q c : Int} {y1 y2 : Sc} (h : w.heap[b]? = some (scX S x)) (H1 : ∀ u : World, u.heap[b]? = some (scX S x) → Calls Tryz.prog 59 #[pv b, .slice (some ⟨u.heap.size, 0, none⟩) 3 3] (u.alloc (.cells #[.string ⟨#[102, 105, 120, 101, 100]⟩, .string ⟨#[101, 97, 115, 116, 101, 114]⟩, .string ⟨#[110, 116, 104]⟩] 9)) fun r w' => r = .returned (.int .i64 0) ∧ w'.heap[b]? = some (scX S y1) ∧ Bt b u w') (H2 : ∀ u : World, u.heap[b]? = some (scX S y1) → Calls Tryz.prog 79 #[pv b] u fun r w' => r = .returned (.agg #[.int .i64 k, .int .i64 m, .int .i64 d, .int .i64 o, .int .i64 q, .int .i64 c]) ∧ w'.heap[b]? = some (scX S y2) ∧ Bt b u w') :
    Calls Tryz.prog 58 #[pv b] w fun r w' => r = .returned (.agg #[.int .i64 k, .int .i64 m, .int .i64 d, .int .i64 o, .int .i64 q, .int .i64 c]) ∧ w'.heap[b]? = some (scX S y2) ∧ Bt b w w' := by
  have H1 := Lib.hid H1
  have H2 := Lib.hid H2
  go_enter Tryz.func58, Tryz.ntmps58
  go_wp2_with fail
  obtain ⟨u, hu⟩ : ∃ u, u = ((w.alloc (.cells #[xp b] 59)).alloc (.cells #[.int .i64 0, .int .i64 0, .int .i64 0, .int .i64 0, .int .i64 0, .int .i64 0] 36)) := ⟨_, rfl⟩
  have B0 : Below w.heap.size w u := hu ▸ al2 w _ _
  have rs := row_kept h B0
  have rP : u.heap[w.heap.size]? = some (.cells #[xp b] 59 (0, 0)) := hu ▸ row_on (heap_alloc_new _ _) (al1 _ _)
  have rR : u.heap[w.heap.size + 1]? = some (.cells #[.int .i64 0, .int .i64 0, .int .i64 0, .int .i64 0, .int .i64 0, .int .i64 0] 36 (0, 0)) := hu ▸ row_new1 _ _ _
  have hz : w.heap.size + 1 + 1 = u.heap.size := by rw [hu]; simp
  rw [← hu]
  clear hu
  have hb := Bt.of_below (b := b) B0
  generalize hP : w.heap.size = P at *
  generalize hR : P + 1 = R at *
  have lb : b < P := by have := row_lt h; omega
  rw [hz]
  clear hz
  have cP0_0 : u.cell? ⟨P, 0, none⟩ = some (xp b) := by rw [cell_of_row _ P 0 _ _ _ rP]; rfl
  refine (H1.out u rs).mono ?_
  clear cP0_0
  rintro e1 w1 ⟨rfl, rs1, g1⟩
  have rP_1 := g1.row (show P ≠ b by omega) rP
  have rR_1 := g1.row (show R ≠ b by omega) rR
  have hb1 := hb.trans g1
  have cP0_1 : w1.cell? ⟨P, 0, none⟩ = some (xp b) := by rw [cell_of_row _ P 0 _ _ _ rP_1]; rfl
  go_wp2_with fail
  refine (H2.out w1 rs1).mono ?_
  clear cP0_1
  rintro e2 w2 ⟨rfl, rs2, g2⟩
  have rP_2 := g2.row (show P ≠ b by omega) rP_1
  have rR_2 := g2.row (show R ≠ b by omega) rR_1
  have hb2 := hb1.trans g2
  have cR0_2 : w2.cell? ⟨R, 0, none⟩ = some (.int .i64 0) := by rw [cell_of_row _ R 0 _ _ _ rR_2]; rfl
  have fR0_2 : w2.frozen? ⟨R, 0, none⟩ = false := frozen_of_row _ R 0 _ _ rR_2
  have cR1_2 : w2.cell? ⟨R, 1, none⟩ = some (.int .i64 0) := by rw [cell_of_row _ R 1 _ _ _ rR_2]; rfl
  have fR1_2 : w2.frozen? ⟨R, 1, none⟩ = false := frozen_of_row _ R 1 _ _ rR_2
  have cR2_2 : w2.cell? ⟨R, 2, none⟩ = some (.int .i64 0) := by rw [cell_of_row _ R 2 _ _ _ rR_2]; rfl
  have fR2_2 : w2.frozen? ⟨R, 2, none⟩ = false := frozen_of_row _ R 2 _ _ rR_2
  have cR3_2 : w2.cell? ⟨R, 3, none⟩ = some (.int .i64 0) := by rw [cell_of_row _ R 3 _ _ _ rR_2]; rfl
  have fR3_2 : w2.frozen? ⟨R, 3, none⟩ = false := frozen_of_row _ R 3 _ _ rR_2
  have cR4_2 : w2.cell? ⟨R, 4, none⟩ = some (.int .i64 0) := by rw [cell_of_row _ R 4 _ _ _ rR_2]; rfl
  have fR4_2 : w2.frozen? ⟨R, 4, none⟩ = false := frozen_of_row _ R 4 _ _ rR_2
  have cR5_2 : w2.cell? ⟨R, 5, none⟩ = some (.int .i64 0) := by rw [cell_of_row _ R 5 _ _ _ rR_2]; rfl
  have fR5_2 : w2.frozen? ⟨R, 5, none⟩ = false := frozen_of_row _ R 5 _ _ rR_2
  have t1 : Bt R w2 ((((((w2.setCell ⟨R, 0, none⟩ (.int .i64 k)).setCell ⟨R, 1, none⟩ (.int .i64 m)).setCell ⟨R, 2, none⟩ (.int .i64 d)).setCell ⟨R, 3, none⟩ (.int .i64 o)).setCell ⟨R, 4, none⟩ (.int .i64 q)).setCell ⟨R, 5, none⟩ (.int .i64 c)) := Bt.sets R [(.int .i64 k), (.int .i64 m), (.int .i64 d), (.int .i64 o), (.int .i64 q), (.int .i64 c)] 0 w2
  have pR1 : ((((((w2.setCell ⟨R, 0, none⟩ (.int .i64 k)).setCell ⟨R, 1, none⟩ (.int .i64 m)).setCell ⟨R, 2, none⟩ (.int .i64 d)).setCell ⟨R, 3, none⟩ (.int .i64 o)).setCell ⟨R, 4, none⟩ (.int .i64 q)).setCell ⟨R, 5, none⟩ (.int .i64 c)).heap[R]? = some (.cells #[.int .i64 k, .int .i64 m, .int .i64 d, .int .i64 o, .int .i64 q, .int .i64 c] 36 (0, 0)) := anc_all (.int .i64 k) (.int .i64 m) (.int .i64 d) (.int .i64 o) (.int .i64 q) (.int .i64 c) rR_2
  have pP1 := t1.row (show P ≠ R by omega) rP_2
  have ps1 := t1.row (show b ≠ R by omega) rs2
  have hbp1 := hb2.over t1 (show w.heap.size ≤ R by omega)
  go_wp2_with fail
  obtain ⟨u9, hu9⟩ : ∃ u9, u9 = ((((((w2.setCell ⟨R, 0, none⟩ (.int .i64 k)).setCell ⟨R, 1, none⟩ (.int .i64 m)).setCell ⟨R, 2, none⟩ (.int .i64 d)).setCell ⟨R, 3, none⟩ (.int .i64 o)).setCell ⟨R, 4, none⟩ (.int .i64 q)).setCell ⟨R, 5, none⟩ (.int .i64 c)) := ⟨_, rfl⟩
  rw [← hu9] at pR1 ps1 hbp1 ⊢
  have k0 : u9.cell? ⟨R, 0, none⟩ = some (.int .i64 k) := by rw [cell_of_row _ R 0 _ _ _ pR1]; rfl
  have k1 : u9.cell? ⟨R, 1, none⟩ = some (.int .i64 m) := by rw [cell_of_row _ R 1 _ _ _ pR1]; rfl
  have k2 : u9.cell? ⟨R, 2, none⟩ = some (.int .i64 d) := by rw [cell_of_row _ R 2 _ _ _ pR1]; rfl
  have k3 : u9.cell? ⟨R, 3, none⟩ = some (.int .i64 o) := by rw [cell_of_row _ R 3 _ _ _ pR1]; rfl
  have k4 : u9.cell? ⟨R, 4, none⟩ = some (.int .i64 q) := by rw [cell_of_row _ R 4 _ _ _ pR1]; rfl
  have k5 : u9.cell? ⟨R, 5, none⟩ = some (.int .i64 c) := by rw [cell_of_row _ R 5 _ _ _ pR1]; rfl
  exact bodyPost_ret (v := .agg #[.int .i64 k, .int .i64 m, .int .i64 d, .int .i64 o, .int .i64 q, .int .i64 c]) (by simp [results, Tryz.results58, go_sem, k0, k1, k2, k3, k4, k5]) rfl ⟨rfl, ps1, hbp1⟩
set_option maxRecDepth 100000 in
set_option maxHeartbeats 1000000 in
theorem p26anc_go1 {S : ByteArray} {b : Nat} {x : Sc} {w : World} {k m d o q c : Int} {y1 y2 : Sc} (h : w.heap[b]? = some (scX S x)) (H1 : ∀ u : World, u.heap[b]? = some (scX S x) → Calls Tryz.prog 59 #[pv b, .slice (some ⟨u.heap.size, 0, none⟩) 3 3] (u.alloc (.cells #[.string ⟨#[102, 105, 120, 101, 100]⟩, .string ⟨#[101, 97, 115, 116, 101, 114]⟩, .string ⟨#[110, 116, 104]⟩] 9)) fun r w' => r = .returned (.int .i64 1) ∧ w'.heap[b]? = some (scX S y1) ∧ Bt b u w') (H2 : ∀ u : World, u.heap[b]? = some (scX S y1) → Calls Tryz.prog 80 #[pv b] u fun r w' => r = .returned (.agg #[.int .i64 k, .int .i64 m, .int .i64 d, .int .i64 o, .int .i64 q, .int .i64 c]) ∧ w'.heap[b]? = some (scX S y2) ∧ Bt b u w') :
    Calls Tryz.prog 58 #[pv b] w fun r w' => r = .returned (.agg #[.int .i64 k, .int .i64 m, .int .i64 d, .int .i64 o, .int .i64 q, .int .i64 c]) ∧ w'.heap[b]? = some (scX S y2) ∧ Bt b w w' := by
  have H1 := Lib.hid H1
  have H2 := Lib.hid H2
  go_enter Tryz.func58, Tryz.ntmps58
  go_wp2_with fail
  obtain ⟨u, hu⟩ : ∃ u, u = ((w.alloc (.cells #[xp b] 59)).alloc (.cells #[.int .i64 0, .int .i64 0, .int .i64 0, .int .i64 0, .int .i64 0, .int .i64 0] 36)) := ⟨_, rfl⟩
  have B0 : Below w.heap.size w u := hu ▸ al2 w _ _
  have rs := row_kept h B0
  have rP : u.heap[w.heap.size]? = some (.cells #[xp b] 59 (0, 0)) := hu ▸ row_on (heap_alloc_new _ _) (al1 _ _)
  have rR : u.heap[w.heap.size + 1]? = some (.cells #[.int .i64 0, .int .i64 0, .int .i64 0, .int .i64 0, .int .i64 0, .int .i64 0] 36 (0, 0)) := hu ▸ row_new1 _ _ _
  have hz : w.heap.size + 1 + 1 = u.heap.size := by rw [hu]; simp
  rw [← hu]
  clear hu
  have hb := Bt.of_below (b := b) B0
  generalize hP : w.heap.size = P at *
  generalize hR : P + 1 = R at *
  have lb : b < P := by have := row_lt h; omega
  rw [hz]
  clear hz
  have cP0_0 : u.cell? ⟨P, 0, none⟩ = some (xp b) := by rw [cell_of_row _ P 0 _ _ _ rP]; rfl
  refine (H1.out u rs).mono ?_
  clear cP0_0
  rintro e1 w1 ⟨rfl, rs1, g1⟩
  have rP_1 := g1.row (show P ≠ b by omega) rP
  have rR_1 := g1.row (show R ≠ b by omega) rR
  have hb1 := hb.trans g1
  have cP0_1 : w1.cell? ⟨P, 0, none⟩ = some (xp b) := by rw [cell_of_row _ P 0 _ _ _ rP_1]; rfl
  go_wp2_with fail
  refine (H2.out w1 rs1).mono ?_
  clear cP0_1
  rintro e2 w2 ⟨rfl, rs2, g2⟩
  have rP_2 := g2.row (show P ≠ b by omega) rP_1
  have rR_2 := g2.row (show R ≠ b by omega) rR_1
  have hb2 := hb1.trans g2
  have cR0_2 : w2.cell? ⟨R, 0, none⟩ = some (.int .i64 0) := by rw [cell_of_row _ R 0 _ _ _ rR_2]; rfl
  have fR0_2 : w2.frozen? ⟨R, 0, none⟩ = false := frozen_of_row _ R 0 _ _ rR_2
  have cR1_2 : w2.cell? ⟨R, 1, none⟩ = some (.int .i64 0) := by rw [cell_of_row _ R 1 _ _ _ rR_2]; rfl
  have fR1_2 : w2.frozen? ⟨R, 1, none⟩ = false := frozen_of_row _ R 1 _ _ rR_2
  have cR2_2 : w2.cell? ⟨R, 2, none⟩ = some (.int .i64 0) := by rw [cell_of_row _ R 2 _ _ _ rR_2]; rfl
  have fR2_2 : w2.frozen? ⟨R, 2, none⟩ = false := frozen_of_row _ R 2 _ _ rR_2
  have cR3_2 : w2.cell? ⟨R, 3, none⟩ = some (.int .i64 0) := by rw [cell_of_row _ R 3 _ _ _ rR_2]; rfl
  have fR3_2 : w2.frozen? ⟨R, 3, none⟩ = false := frozen_of_row _ R 3 _ _ rR_2
  have cR4_2 : w2.cell? ⟨R, 4, none⟩ = some (.int .i64 0) := by rw [cell_of_row _ R 4 _ _ _ rR_2]; rfl
  have fR4_2 : w2.frozen? ⟨R, 4, none⟩ = false := frozen_of_row _ R 4 _ _ rR_2
  have cR5_2 : w2.cell? ⟨R, 5, none⟩ = some (.int .i64 0) := by rw [cell_of_row _ R 5 _ _ _ rR_2]; rfl
  have fR5_2 : w2.frozen? ⟨R, 5, none⟩ = false := frozen_of_row _ R 5 _ _ rR_2
  have t1 : Bt R w2 ((((((w2.setCell ⟨R, 0, none⟩ (.int .i64 k)).setCell ⟨R, 1, none⟩ (.int .i64 m)).setCell ⟨R, 2, none⟩ (.int .i64 d)).setCell ⟨R, 3, none⟩ (.int .i64 o)).setCell ⟨R, 4, none⟩ (.int .i64 q)).setCell ⟨R, 5, none⟩ (.int .i64 c)) := Bt.sets R [(.int .i64 k), (.int .i64 m), (.int .i64 d), (.int .i64 o), (.int .i64 q), (.int .i64 c)] 0 w2
  have pR1 : ((((((w2.setCell ⟨R, 0, none⟩ (.int .i64 k)).setCell ⟨R, 1, none⟩ (.int .i64 m)).setCell ⟨R, 2, none⟩ (.int .i64 d)).setCell ⟨R, 3, none⟩ (.int .i64 o)).setCell ⟨R, 4, none⟩ (.int .i64 q)).setCell ⟨R, 5, none⟩ (.int .i64 c)).heap[R]? = some (.cells #[.int .i64 k, .int .i64 m, .int .i64 d, .int .i64 o, .int .i64 q, .int .i64 c] 36 (0, 0)) := anc_all (.int .i64 k) (.int .i64 m) (.int .i64 d) (.int .i64 o) (.int .i64 q) (.int .i64 c) rR_2
  have pP1 := t1.row (show P ≠ R by omega) rP_2
  have ps1 := t1.row (show b ≠ R by omega) rs2
  have hbp1 := hb2.over t1 (show w.heap.size ≤ R by omega)
  go_wp2_with fail
  obtain ⟨u9, hu9⟩ : ∃ u9, u9 = ((((((w2.setCell ⟨R, 0, none⟩ (.int .i64 k)).setCell ⟨R, 1, none⟩ (.int .i64 m)).setCell ⟨R, 2, none⟩ (.int .i64 d)).setCell ⟨R, 3, none⟩ (.int .i64 o)).setCell ⟨R, 4, none⟩ (.int .i64 q)).setCell ⟨R, 5, none⟩ (.int .i64 c)) := ⟨_, rfl⟩
  rw [← hu9] at pR1 ps1 hbp1 ⊢
  have k0 : u9.cell? ⟨R, 0, none⟩ = some (.int .i64 k) := by rw [cell_of_row _ R 0 _ _ _ pR1]; rfl
  have k1 : u9.cell? ⟨R, 1, none⟩ = some (.int .i64 m) := by rw [cell_of_row _ R 1 _ _ _ pR1]; rfl
  have k2 : u9.cell? ⟨R, 2, none⟩ = some (.int .i64 d) := by rw [cell_of_row _ R 2 _ _ _ pR1]; rfl
  have k3 : u9.cell? ⟨R, 3, none⟩ = some (.int .i64 o) := by rw [cell_of_row _ R 3 _ _ _ pR1]; rfl
  have k4 : u9.cell? ⟨R, 4, none⟩ = some (.int .i64 q) := by rw [cell_of_row _ R 4 _ _ _ pR1]; rfl
  have k5 : u9.cell? ⟨R, 5, none⟩ = some (.int .i64 c) := by rw [cell_of_row _ R 5 _ _ _ pR1]; rfl
  exact bodyPost_ret (v := .agg #[.int .i64 k, .int .i64 m, .int .i64 d, .int .i64 o, .int .i64 q, .int .i64 c]) (by simp [results, Tryz.results58, go_sem, k0, k1, k2, k3, k4, k5]) rfl ⟨rfl, ps1, hbp1⟩
set_option maxRecDepth 100000 in
set_option maxHeartbeats 1000000 in
theorem p26anc_go2 {S : ByteArray} {b : Nat} {x : Sc} {w : World} {k m d o q c : Int} {y1 y2 : Sc} (h : w.heap[b]? = some (scX S x)) (hT : WTab w) (H1 : ∀ u : World, u.heap[b]? = some (scX S x) → Calls Tryz.prog 59 #[pv b, .slice (some ⟨u.heap.size, 0, none⟩) 3 3] (u.alloc (.cells #[.string ⟨#[102, 105, 120, 101, 100]⟩, .string ⟨#[101, 97, 115, 116, 101, 114]⟩, .string ⟨#[110, 116, 104]⟩] 9)) fun r w' => r = .returned (.int .i64 2) ∧ w'.heap[b]? = some (scX S y1) ∧ Bt b u w') (H2 : ∀ u : World, u.heap[b]? = some (scX S y1) → WTab u → Calls Tryz.prog 81 #[pv b] u fun r w' => r = .returned (.agg #[.int .i64 k, .int .i64 m, .int .i64 d, .int .i64 o, .int .i64 q, .int .i64 c]) ∧ w'.heap[b]? = some (scX S y2) ∧ Bt b u w') :
    Calls Tryz.prog 58 #[pv b] w fun r w' => r = .returned (.agg #[.int .i64 k, .int .i64 m, .int .i64 d, .int .i64 o, .int .i64 q, .int .i64 c]) ∧ w'.heap[b]? = some (scX S y2) ∧ Bt b w w' := by
  have H1 := Lib.hid H1
  have H2 := Lib.hid H2
  go_enter Tryz.func58, Tryz.ntmps58
  go_wp2_with fail
  obtain ⟨u, hu⟩ : ∃ u, u = ((w.alloc (.cells #[xp b] 59)).alloc (.cells #[.int .i64 0, .int .i64 0, .int .i64 0, .int .i64 0, .int .i64 0, .int .i64 0] 36)) := ⟨_, rfl⟩
  have B0 : Below w.heap.size w u := hu ▸ al2 w _ _
  have rs := row_kept h B0
  have rP : u.heap[w.heap.size]? = some (.cells #[xp b] 59 (0, 0)) := hu ▸ row_on (heap_alloc_new _ _) (al1 _ _)
  have rR : u.heap[w.heap.size + 1]? = some (.cells #[.int .i64 0, .int .i64 0, .int .i64 0, .int .i64 0, .int .i64 0, .int .i64 0] 36 (0, 0)) := hu ▸ row_new1 _ _ _
  have hz : w.heap.size + 1 + 1 = u.heap.size := by rw [hu]; simp
  rw [← hu]
  clear hu
  have hb := Bt.of_below (b := b) B0
  generalize hP : w.heap.size = P at *
  generalize hR : P + 1 = R at *
  have lb : b < P := by have := row_lt h; omega
  rw [hz]
  clear hz
  have cP0_0 : u.cell? ⟨P, 0, none⟩ = some (xp b) := by rw [cell_of_row _ P 0 _ _ _ rP]; rfl
  have HT := Lib.hid (hT.below B0 (by have := hT.heap; omega))
  refine (H1.out u rs).mono ?_
  clear cP0_0
  rintro e1 w1 ⟨rfl, rs1, g1⟩
  have rP_1 := g1.row (show P ≠ b by omega) rP
  have rR_1 := g1.row (show R ≠ b by omega) rR
  have hb1 := hb.trans g1
  have cP0_1 : w1.cell? ⟨P, 0, none⟩ = some (xp b) := by rw [cell_of_row _ P 0 _ _ _ rP_1]; rfl
  have HT1 := Lib.hid (HT.out.mv g1 (ne_scan HT.out rs))
  go_wp2_with fail
  refine (H2.out w1 rs1 HT1.out).mono ?_
  clear cP0_1
  rintro e2 w2 ⟨rfl, rs2, g2⟩
  have rP_2 := g2.row (show P ≠ b by omega) rP_1
  have rR_2 := g2.row (show R ≠ b by omega) rR_1
  have hb2 := hb1.trans g2
  have cR0_2 : w2.cell? ⟨R, 0, none⟩ = some (.int .i64 0) := by rw [cell_of_row _ R 0 _ _ _ rR_2]; rfl
  have fR0_2 : w2.frozen? ⟨R, 0, none⟩ = false := frozen_of_row _ R 0 _ _ rR_2
  have cR1_2 : w2.cell? ⟨R, 1, none⟩ = some (.int .i64 0) := by rw [cell_of_row _ R 1 _ _ _ rR_2]; rfl
  have fR1_2 : w2.frozen? ⟨R, 1, none⟩ = false := frozen_of_row _ R 1 _ _ rR_2
  have cR2_2 : w2.cell? ⟨R, 2, none⟩ = some (.int .i64 0) := by rw [cell_of_row _ R 2 _ _ _ rR_2]; rfl
  have fR2_2 : w2.frozen? ⟨R, 2, none⟩ = false := frozen_of_row _ R 2 _ _ rR_2
  have cR3_2 : w2.cell? ⟨R, 3, none⟩ = some (.int .i64 0) := by rw [cell_of_row _ R 3 _ _ _ rR_2]; rfl
  have fR3_2 : w2.frozen? ⟨R, 3, none⟩ = false := frozen_of_row _ R 3 _ _ rR_2
  have cR4_2 : w2.cell? ⟨R, 4, none⟩ = some (.int .i64 0) := by rw [cell_of_row _ R 4 _ _ _ rR_2]; rfl
  have fR4_2 : w2.frozen? ⟨R, 4, none⟩ = false := frozen_of_row _ R 4 _ _ rR_2
  have cR5_2 : w2.cell? ⟨R, 5, none⟩ = some (.int .i64 0) := by rw [cell_of_row _ R 5 _ _ _ rR_2]; rfl
  have fR5_2 : w2.frozen? ⟨R, 5, none⟩ = false := frozen_of_row _ R 5 _ _ rR_2
  have t1 : Bt R w2 ((((((w2.setCell ⟨R, 0, none⟩ (.int .i64 k)).setCell ⟨R, 1, none⟩ (.int .i64 m)).setCell ⟨R, 2, none⟩ (.int .i64 d)).setCell ⟨R, 3, none⟩ (.int .i64 o)).setCell ⟨R, 4, none⟩ (.int .i64 q)).setCell ⟨R, 5, none⟩ (.int .i64 c)) := Bt.sets R [(.int .i64 k), (.int .i64 m), (.int .i64 d), (.int .i64 o), (.int .i64 q), (.int .i64 c)] 0 w2
  have pR1 : ((((((w2.setCell ⟨R, 0, none⟩ (.int .i64 k)).setCell ⟨R, 1, none⟩ (.int .i64 m)).setCell ⟨R, 2, none⟩ (.int .i64 d)).setCell ⟨R, 3, none⟩ (.int .i64 o)).setCell ⟨R, 4, none⟩ (.int .i64 q)).setCell ⟨R, 5, none⟩ (.int .i64 c)).heap[R]? = some (.cells #[.int .i64 k, .int .i64 m, .int .i64 d, .int .i64 o, .int .i64 q, .int .i64 c] 36 (0, 0)) := anc_all (.int .i64 k) (.int .i64 m) (.int .i64 d) (.int .i64 o) (.int .i64 q) (.int .i64 c) rR_2
  have pP1 := t1.row (show P ≠ R by omega) rP_2
  have ps1 := t1.row (show b ≠ R by omega) rs2
  have hbp1 := hb2.over t1 (show w.heap.size ≤ R by omega)
  go_wp2_with fail
  obtain ⟨u9, hu9⟩ : ∃ u9, u9 = ((((((w2.setCell ⟨R, 0, none⟩ (.int .i64 k)).setCell ⟨R, 1, none⟩ (.int .i64 m)).setCell ⟨R, 2, none⟩ (.int .i64 d)).setCell ⟨R, 3, none⟩ (.int .i64 o)).setCell ⟨R, 4, none⟩ (.int .i64 q)).setCell ⟨R, 5, none⟩ (.int .i64 c)) := ⟨_, rfl⟩
  rw [← hu9] at pR1 ps1 hbp1 ⊢
  have k0 : u9.cell? ⟨R, 0, none⟩ = some (.int .i64 k) := by rw [cell_of_row _ R 0 _ _ _ pR1]; rfl
  have k1 : u9.cell? ⟨R, 1, none⟩ = some (.int .i64 m) := by rw [cell_of_row _ R 1 _ _ _ pR1]; rfl
  have k2 : u9.cell? ⟨R, 2, none⟩ = some (.int .i64 d) := by rw [cell_of_row _ R 2 _ _ _ pR1]; rfl
  have k3 : u9.cell? ⟨R, 3, none⟩ = some (.int .i64 o) := by rw [cell_of_row _ R 3 _ _ _ pR1]; rfl
  have k4 : u9.cell? ⟨R, 4, none⟩ = some (.int .i64 q) := by rw [cell_of_row _ R 4 _ _ _ pR1]; rfl
  have k5 : u9.cell? ⟨R, 5, none⟩ = some (.int .i64 c) := by rw [cell_of_row _ R 5 _ _ _ pR1]; rfl
  exact bodyPost_ret (v := .agg #[.int .i64 k, .int .i64 m, .int .i64 d, .int .i64 o, .int .i64 q, .int .i64 c]) (by simp [results, Tryz.results58, go_sem, k0, k1, k2, k3, k4, k5]) rfl ⟨rfl, ps1, hbp1⟩
set_option maxRecDepth 100000 in
set_option maxHeartbeats 1000000 in
theorem p26anc_go3 {S : ByteArray} {b : Nat} {x : Sc} {w : World} {y1 : Sc} (h : w.heap[b]? = some (scX S x)) (H1 : ∀ u : World, u.heap[b]? = some (scX S x) → Calls Tryz.prog 59 #[pv b, .slice (some ⟨u.heap.size, 0, none⟩) 3 3] (u.alloc (.cells #[.string ⟨#[102, 105, 120, 101, 100]⟩, .string ⟨#[101, 97, 115, 116, 101, 114]⟩, .string ⟨#[110, 116, 104]⟩] 9)) fun r w' => r = .returned (.int .i64 (-1)) ∧ w'.heap[b]? = some (scX S y1) ∧ Bt b u w') :
    Calls Tryz.prog 58 #[pv b] w fun r w' => r = .returned (.agg #[.int .i64 0, .int .i64 0, .int .i64 0, .int .i64 0, .int .i64 0, .int .i64 0]) ∧ w'.heap[b]? = some (scX S y1) ∧ Bt b w w' := by
  have H1 := Lib.hid H1
  go_enter Tryz.func58, Tryz.ntmps58
  go_wp2_with fail
  obtain ⟨u, hu⟩ : ∃ u, u = ((w.alloc (.cells #[xp b] 59)).alloc (.cells #[.int .i64 0, .int .i64 0, .int .i64 0, .int .i64 0, .int .i64 0, .int .i64 0] 36)) := ⟨_, rfl⟩
  have B0 : Below w.heap.size w u := hu ▸ al2 w _ _
  have rs := row_kept h B0
  have rP : u.heap[w.heap.size]? = some (.cells #[xp b] 59 (0, 0)) := hu ▸ row_on (heap_alloc_new _ _) (al1 _ _)
  have rR : u.heap[w.heap.size + 1]? = some (.cells #[.int .i64 0, .int .i64 0, .int .i64 0, .int .i64 0, .int .i64 0, .int .i64 0] 36 (0, 0)) := hu ▸ row_new1 _ _ _
  have hz : w.heap.size + 1 + 1 = u.heap.size := by rw [hu]; simp
  rw [← hu]
  clear hu
  have hb := Bt.of_below (b := b) B0
  generalize hP : w.heap.size = P at *
  generalize hR : P + 1 = R at *
  have lb : b < P := by have := row_lt h; omega
  rw [hz]
  clear hz
  have cP0_0 : u.cell? ⟨P, 0, none⟩ = some (xp b) := by rw [cell_of_row _ P 0 _ _ _ rP]; rfl
  refine (H1.out u rs).mono ?_
  clear cP0_0
  rintro e1 w1 ⟨rfl, rs1, g1⟩
  have rP_1 := g1.row (show P ≠ b by omega) rP
  have rR_1 := g1.row (show R ≠ b by omega) rR
  have hb1 := hb.trans g1
  have cP0_1 : w1.cell? ⟨P, 0, none⟩ = some (xp b) := by rw [cell_of_row _ P 0 _ _ _ rP_1]; rfl
  have cR0_1 : w1.cell? ⟨R, 0, none⟩ = some (.int .i64 0) := by rw [cell_of_row _ R 0 _ _ _ rR_1]; rfl
  have fR0_1 : w1.frozen? ⟨R, 0, none⟩ = false := frozen_of_row _ R 0 _ _ rR_1
  have cR1_1 : w1.cell? ⟨R, 1, none⟩ = some (.int .i64 0) := by rw [cell_of_row _ R 1 _ _ _ rR_1]; rfl
  have fR1_1 : w1.frozen? ⟨R, 1, none⟩ = false := frozen_of_row _ R 1 _ _ rR_1
  have cR2_1 : w1.cell? ⟨R, 2, none⟩ = some (.int .i64 0) := by rw [cell_of_row _ R 2 _ _ _ rR_1]; rfl
  have fR2_1 : w1.frozen? ⟨R, 2, none⟩ = false := frozen_of_row _ R 2 _ _ rR_1
  have cR3_1 : w1.cell? ⟨R, 3, none⟩ = some (.int .i64 0) := by rw [cell_of_row _ R 3 _ _ _ rR_1]; rfl
  have fR3_1 : w1.frozen? ⟨R, 3, none⟩ = false := frozen_of_row _ R 3 _ _ rR_1
  have cR4_1 : w1.cell? ⟨R, 4, none⟩ = some (.int .i64 0) := by rw [cell_of_row _ R 4 _ _ _ rR_1]; rfl
  have fR4_1 : w1.frozen? ⟨R, 4, none⟩ = false := frozen_of_row _ R 4 _ _ rR_1
  have cR5_1 : w1.cell? ⟨R, 5, none⟩ = some (.int .i64 0) := by rw [cell_of_row _ R 5 _ _ _ rR_1]; rfl
  have fR5_1 : w1.frozen? ⟨R, 5, none⟩ = false := frozen_of_row _ R 5 _ _ rR_1
  have t1 : Bt R w1 ((((((w1.setCell ⟨R, 0, none⟩ (.int .i64 0)).setCell ⟨R, 1, none⟩ (.int .i64 0)).setCell ⟨R, 2, none⟩ (.int .i64 0)).setCell ⟨R, 3, none⟩ (.int .i64 0)).setCell ⟨R, 4, none⟩ (.int .i64 0)).setCell ⟨R, 5, none⟩ (.int .i64 0)) := Bt.sets R [(.int .i64 0), (.int .i64 0), (.int .i64 0), (.int .i64 0), (.int .i64 0), (.int .i64 0)] 0 w1
  have pR1 : ((((((w1.setCell ⟨R, 0, none⟩ (.int .i64 0)).setCell ⟨R, 1, none⟩ (.int .i64 0)).setCell ⟨R, 2, none⟩ (.int .i64 0)).setCell ⟨R, 3, none⟩ (.int .i64 0)).setCell ⟨R, 4, none⟩ (.int .i64 0)).setCell ⟨R, 5, none⟩ (.int .i64 0)).heap[R]? = some (.cells #[.int .i64 0, .int .i64 0, .int .i64 0, .int .i64 0, .int .i64 0, .int .i64 0] 36 (0, 0)) := anc_all (.int .i64 0) (.int .i64 0) (.int .i64 0) (.int .i64 0) (.int .i64 0) (.int .i64 0) rR_1
  have pP1 := t1.row (show P ≠ R by omega) rP_1
  have ps1 := t1.row (show b ≠ R by omega) rs1
  have hbp1 := hb1.over t1 (show w.heap.size ≤ R by omega)
  go_wp2_with fail
  obtain ⟨u9, hu9⟩ : ∃ u9, u9 = ((((((w1.setCell ⟨R, 0, none⟩ (.int .i64 0)).setCell ⟨R, 1, none⟩ (.int .i64 0)).setCell ⟨R, 2, none⟩ (.int .i64 0)).setCell ⟨R, 3, none⟩ (.int .i64 0)).setCell ⟨R, 4, none⟩ (.int .i64 0)).setCell ⟨R, 5, none⟩ (.int .i64 0)) := ⟨_, rfl⟩
  rw [← hu9] at pR1 ps1 hbp1 ⊢
  have k0 : u9.cell? ⟨R, 0, none⟩ = some (.int .i64 0) := by rw [cell_of_row _ R 0 _ _ _ pR1]; rfl
  have k1 : u9.cell? ⟨R, 1, none⟩ = some (.int .i64 0) := by rw [cell_of_row _ R 1 _ _ _ pR1]; rfl
  have k2 : u9.cell? ⟨R, 2, none⟩ = some (.int .i64 0) := by rw [cell_of_row _ R 2 _ _ _ pR1]; rfl
  have k3 : u9.cell? ⟨R, 3, none⟩ = some (.int .i64 0) := by rw [cell_of_row _ R 3 _ _ _ pR1]; rfl
  have k4 : u9.cell? ⟨R, 4, none⟩ = some (.int .i64 0) := by rw [cell_of_row _ R 4 _ _ _ pR1]; rfl
  have k5 : u9.cell? ⟨R, 5, none⟩ = some (.int .i64 0) := by rw [cell_of_row _ R 5 _ _ _ pR1]; rfl
  exact bodyPost_ret (v := .agg #[.int .i64 0, .int .i64 0, .int .i64 0, .int .i64 0, .int .i64 0, .int .i64 0]) (by simp [results, Tryz.results58, go_sem, k0, k1, k2, k3, k4, k5]) rfl ⟨rfl, ps1, hbp1⟩
set_option maxRecDepth 100000 in
set_option maxHeartbeats 1000000 in
theorem p26sea_go {S : ByteArray} {b : Nat} {x : Sc} {w : World} {s : ByteArray} {j n1 n2 k m d o q c : Int} {y1 y2 y3 y4 y5 : Sc} (h : w.heap[b]? = some (scX S x)) (hT : WTab w) (H1 : ∀ u : World, u.heap[b]? = some (scX S x) → Calls Tryz.prog 34 #[xp b, .slice (some ⟨u.heap.size, 0, none⟩) 1 1] (u.alloc (.cells #[.string ⟨#[115, 101, 97, 115, 111, 110, 32]⟩] 9)) fun r w' => r = .returned (.int .i64 j) ∧ w'.heap[b]? = some (scX S y1) ∧ Bt b u w') (H2 : ∀ u : World, u.heap[b]? = some (scX S y1) → Calls Tryz.prog 57 #[pv b] u fun r w' => r = .returned (.string s) ∧ w'.heap[b]? = some (scX S y2) ∧ Bt b u w') (H3 : ∀ u : World, u.heap[b]? = some (scX S y2) → Calls Tryz.prog 35 #[pv b, .string wSp] u fun r w' => r = .returned (.int .i64 n1) ∧ w'.heap[b]? = some (scX S y3) ∧ Bt b u w') (H4 : ∀ u : World, u.heap[b]? = some (scX S y3) → Calls Tryz.prog 35 #[pv b, .string wSp] u fun r w' => r = .returned (.int .i64 n2) ∧ w'.heap[b]? = some (scX S y4) ∧ Bt b u w') (H5 : ∀ u : World, u.heap[b]? = some (scX S y4) → WTab u → Calls Tryz.prog 58 #[pv b] u fun r w' => r = .returned (.agg #[.int .i64 k, .int .i64 m, .int .i64 d, .int .i64 o, .int .i64 q, .int .i64 c]) ∧ w'.heap[b]? = some (scX S y5) ∧ Bt b u w') :
    Calls Tryz.prog 37 #[pv b] w fun r w' => r = .returned (.agg #[.string s, .int .i64 n1, .int .i64 n2, .int .i64 k, .int .i64 m, .int .i64 d, .int .i64 o, .int .i64 q, .int .i64 c]) ∧ w'.heap[b]? = some (scX S y5) ∧ Bt b w w' := by
  have H1 := Lib.hid H1
  have H2 := Lib.hid H2
  have H3 := Lib.hid H3
  have H4 := Lib.hid H4
  have H5 := Lib.hid H5
  go_enter Tryz.func37, Tryz.ntmps37
  go_wp2_with fail
  obtain ⟨u, hu⟩ : ∃ u, u = (((w.alloc (.cells #[xp b] 59)).alloc (.cells #[.string ⟨#[]⟩, .int .i64 0, .int .i64 0, .int .i64 0, .int .i64 0, .int .i64 0, .int .i64 0, .int .i64 0, .int .i64 0] 38)).alloc (.cells #[.string ⟨#[]⟩, .int .i64 0, .int .i64 0, .int .i64 0, .int .i64 0, .int .i64 0, .int .i64 0, .int .i64 0, .int .i64 0] 38)) := ⟨_, rfl⟩
  have B0 : Below w.heap.size w u := hu ▸ al3 w _ _ _
  have rs := row_kept h B0
  have rP : u.heap[w.heap.size]? = some (.cells #[xp b] 59 (0, 0)) := hu ▸ row_on (heap_alloc_new _ _) (al2 _ _ _)
  have rR : u.heap[w.heap.size + 1]? = some (.cells #[.string ⟨#[]⟩, .int .i64 0, .int .i64 0, .int .i64 0, .int .i64 0, .int .i64 0, .int .i64 0, .int .i64 0, .int .i64 0] 38 (0, 0)) := hu ▸ row_on (row_new1 _ _ _) (al1 _ _)
  have rQ : u.heap[w.heap.size + 1 + 1]? = some (.cells #[.string ⟨#[]⟩, .int .i64 0, .int .i64 0, .int .i64 0, .int .i64 0, .int .i64 0, .int .i64 0, .int .i64 0, .int .i64 0] 38 (0, 0)) := hu ▸ row_new2 _ _ _ _
  have hz : w.heap.size + 1 + 1 + 1 = u.heap.size := by rw [hu]; simp
  rw [← hu]
  clear hu
  have hb := Bt.of_below (b := b) B0
  generalize hP : w.heap.size = P at *
  generalize hR : P + 1 = R at *
  generalize hQ : R + 1 = Q at *
  have lb : b < P := by have := row_lt h; omega
  rw [hz]
  clear hz
  have cP0_0 : u.cell? ⟨P, 0, none⟩ = some (xp b) := by rw [cell_of_row _ P 0 _ _ _ rP]; rfl
  have HT := Lib.hid (hT.below B0 (by have := hT.heap; omega))
  have hg := hT.heap
  refine (H1.out u rs).mono ?_
  clear cP0_0
  rintro e1 w1 ⟨rfl, rs1, g1⟩
  have rP_1 := g1.row (show P ≠ b by omega) rP
  have rR_1 := g1.row (show R ≠ b by omega) rR
  have rQ_1 := g1.row (show Q ≠ b by omega) rQ
  have hb1 := hb.trans g1
  have HT1 := Lib.hid (HT.out.mv g1 (ne_scan HT.out rs))
  have cP0_1 : w1.cell? ⟨P, 0, none⟩ = some (xp b) := by rw [cell_of_row _ P 0 _ _ _ rP_1]; rfl
  go_wp2_with fail
  refine (H2.out w1 rs1).mono ?_
  clear cP0_1
  rintro e2 w2 ⟨rfl, rs2, g2⟩
  have rP_2 := g2.row (show P ≠ b by omega) rP_1
  have rR_2 := g2.row (show R ≠ b by omega) rR_1
  have rQ_2 := g2.row (show Q ≠ b by omega) rQ_1
  have hb2 := hb1.trans g2
  have HT2 := Lib.hid (HT1.out.mv g2 (ne_scan HT1.out rs1))
  have cQ0_2 : w2.cell? ⟨Q, 0, none⟩ = some (.string ⟨#[]⟩) := by rw [cell_of_row _ Q 0 _ _ _ rQ_2]; rfl
  have fQ0_2 : w2.frozen? ⟨Q, 0, none⟩ = false := frozen_of_row _ Q 0 _ _ rQ_2
  have t1 : Bt Q w2 (w2.setCell ⟨Q, 0, none⟩ (.string s)) := Bt.sets Q [(.string s)] 0 w2
  have pQ1 : (w2.setCell ⟨Q, 0, none⟩ (.string s)).heap[Q]? = some (.cells #[.string s, .int .i64 0, .int .i64 0, .int .i64 0, .int .i64 0, .int .i64 0, .int .i64 0, .int .i64 0, .int .i64 0] 38 (0, 0)) := heap_setCell_same _ Q 0 _ _ _ rQ_2
  have pP1 := t1.row (show P ≠ Q by omega) rP_2
  have pR1 := t1.row (show R ≠ Q by omega) rR_2
  have ps1 := t1.row (show b ≠ Q by omega) rs2
  have hbp1 := hb2.over t1 (show w.heap.size ≤ Q by omega)
  have HT3 := Lib.hid (HT2.out.mv t1 (by omega))
  have cP0_3 : (w2.setCell ⟨Q, 0, none⟩ (.string s)).cell? ⟨P, 0, none⟩ = some (xp b) := by rw [cell_of_row _ P 0 _ _ _ pP1]; rfl
  go_wp2_with fail
  refine (H3.out (w2.setCell ⟨Q, 0, none⟩ (.string s)) ps1).mono ?_
  clear cQ0_2 fQ0_2 cP0_3
  rintro e4 w4 ⟨rfl, rs4, g4⟩
  have rP_4 := g4.row (show P ≠ b by omega) pP1
  have rR_4 := g4.row (show R ≠ b by omega) pR1
  have rQ_4 := g4.row (show Q ≠ b by omega) pQ1
  have hb4 := hbp1.trans g4
  have HT4 := Lib.hid (HT3.out.mv g4 (ne_scan HT3.out ps1))
  have cQ1_4 : w4.cell? ⟨Q, 1, none⟩ = some (.int .i64 0) := by rw [cell_of_row _ Q 1 _ _ _ rQ_4]; rfl
  have fQ1_4 : w4.frozen? ⟨Q, 1, none⟩ = false := frozen_of_row _ Q 1 _ _ rQ_4
  have t2 : Bt Q w4 (w4.setCell ⟨Q, 1, none⟩ (.int .i64 n1)) := Bt.sets Q [(.int .i64 n1)] 1 w4
  have pQ2 : (w4.setCell ⟨Q, 1, none⟩ (.int .i64 n1)).heap[Q]? = some (.cells #[.string s, .int .i64 n1, .int .i64 0, .int .i64 0, .int .i64 0, .int .i64 0, .int .i64 0, .int .i64 0, .int .i64 0] 38 (0, 0)) := heap_setCell_same _ Q 1 _ _ _ rQ_4
  have pP2 := t2.row (show P ≠ Q by omega) rP_4
  have pR2 := t2.row (show R ≠ Q by omega) rR_4
  have ps2 := t2.row (show b ≠ Q by omega) rs4
  have hbp2 := hb4.over t2 (show w.heap.size ≤ Q by omega)
  have HT5 := Lib.hid (HT4.out.mv t2 (by omega))
  have cP0_5 : (w4.setCell ⟨Q, 1, none⟩ (.int .i64 n1)).cell? ⟨P, 0, none⟩ = some (xp b) := by rw [cell_of_row _ P 0 _ _ _ pP2]; rfl
  go_wp2_with fail
  refine (H4.out (w4.setCell ⟨Q, 1, none⟩ (.int .i64 n1)) ps2).mono ?_
  clear cQ1_4 fQ1_4 cP0_5
  rintro e6 w6 ⟨rfl, rs6, g6⟩
  have rP_6 := g6.row (show P ≠ b by omega) pP2
  have rR_6 := g6.row (show R ≠ b by omega) pR2
  have rQ_6 := g6.row (show Q ≠ b by omega) pQ2
  have hb6 := hbp2.trans g6
  have HT6 := Lib.hid (HT5.out.mv g6 (ne_scan HT5.out ps2))
  have cQ2_6 : w6.cell? ⟨Q, 2, none⟩ = some (.int .i64 0) := by rw [cell_of_row _ Q 2 _ _ _ rQ_6]; rfl
  have fQ2_6 : w6.frozen? ⟨Q, 2, none⟩ = false := frozen_of_row _ Q 2 _ _ rQ_6
  have t3 : Bt Q w6 (w6.setCell ⟨Q, 2, none⟩ (.int .i64 n2)) := Bt.sets Q [(.int .i64 n2)] 2 w6
  have pQ3 : (w6.setCell ⟨Q, 2, none⟩ (.int .i64 n2)).heap[Q]? = some (.cells #[.string s, .int .i64 n1, .int .i64 n2, .int .i64 0, .int .i64 0, .int .i64 0, .int .i64 0, .int .i64 0, .int .i64 0] 38 (0, 0)) := heap_setCell_same _ Q 2 _ _ _ rQ_6
  have pP3 := t3.row (show P ≠ Q by omega) rP_6
  have pR3 := t3.row (show R ≠ Q by omega) rR_6
  have ps3 := t3.row (show b ≠ Q by omega) rs6
  have hbp3 := hb6.over t3 (show w.heap.size ≤ Q by omega)
  have HT7 := Lib.hid (HT6.out.mv t3 (by omega))
  have cP0_7 : (w6.setCell ⟨Q, 2, none⟩ (.int .i64 n2)).cell? ⟨P, 0, none⟩ = some (xp b) := by rw [cell_of_row _ P 0 _ _ _ pP3]; rfl
  go_wp2_with fail
  refine (H5.out (w6.setCell ⟨Q, 2, none⟩ (.int .i64 n2)) ps3 HT7.out).mono ?_
  clear cQ2_6 fQ2_6 cP0_7
  rintro e8 w8 ⟨rfl, rs8, g8⟩
  have rP_8 := g8.row (show P ≠ b by omega) pP3
  have rR_8 := g8.row (show R ≠ b by omega) pR3
  have rQ_8 := g8.row (show Q ≠ b by omega) pQ3
  have hb8 := hbp3.trans g8
  have cQ3_8 : w8.cell? ⟨Q, 3, none⟩ = some (.int .i64 0) := by rw [cell_of_row _ Q 3 _ _ _ rQ_8]; rfl
  have fQ3_8 : w8.frozen? ⟨Q, 3, none⟩ = false := frozen_of_row _ Q 3 _ _ rQ_8
  have cQ4_8 : w8.cell? ⟨Q, 4, none⟩ = some (.int .i64 0) := by rw [cell_of_row _ Q 4 _ _ _ rQ_8]; rfl
  have fQ4_8 : w8.frozen? ⟨Q, 4, none⟩ = false := frozen_of_row _ Q 4 _ _ rQ_8
  have cQ5_8 : w8.cell? ⟨Q, 5, none⟩ = some (.int .i64 0) := by rw [cell_of_row _ Q 5 _ _ _ rQ_8]; rfl
  have fQ5_8 : w8.frozen? ⟨Q, 5, none⟩ = false := frozen_of_row _ Q 5 _ _ rQ_8
  have cQ6_8 : w8.cell? ⟨Q, 6, none⟩ = some (.int .i64 0) := by rw [cell_of_row _ Q 6 _ _ _ rQ_8]; rfl
  have fQ6_8 : w8.frozen? ⟨Q, 6, none⟩ = false := frozen_of_row _ Q 6 _ _ rQ_8
  have cQ7_8 : w8.cell? ⟨Q, 7, none⟩ = some (.int .i64 0) := by rw [cell_of_row _ Q 7 _ _ _ rQ_8]; rfl
  have fQ7_8 : w8.frozen? ⟨Q, 7, none⟩ = false := frozen_of_row _ Q 7 _ _ rQ_8
  have cQ8_8 : w8.cell? ⟨Q, 8, none⟩ = some (.int .i64 0) := by rw [cell_of_row _ Q 8 _ _ _ rQ_8]; rfl
  have fQ8_8 : w8.frozen? ⟨Q, 8, none⟩ = false := frozen_of_row _ Q 8 _ _ rQ_8
  have t4 : Bt Q w8 ((((((w8.setCell ⟨Q, 3, none⟩ (.int .i64 k)).setCell ⟨Q, 4, none⟩ (.int .i64 m)).setCell ⟨Q, 5, none⟩ (.int .i64 d)).setCell ⟨Q, 6, none⟩ (.int .i64 o)).setCell ⟨Q, 7, none⟩ (.int .i64 q)).setCell ⟨Q, 8, none⟩ (.int .i64 c)) := Bt.sets Q [(.int .i64 k), (.int .i64 m), (.int .i64 d), (.int .i64 o), (.int .i64 q), (.int .i64 c)] 3 w8
  have pQ4 : ((((((w8.setCell ⟨Q, 3, none⟩ (.int .i64 k)).setCell ⟨Q, 4, none⟩ (.int .i64 m)).setCell ⟨Q, 5, none⟩ (.int .i64 d)).setCell ⟨Q, 6, none⟩ (.int .i64 o)).setCell ⟨Q, 7, none⟩ (.int .i64 q)).setCell ⟨Q, 8, none⟩ (.int .i64 c)).heap[Q]? = some (.cells #[.string s, .int .i64 n1, .int .i64 n2, .int .i64 k, .int .i64 m, .int .i64 d, .int .i64 o, .int .i64 q, .int .i64 c] 38 (0, 0)) := itm_anc (.int .i64 k) (.int .i64 m) (.int .i64 d) (.int .i64 o) (.int .i64 q) (.int .i64 c) rQ_8
  have pP4 := t4.row (show P ≠ Q by omega) rP_8
  have pR4 := t4.row (show R ≠ Q by omega) rR_8
  have ps4 := t4.row (show b ≠ Q by omega) rs8
  have hbp4 := hb8.over t4 (show w.heap.size ≤ Q by omega)
  have cQ0_9 : ((((((w8.setCell ⟨Q, 3, none⟩ (.int .i64 k)).setCell ⟨Q, 4, none⟩ (.int .i64 m)).setCell ⟨Q, 5, none⟩ (.int .i64 d)).setCell ⟨Q, 6, none⟩ (.int .i64 o)).setCell ⟨Q, 7, none⟩ (.int .i64 q)).setCell ⟨Q, 8, none⟩ (.int .i64 c)).cell? ⟨Q, 0, none⟩ = some (.string s) := by rw [cell_of_row _ Q 0 _ _ _ pQ4]; rfl
  have cQ1_9 : ((((((w8.setCell ⟨Q, 3, none⟩ (.int .i64 k)).setCell ⟨Q, 4, none⟩ (.int .i64 m)).setCell ⟨Q, 5, none⟩ (.int .i64 d)).setCell ⟨Q, 6, none⟩ (.int .i64 o)).setCell ⟨Q, 7, none⟩ (.int .i64 q)).setCell ⟨Q, 8, none⟩ (.int .i64 c)).cell? ⟨Q, 1, none⟩ = some (.int .i64 n1) := by rw [cell_of_row _ Q 1 _ _ _ pQ4]; rfl
  have cQ2_9 : ((((((w8.setCell ⟨Q, 3, none⟩ (.int .i64 k)).setCell ⟨Q, 4, none⟩ (.int .i64 m)).setCell ⟨Q, 5, none⟩ (.int .i64 d)).setCell ⟨Q, 6, none⟩ (.int .i64 o)).setCell ⟨Q, 7, none⟩ (.int .i64 q)).setCell ⟨Q, 8, none⟩ (.int .i64 c)).cell? ⟨Q, 2, none⟩ = some (.int .i64 n2) := by rw [cell_of_row _ Q 2 _ _ _ pQ4]; rfl
  have cQ3_9 : ((((((w8.setCell ⟨Q, 3, none⟩ (.int .i64 k)).setCell ⟨Q, 4, none⟩ (.int .i64 m)).setCell ⟨Q, 5, none⟩ (.int .i64 d)).setCell ⟨Q, 6, none⟩ (.int .i64 o)).setCell ⟨Q, 7, none⟩ (.int .i64 q)).setCell ⟨Q, 8, none⟩ (.int .i64 c)).cell? ⟨Q, 3, none⟩ = some (.int .i64 k) := by rw [cell_of_row _ Q 3 _ _ _ pQ4]; rfl
  have cQ4_9 : ((((((w8.setCell ⟨Q, 3, none⟩ (.int .i64 k)).setCell ⟨Q, 4, none⟩ (.int .i64 m)).setCell ⟨Q, 5, none⟩ (.int .i64 d)).setCell ⟨Q, 6, none⟩ (.int .i64 o)).setCell ⟨Q, 7, none⟩ (.int .i64 q)).setCell ⟨Q, 8, none⟩ (.int .i64 c)).cell? ⟨Q, 4, none⟩ = some (.int .i64 m) := by rw [cell_of_row _ Q 4 _ _ _ pQ4]; rfl
  have cQ5_9 : ((((((w8.setCell ⟨Q, 3, none⟩ (.int .i64 k)).setCell ⟨Q, 4, none⟩ (.int .i64 m)).setCell ⟨Q, 5, none⟩ (.int .i64 d)).setCell ⟨Q, 6, none⟩ (.int .i64 o)).setCell ⟨Q, 7, none⟩ (.int .i64 q)).setCell ⟨Q, 8, none⟩ (.int .i64 c)).cell? ⟨Q, 5, none⟩ = some (.int .i64 d) := by rw [cell_of_row _ Q 5 _ _ _ pQ4]; rfl
  have cQ6_9 : ((((((w8.setCell ⟨Q, 3, none⟩ (.int .i64 k)).setCell ⟨Q, 4, none⟩ (.int .i64 m)).setCell ⟨Q, 5, none⟩ (.int .i64 d)).setCell ⟨Q, 6, none⟩ (.int .i64 o)).setCell ⟨Q, 7, none⟩ (.int .i64 q)).setCell ⟨Q, 8, none⟩ (.int .i64 c)).cell? ⟨Q, 6, none⟩ = some (.int .i64 o) := by rw [cell_of_row _ Q 6 _ _ _ pQ4]; rfl
  have cQ7_9 : ((((((w8.setCell ⟨Q, 3, none⟩ (.int .i64 k)).setCell ⟨Q, 4, none⟩ (.int .i64 m)).setCell ⟨Q, 5, none⟩ (.int .i64 d)).setCell ⟨Q, 6, none⟩ (.int .i64 o)).setCell ⟨Q, 7, none⟩ (.int .i64 q)).setCell ⟨Q, 8, none⟩ (.int .i64 c)).cell? ⟨Q, 7, none⟩ = some (.int .i64 q) := by rw [cell_of_row _ Q 7 _ _ _ pQ4]; rfl
  have cQ8_9 : ((((((w8.setCell ⟨Q, 3, none⟩ (.int .i64 k)).setCell ⟨Q, 4, none⟩ (.int .i64 m)).setCell ⟨Q, 5, none⟩ (.int .i64 d)).setCell ⟨Q, 6, none⟩ (.int .i64 o)).setCell ⟨Q, 7, none⟩ (.int .i64 q)).setCell ⟨Q, 8, none⟩ (.int .i64 c)).cell? ⟨Q, 8, none⟩ = some (.int .i64 c) := by rw [cell_of_row _ Q 8 _ _ _ pQ4]; rfl
  have cR0_9 : ((((((w8.setCell ⟨Q, 3, none⟩ (.int .i64 k)).setCell ⟨Q, 4, none⟩ (.int .i64 m)).setCell ⟨Q, 5, none⟩ (.int .i64 d)).setCell ⟨Q, 6, none⟩ (.int .i64 o)).setCell ⟨Q, 7, none⟩ (.int .i64 q)).setCell ⟨Q, 8, none⟩ (.int .i64 c)).cell? ⟨R, 0, none⟩ = some (.string ⟨#[]⟩) := by rw [cell_of_row _ R 0 _ _ _ pR4]; rfl
  have fR0_9 : ((((((w8.setCell ⟨Q, 3, none⟩ (.int .i64 k)).setCell ⟨Q, 4, none⟩ (.int .i64 m)).setCell ⟨Q, 5, none⟩ (.int .i64 d)).setCell ⟨Q, 6, none⟩ (.int .i64 o)).setCell ⟨Q, 7, none⟩ (.int .i64 q)).setCell ⟨Q, 8, none⟩ (.int .i64 c)).frozen? ⟨R, 0, none⟩ = false := frozen_of_row _ R 0 _ _ pR4
  have cR1_9 : ((((((w8.setCell ⟨Q, 3, none⟩ (.int .i64 k)).setCell ⟨Q, 4, none⟩ (.int .i64 m)).setCell ⟨Q, 5, none⟩ (.int .i64 d)).setCell ⟨Q, 6, none⟩ (.int .i64 o)).setCell ⟨Q, 7, none⟩ (.int .i64 q)).setCell ⟨Q, 8, none⟩ (.int .i64 c)).cell? ⟨R, 1, none⟩ = some (.int .i64 0) := by rw [cell_of_row _ R 1 _ _ _ pR4]; rfl
  have fR1_9 : ((((((w8.setCell ⟨Q, 3, none⟩ (.int .i64 k)).setCell ⟨Q, 4, none⟩ (.int .i64 m)).setCell ⟨Q, 5, none⟩ (.int .i64 d)).setCell ⟨Q, 6, none⟩ (.int .i64 o)).setCell ⟨Q, 7, none⟩ (.int .i64 q)).setCell ⟨Q, 8, none⟩ (.int .i64 c)).frozen? ⟨R, 1, none⟩ = false := frozen_of_row _ R 1 _ _ pR4
  have cR2_9 : ((((((w8.setCell ⟨Q, 3, none⟩ (.int .i64 k)).setCell ⟨Q, 4, none⟩ (.int .i64 m)).setCell ⟨Q, 5, none⟩ (.int .i64 d)).setCell ⟨Q, 6, none⟩ (.int .i64 o)).setCell ⟨Q, 7, none⟩ (.int .i64 q)).setCell ⟨Q, 8, none⟩ (.int .i64 c)).cell? ⟨R, 2, none⟩ = some (.int .i64 0) := by rw [cell_of_row _ R 2 _ _ _ pR4]; rfl
  have fR2_9 : ((((((w8.setCell ⟨Q, 3, none⟩ (.int .i64 k)).setCell ⟨Q, 4, none⟩ (.int .i64 m)).setCell ⟨Q, 5, none⟩ (.int .i64 d)).setCell ⟨Q, 6, none⟩ (.int .i64 o)).setCell ⟨Q, 7, none⟩ (.int .i64 q)).setCell ⟨Q, 8, none⟩ (.int .i64 c)).frozen? ⟨R, 2, none⟩ = false := frozen_of_row _ R 2 _ _ pR4
  have cR3_9 : ((((((w8.setCell ⟨Q, 3, none⟩ (.int .i64 k)).setCell ⟨Q, 4, none⟩ (.int .i64 m)).setCell ⟨Q, 5, none⟩ (.int .i64 d)).setCell ⟨Q, 6, none⟩ (.int .i64 o)).setCell ⟨Q, 7, none⟩ (.int .i64 q)).setCell ⟨Q, 8, none⟩ (.int .i64 c)).cell? ⟨R, 3, none⟩ = some (.int .i64 0) := by rw [cell_of_row _ R 3 _ _ _ pR4]; rfl
  have fR3_9 : ((((((w8.setCell ⟨Q, 3, none⟩ (.int .i64 k)).setCell ⟨Q, 4, none⟩ (.int .i64 m)).setCell ⟨Q, 5, none⟩ (.int .i64 d)).setCell ⟨Q, 6, none⟩ (.int .i64 o)).setCell ⟨Q, 7, none⟩ (.int .i64 q)).setCell ⟨Q, 8, none⟩ (.int .i64 c)).frozen? ⟨R, 3, none⟩ = false := frozen_of_row _ R 3 _ _ pR4
  have cR4_9 : ((((((w8.setCell ⟨Q, 3, none⟩ (.int .i64 k)).setCell ⟨Q, 4, none⟩ (.int .i64 m)).setCell ⟨Q, 5, none⟩ (.int .i64 d)).setCell ⟨Q, 6, none⟩ (.int .i64 o)).setCell ⟨Q, 7, none⟩ (.int .i64 q)).setCell ⟨Q, 8, none⟩ (.int .i64 c)).cell? ⟨R, 4, none⟩ = some (.int .i64 0) := by rw [cell_of_row _ R 4 _ _ _ pR4]; rfl
  have fR4_9 : ((((((w8.setCell ⟨Q, 3, none⟩ (.int .i64 k)).setCell ⟨Q, 4, none⟩ (.int .i64 m)).setCell ⟨Q, 5, none⟩ (.int .i64 d)).setCell ⟨Q, 6, none⟩ (.int .i64 o)).setCell ⟨Q, 7, none⟩ (.int .i64 q)).setCell ⟨Q, 8, none⟩ (.int .i64 c)).frozen? ⟨R, 4, none⟩ = false := frozen_of_row _ R 4 _ _ pR4
  have cR5_9 : ((((((w8.setCell ⟨Q, 3, none⟩ (.int .i64 k)).setCell ⟨Q, 4, none⟩ (.int .i64 m)).setCell ⟨Q, 5, none⟩ (.int .i64 d)).setCell ⟨Q, 6, none⟩ (.int .i64 o)).setCell ⟨Q, 7, none⟩ (.int .i64 q)).setCell ⟨Q, 8, none⟩ (.int .i64 c)).cell? ⟨R, 5, none⟩ = some (.int .i64 0) := by rw [cell_of_row _ R 5 _ _ _ pR4]; rfl
  have fR5_9 : ((((((w8.setCell ⟨Q, 3, none⟩ (.int .i64 k)).setCell ⟨Q, 4, none⟩ (.int .i64 m)).setCell ⟨Q, 5, none⟩ (.int .i64 d)).setCell ⟨Q, 6, none⟩ (.int .i64 o)).setCell ⟨Q, 7, none⟩ (.int .i64 q)).setCell ⟨Q, 8, none⟩ (.int .i64 c)).frozen? ⟨R, 5, none⟩ = false := frozen_of_row _ R 5 _ _ pR4
  have cR6_9 : ((((((w8.setCell ⟨Q, 3, none⟩ (.int .i64 k)).setCell ⟨Q, 4, none⟩ (.int .i64 m)).setCell ⟨Q, 5, none⟩ (.int .i64 d)).setCell ⟨Q, 6, none⟩ (.int .i64 o)).setCell ⟨Q, 7, none⟩ (.int .i64 q)).setCell ⟨Q, 8, none⟩ (.int .i64 c)).cell? ⟨R, 6, none⟩ = some (.int .i64 0) := by rw [cell_of_row _ R 6 _ _ _ pR4]; rfl
  have fR6_9 : ((((((w8.setCell ⟨Q, 3, none⟩ (.int .i64 k)).setCell ⟨Q, 4, none⟩ (.int .i64 m)).setCell ⟨Q, 5, none⟩ (.int .i64 d)).setCell ⟨Q, 6, none⟩ (.int .i64 o)).setCell ⟨Q, 7, none⟩ (.int .i64 q)).setCell ⟨Q, 8, none⟩ (.int .i64 c)).frozen? ⟨R, 6, none⟩ = false := frozen_of_row _ R 6 _ _ pR4
  have cR7_9 : ((((((w8.setCell ⟨Q, 3, none⟩ (.int .i64 k)).setCell ⟨Q, 4, none⟩ (.int .i64 m)).setCell ⟨Q, 5, none⟩ (.int .i64 d)).setCell ⟨Q, 6, none⟩ (.int .i64 o)).setCell ⟨Q, 7, none⟩ (.int .i64 q)).setCell ⟨Q, 8, none⟩ (.int .i64 c)).cell? ⟨R, 7, none⟩ = some (.int .i64 0) := by rw [cell_of_row _ R 7 _ _ _ pR4]; rfl
  have fR7_9 : ((((((w8.setCell ⟨Q, 3, none⟩ (.int .i64 k)).setCell ⟨Q, 4, none⟩ (.int .i64 m)).setCell ⟨Q, 5, none⟩ (.int .i64 d)).setCell ⟨Q, 6, none⟩ (.int .i64 o)).setCell ⟨Q, 7, none⟩ (.int .i64 q)).setCell ⟨Q, 8, none⟩ (.int .i64 c)).frozen? ⟨R, 7, none⟩ = false := frozen_of_row _ R 7 _ _ pR4
  have cR8_9 : ((((((w8.setCell ⟨Q, 3, none⟩ (.int .i64 k)).setCell ⟨Q, 4, none⟩ (.int .i64 m)).setCell ⟨Q, 5, none⟩ (.int .i64 d)).setCell ⟨Q, 6, none⟩ (.int .i64 o)).setCell ⟨Q, 7, none⟩ (.int .i64 q)).setCell ⟨Q, 8, none⟩ (.int .i64 c)).cell? ⟨R, 8, none⟩ = some (.int .i64 0) := by rw [cell_of_row _ R 8 _ _ _ pR4]; rfl
  have fR8_9 : ((((((w8.setCell ⟨Q, 3, none⟩ (.int .i64 k)).setCell ⟨Q, 4, none⟩ (.int .i64 m)).setCell ⟨Q, 5, none⟩ (.int .i64 d)).setCell ⟨Q, 6, none⟩ (.int .i64 o)).setCell ⟨Q, 7, none⟩ (.int .i64 q)).setCell ⟨Q, 8, none⟩ (.int .i64 c)).frozen? ⟨R, 8, none⟩ = false := frozen_of_row _ R 8 _ _ pR4
  have t5 : Bt R ((((((w8.setCell ⟨Q, 3, none⟩ (.int .i64 k)).setCell ⟨Q, 4, none⟩ (.int .i64 m)).setCell ⟨Q, 5, none⟩ (.int .i64 d)).setCell ⟨Q, 6, none⟩ (.int .i64 o)).setCell ⟨Q, 7, none⟩ (.int .i64 q)).setCell ⟨Q, 8, none⟩ (.int .i64 c)) (((((((((((((((w8.setCell ⟨Q, 3, none⟩ (.int .i64 k)).setCell ⟨Q, 4, none⟩ (.int .i64 m)).setCell ⟨Q, 5, none⟩ (.int .i64 d)).setCell ⟨Q, 6, none⟩ (.int .i64 o)).setCell ⟨Q, 7, none⟩ (.int .i64 q)).setCell ⟨Q, 8, none⟩ (.int .i64 c)).setCell ⟨R, 0, none⟩ (.string s)).setCell ⟨R, 1, none⟩ (.int .i64 n1)).setCell ⟨R, 2, none⟩ (.int .i64 n2)).setCell ⟨R, 3, none⟩ (.int .i64 k)).setCell ⟨R, 4, none⟩ (.int .i64 m)).setCell ⟨R, 5, none⟩ (.int .i64 d)).setCell ⟨R, 6, none⟩ (.int .i64 o)).setCell ⟨R, 7, none⟩ (.int .i64 q)).setCell ⟨R, 8, none⟩ (.int .i64 c)) := Bt.sets R [(.string s), (.int .i64 n1), (.int .i64 n2), (.int .i64 k), (.int .i64 m), (.int .i64 d), (.int .i64 o), (.int .i64 q), (.int .i64 c)] 0 ((((((w8.setCell ⟨Q, 3, none⟩ (.int .i64 k)).setCell ⟨Q, 4, none⟩ (.int .i64 m)).setCell ⟨Q, 5, none⟩ (.int .i64 d)).setCell ⟨Q, 6, none⟩ (.int .i64 o)).setCell ⟨Q, 7, none⟩ (.int .i64 q)).setCell ⟨Q, 8, none⟩ (.int .i64 c))
  have pR5 : (((((((((((((((w8.setCell ⟨Q, 3, none⟩ (.int .i64 k)).setCell ⟨Q, 4, none⟩ (.int .i64 m)).setCell ⟨Q, 5, none⟩ (.int .i64 d)).setCell ⟨Q, 6, none⟩ (.int .i64 o)).setCell ⟨Q, 7, none⟩ (.int .i64 q)).setCell ⟨Q, 8, none⟩ (.int .i64 c)).setCell ⟨R, 0, none⟩ (.string s)).setCell ⟨R, 1, none⟩ (.int .i64 n1)).setCell ⟨R, 2, none⟩ (.int .i64 n2)).setCell ⟨R, 3, none⟩ (.int .i64 k)).setCell ⟨R, 4, none⟩ (.int .i64 m)).setCell ⟨R, 5, none⟩ (.int .i64 d)).setCell ⟨R, 6, none⟩ (.int .i64 o)).setCell ⟨R, 7, none⟩ (.int .i64 q)).setCell ⟨R, 8, none⟩ (.int .i64 c)).heap[R]? = some (.cells #[.string s, .int .i64 n1, .int .i64 n2, .int .i64 k, .int .i64 m, .int .i64 d, .int .i64 o, .int .i64 q, .int .i64 c] 38 (0, 0)) := itm_all (.string s) (.int .i64 n1) (.int .i64 n2) (.int .i64 k) (.int .i64 m) (.int .i64 d) (.int .i64 o) (.int .i64 q) (.int .i64 c) pR4
  have pP5 := t5.row (show P ≠ R by omega) pP4
  have pQ5 := t5.row (show Q ≠ R by omega) pQ4
  have ps5 := t5.row (show b ≠ R by omega) ps4
  have hbp5 := hbp4.over t5 (show w.heap.size ≤ R by omega)
  go_wp2_with fail
  obtain ⟨u9, hu9⟩ : ∃ u9, u9 = (((((((((((((((w8.setCell ⟨Q, 3, none⟩ (.int .i64 k)).setCell ⟨Q, 4, none⟩ (.int .i64 m)).setCell ⟨Q, 5, none⟩ (.int .i64 d)).setCell ⟨Q, 6, none⟩ (.int .i64 o)).setCell ⟨Q, 7, none⟩ (.int .i64 q)).setCell ⟨Q, 8, none⟩ (.int .i64 c)).setCell ⟨R, 0, none⟩ (.string s)).setCell ⟨R, 1, none⟩ (.int .i64 n1)).setCell ⟨R, 2, none⟩ (.int .i64 n2)).setCell ⟨R, 3, none⟩ (.int .i64 k)).setCell ⟨R, 4, none⟩ (.int .i64 m)).setCell ⟨R, 5, none⟩ (.int .i64 d)).setCell ⟨R, 6, none⟩ (.int .i64 o)).setCell ⟨R, 7, none⟩ (.int .i64 q)).setCell ⟨R, 8, none⟩ (.int .i64 c)) := ⟨_, rfl⟩
  rw [← hu9] at pR5 ps5 hbp5 ⊢
  have k0 : u9.cell? ⟨R, 0, none⟩ = some (.string s) := by rw [cell_of_row _ R 0 _ _ _ pR5]; rfl
  have k1 : u9.cell? ⟨R, 1, none⟩ = some (.int .i64 n1) := by rw [cell_of_row _ R 1 _ _ _ pR5]; rfl
  have k2 : u9.cell? ⟨R, 2, none⟩ = some (.int .i64 n2) := by rw [cell_of_row _ R 2 _ _ _ pR5]; rfl
  have k3 : u9.cell? ⟨R, 3, none⟩ = some (.int .i64 k) := by rw [cell_of_row _ R 3 _ _ _ pR5]; rfl
  have k4 : u9.cell? ⟨R, 4, none⟩ = some (.int .i64 m) := by rw [cell_of_row _ R 4 _ _ _ pR5]; rfl
  have k5 : u9.cell? ⟨R, 5, none⟩ = some (.int .i64 d) := by rw [cell_of_row _ R 5 _ _ _ pR5]; rfl
  have k6 : u9.cell? ⟨R, 6, none⟩ = some (.int .i64 o) := by rw [cell_of_row _ R 6 _ _ _ pR5]; rfl
  have k7 : u9.cell? ⟨R, 7, none⟩ = some (.int .i64 q) := by rw [cell_of_row _ R 7 _ _ _ pR5]; rfl
  have k8 : u9.cell? ⟨R, 8, none⟩ = some (.int .i64 c) := by rw [cell_of_row _ R 8 _ _ _ pR5]; rfl
  exact bodyPost_ret (v := .agg #[.string s, .int .i64 n1, .int .i64 n2, .int .i64 k, .int .i64 m, .int .i64 d, .int .i64 o, .int .i64 q, .int .i64 c]) (by simp [results, Tryz.results37, go_sem, k0, k1, k2, k3, k4, k5, k6, k7, k8]) rfl ⟨rfl, ps5, hbp5⟩
set_option maxRecDepth 100000 in
set_option maxHeartbeats 1000000 in
theorem p26fea_go {S : ByteArray} {b : Nat} {x : Sc} {w : World} {s : ByteArray} {j n1 n2 k m d o q c : Int} {y1 y2 y3 y4 y5 : Sc} (h : w.heap[b]? = some (scX S x)) (hT : WTab w) (H1 : ∀ u : World, u.heap[b]? = some (scX S x) → Calls Tryz.prog 34 #[xp b, .slice (some ⟨u.heap.size, 0, none⟩) 1 1] (u.alloc (.cells #[.string ⟨#[102, 101, 97, 115, 116, 32]⟩] 9)) fun r w' => r = .returned (.int .i64 j) ∧ w'.heap[b]? = some (scX S y1) ∧ Bt b u w') (H2 : ∀ u : World, u.heap[b]? = some (scX S y1) → Calls Tryz.prog 57 #[pv b] u fun r w' => r = .returned (.string s) ∧ w'.heap[b]? = some (scX S y2) ∧ Bt b u w') (H3 : ∀ u : World, u.heap[b]? = some (scX S y2) → Calls Tryz.prog 35 #[pv b, .string wSp] u fun r w' => r = .returned (.int .i64 n1) ∧ w'.heap[b]? = some (scX S y3) ∧ Bt b u w') (HW : ∀ u : World, Calls Tryz.prog 33 #[] u fun e w' => ∃ g, e = .returned (.slice (some ⟨g, 0, none⟩) 3 3) ∧ StrsIn g 3 lPo w' ∧ u.heap.size ≤ g ∧ Below u.heap.size u w') (H4 : ∀ (u : World) (g : Nat), u.heap[b]? = some (scX S y3) → StrsIn g 3 lPo u → g ≠ b → Calls Tryz.prog 59 #[pv b, .slice (some ⟨g, 0, none⟩) 3 3] u fun r w' => r = .returned (.int .i64 n2) ∧ w'.heap[b]? = some (scX S y4) ∧ Bt b u w') (hn2 : -1 ≤ n2 ∧ n2 ≤ 2) (H5 : ∀ u : World, u.heap[b]? = some (scX S y4) → WTab u → Calls Tryz.prog 58 #[pv b] u fun r w' => r = .returned (.agg #[.int .i64 k, .int .i64 m, .int .i64 d, .int .i64 o, .int .i64 q, .int .i64 c]) ∧ w'.heap[b]? = some (scX S y5) ∧ Bt b u w') :
    Calls Tryz.prog 38 #[pv b] w fun r w' => r = .returned (.agg #[.string s, .int .i64 n1, .int .i64 (1 + n2), .int .i64 k, .int .i64 m, .int .i64 d, .int .i64 o, .int .i64 q, .int .i64 c]) ∧ w'.heap[b]? = some (scX S y5) ∧ Bt b w w' := by
  have H1 := Lib.hid H1
  have H2 := Lib.hid H2
  have H3 := Lib.hid H3
  have HW := Lib.hid HW
  have H4 := Lib.hid H4
  have H5 := Lib.hid H5
  have hw2 : IntKind.i64.wrap (1 + n2) = 1 + n2 := by rw [IntKind.wrap_i64]; omega
  clear hn2
  go_enter Tryz.func38, Tryz.ntmps38
  go_wp2_with fail
  obtain ⟨u, hu⟩ : ∃ u, u = (((w.alloc (.cells #[xp b] 59)).alloc (.cells #[.string ⟨#[]⟩, .int .i64 0, .int .i64 0, .int .i64 0, .int .i64 0, .int .i64 0, .int .i64 0, .int .i64 0, .int .i64 0] 40)).alloc (.cells #[.string ⟨#[]⟩, .int .i64 0, .int .i64 0, .int .i64 0, .int .i64 0, .int .i64 0, .int .i64 0, .int .i64 0, .int .i64 0] 40)) := ⟨_, rfl⟩
  have B0 : Below w.heap.size w u := hu ▸ al3 w _ _ _
  have rs := row_kept h B0
  have rP : u.heap[w.heap.size]? = some (.cells #[xp b] 59 (0, 0)) := hu ▸ row_on (heap_alloc_new _ _) (al2 _ _ _)
  have rR : u.heap[w.heap.size + 1]? = some (.cells #[.string ⟨#[]⟩, .int .i64 0, .int .i64 0, .int .i64 0, .int .i64 0, .int .i64 0, .int .i64 0, .int .i64 0, .int .i64 0] 40 (0, 0)) := hu ▸ row_on (row_new1 _ _ _) (al1 _ _)
  have rQ : u.heap[w.heap.size + 1 + 1]? = some (.cells #[.string ⟨#[]⟩, .int .i64 0, .int .i64 0, .int .i64 0, .int .i64 0, .int .i64 0, .int .i64 0, .int .i64 0, .int .i64 0] 40 (0, 0)) := hu ▸ row_new2 _ _ _ _
  have hz : w.heap.size + 1 + 1 + 1 = u.heap.size := by rw [hu]; simp
  rw [← hu]
  clear hu
  have hb := Bt.of_below (b := b) B0
  generalize hP : w.heap.size = P at *
  generalize hR : P + 1 = R at *
  generalize hQ : R + 1 = Q at *
  have lb : b < P := by have := row_lt h; omega
  rw [hz]
  clear hz
  have cP0_0 : u.cell? ⟨P, 0, none⟩ = some (xp b) := by rw [cell_of_row _ P 0 _ _ _ rP]; rfl
  have HT := Lib.hid (hT.below B0 (by have := hT.heap; omega))
  have hg := hT.heap
  refine (H1.out u rs).mono ?_
  clear cP0_0
  rintro e1 w1 ⟨rfl, rs1, g1⟩
  have rP_1 := g1.row (show P ≠ b by omega) rP
  have rR_1 := g1.row (show R ≠ b by omega) rR
  have rQ_1 := g1.row (show Q ≠ b by omega) rQ
  have hb1 := hb.trans g1
  have HT1 := Lib.hid (HT.out.mv g1 (ne_scan HT.out rs))
  have cP0_1 : w1.cell? ⟨P, 0, none⟩ = some (xp b) := by rw [cell_of_row _ P 0 _ _ _ rP_1]; rfl
  go_wp2_with fail
  refine (H2.out w1 rs1).mono ?_
  clear cP0_1
  rintro e2 w2 ⟨rfl, rs2, g2⟩
  have rP_2 := g2.row (show P ≠ b by omega) rP_1
  have rR_2 := g2.row (show R ≠ b by omega) rR_1
  have rQ_2 := g2.row (show Q ≠ b by omega) rQ_1
  have hb2 := hb1.trans g2
  have HT2 := Lib.hid (HT1.out.mv g2 (ne_scan HT1.out rs1))
  have cQ0_2 : w2.cell? ⟨Q, 0, none⟩ = some (.string ⟨#[]⟩) := by rw [cell_of_row _ Q 0 _ _ _ rQ_2]; rfl
  have fQ0_2 : w2.frozen? ⟨Q, 0, none⟩ = false := frozen_of_row _ Q 0 _ _ rQ_2
  have t1 : Bt Q w2 (w2.setCell ⟨Q, 0, none⟩ (.string s)) := Bt.sets Q [(.string s)] 0 w2
  have pQ1 : (w2.setCell ⟨Q, 0, none⟩ (.string s)).heap[Q]? = some (.cells #[.string s, .int .i64 0, .int .i64 0, .int .i64 0, .int .i64 0, .int .i64 0, .int .i64 0, .int .i64 0, .int .i64 0] 40 (0, 0)) := heap_setCell_same _ Q 0 _ _ _ rQ_2
  have pP1 := t1.row (show P ≠ Q by omega) rP_2
  have pR1 := t1.row (show R ≠ Q by omega) rR_2
  have ps1 := t1.row (show b ≠ Q by omega) rs2
  have hbp1 := hb2.over t1 (show w.heap.size ≤ Q by omega)
  have HT3 := Lib.hid (HT2.out.mv t1 (by omega))
  have cP0_3 : (w2.setCell ⟨Q, 0, none⟩ (.string s)).cell? ⟨P, 0, none⟩ = some (xp b) := by rw [cell_of_row _ P 0 _ _ _ pP1]; rfl
  go_wp2_with fail
  refine (H3.out (w2.setCell ⟨Q, 0, none⟩ (.string s)) ps1).mono ?_
  clear cQ0_2 fQ0_2 cP0_3
  rintro e4 w4 ⟨rfl, rs4, g4⟩
  have rP_4 := g4.row (show P ≠ b by omega) pP1
  have rR_4 := g4.row (show R ≠ b by omega) pR1
  have rQ_4 := g4.row (show Q ≠ b by omega) pQ1
  have hb4 := hbp1.trans g4
  have HT4 := Lib.hid (HT3.out.mv g4 (ne_scan HT3.out ps1))
  have cQ1_4 : w4.cell? ⟨Q, 1, none⟩ = some (.int .i64 0) := by rw [cell_of_row _ Q 1 _ _ _ rQ_4]; rfl
  have fQ1_4 : w4.frozen? ⟨Q, 1, none⟩ = false := frozen_of_row _ Q 1 _ _ rQ_4
  have t2 : Bt Q w4 (w4.setCell ⟨Q, 1, none⟩ (.int .i64 n1)) := Bt.sets Q [(.int .i64 n1)] 1 w4
  have pQ2 : (w4.setCell ⟨Q, 1, none⟩ (.int .i64 n1)).heap[Q]? = some (.cells #[.string s, .int .i64 n1, .int .i64 0, .int .i64 0, .int .i64 0, .int .i64 0, .int .i64 0, .int .i64 0, .int .i64 0] 40 (0, 0)) := heap_setCell_same _ Q 1 _ _ _ rQ_4
  have pP2 := t2.row (show P ≠ Q by omega) rP_4
  have pR2 := t2.row (show R ≠ Q by omega) rR_4
  have ps2 := t2.row (show b ≠ Q by omega) rs4
  have hbp2 := hb4.over t2 (show w.heap.size ≤ Q by omega)
  have HT5 := Lib.hid (HT4.out.mv t2 (by omega))
  have cP0_5 : (w4.setCell ⟨Q, 1, none⟩ (.int .i64 n1)).cell? ⟨P, 0, none⟩ = some (xp b) := by rw [cell_of_row _ P 0 _ _ _ pP2]; rfl
  go_wp2_with fail
  have Hs := Lib.hid (show ((w4.setCell ⟨Q, 1, none⟩ (.int .i64 n1))).drew.cell? ⟨P, 0, none⟩ = some (xp b) from by rw [cell_of_row ((w4.setCell ⟨Q, 1, none⟩ (.int .i64 n1))).drew P 0 _ _ _ pP2]; rfl)
  refine wp_region_held_drew (S := fun u => u.cell? ⟨P, 0, none⟩ = some (xp b)) (by kernel_rfl) Hs.out (fun hHeld => ?_)
  refine wpAnyH_take (i := 0) (oi := { dst := some 14, op := _, type := _, pos := _, after := _, guard := _ }) (v := ?v3_0) rfl (by kernel_rfl) (by kernel_rfl) (by kernel_rfl) (fun _ _ _ h => h) (Or.inl ⟨by rfl, ?hy3_0⟩) hHeld ?_
  case hy3_0 => (intro w hSw; (try dsimp only at hSw); go_simp; try with_reducible rfl)
  simp only [Act.put, List.setIfInBounds_toArray, List.set_cons_zero, List.set_cons_succ]
  refine wpAnyH_ready (rs := [1]) (by kernel_rfl) (by simp) ?_
  refine AllReadyH.cons (o := { dst := some 15, op := _, type := _, pos := _, after := _, guard := _ }) rfl (fun K hK => ?_) AllReadyH.nil
  go_simp
  go_at_call 33
  refine (HW.out _).mono ?_
  rintro ee1 v1 ⟨g1, rfl, hI1, hg1, q1⟩
  refine hK.out _ _ (cell_below Hs.out q1) (fun hHeld => ?_)
  clear hK K
  have vP1 := row_kept (show ((w4.setCell ⟨Q, 1, none⟩ (.int .i64 n1))).drew.heap[P]? = _ from pP2) q1
  have vR1 := row_kept (show ((w4.setCell ⟨Q, 1, none⟩ (.int .i64 n1))).drew.heap[R]? = _ from pR2) q1
  have vQ1 := row_kept (show ((w4.setCell ⟨Q, 1, none⟩ (.int .i64 n1))).drew.heap[Q]? = _ from pQ2) q1
  have vs1 := row_kept (show ((w4.setCell ⟨Q, 1, none⟩ (.int .i64 n1))).drew.heap[b]? = _ from ps2) q1
  have vb1 := hbp2.drew.trans (Bt.of_below q1)
  have HTv := Lib.hid ((HT5.out.on (below_dn (Below.refl _ _) 1)).on q1)
  refine wpAnyH_ready (rs := [2]) (by kernel_rfl) (by simp) ?_
  refine AllReadyH.cons (o := { dst := some 16, op := _, type := _, pos := _, after := _, guard := _ }) rfl (fun K hK => ?_) AllReadyH.nil
  go_simp
  go_at_call 59
  refine (H4.out v1 g1 vs1 hI1 (by have h1 := row_lt ps2; have h2 : ((w4.setCell ⟨Q, 1, none⟩ (.int .i64 n1))).heap.size ≤ g1 := hg1; omega)).mono ?_
  rintro ee2 v2 ⟨rfl, vs2, q2⟩
  refine hK.out _ _ (q2.cell (show P ≠ b by omega) (cell_below Hs.out q1)) (fun hHeld => ?_)
  clear hK K
  have vP2 := q2.row (show P ≠ b by omega) vP1
  have vR2 := q2.row (show R ≠ b by omega) vR1
  have vQ2 := q2.row (show Q ≠ b by omega) vQ1
  have vb2 := vb1.trans q2
  have HTw := Lib.hid (HTv.out.mv q2 (ne_scan HTv.out vs1))
  refine wpAnyH_take (i := 3) (oi := { dst := some 17, op := _, type := _, pos := _, after := _, guard := _ }) (v := ?v3_3) rfl (by kernel_rfl) (by kernel_rfl) (by kernel_rfl) (fun _ _ _ h => h) (Or.inl ⟨by rfl, ?hy3_3⟩) hHeld ?_
  case hy3_3 => (intro w hSw; (try dsimp only at hSw); go_simp; try with_reducible rfl)
  simp only [Act.put, List.setIfInBounds_toArray, List.set_cons_zero, List.set_cons_succ]
  refine wpAnyH_take (i := 4) (oi := { dst := some 18, op := _, type := _, pos := _, after := _, guard := _ }) (v := ?v3_4) rfl (by kernel_rfl) (by kernel_rfl) (by kernel_rfl) (fun _ _ _ h => h) (Or.inl ⟨by rfl, ?hy3_4⟩) hHeld ?_
  case hy3_4 => (intro w hSw; (try dsimp only at hSw); go_simp; try with_reducible rfl)
  simp only [Act.put, List.setIfInBounds_toArray, List.set_cons_zero, List.set_cons_succ]
  have cQ2_15 : v2.cell? ⟨Q, 2, none⟩ = some (.int .i64 0) := by rw [cell_of_row _ Q 2 _ _ _ vQ2]; rfl
  have fQ2_15 : v2.frozen? ⟨Q, 2, none⟩ = false := frozen_of_row _ Q 2 _ _ vQ2
  have t3 : Bt Q v2 (v2.setCell ⟨Q, 2, none⟩ (.int .i64 (1 + n2))) := Bt.sets Q [(.int .i64 (1 + n2))] 2 v2
  have HTx := Lib.hid (HTw.out.mv t3 (by omega))
  have pQ3 : (v2.setCell ⟨Q, 2, none⟩ (.int .i64 (1 + n2))).heap[Q]? = some (.cells #[.string s, .int .i64 n1, .int .i64 (1 + n2), .int .i64 0, .int .i64 0, .int .i64 0, .int .i64 0, .int .i64 0, .int .i64 0] 40 (0, 0)) := heap_setCell_same _ Q 2 _ _ _ vQ2
  have pP3 := t3.row (show P ≠ Q by omega) vP2
  have pR3 := t3.row (show R ≠ Q by omega) vR2
  have ps3 := t3.row (show b ≠ Q by omega) vs2
  have hbp3 := vb2.over t3 (show w.heap.size ≤ Q by omega)
  have cP0_16 : (v2.setCell ⟨Q, 2, none⟩ (.int .i64 (1 + n2))).cell? ⟨P, 0, none⟩ = some (xp b) := by rw [cell_of_row _ P 0 _ _ _ pP3]; rfl
  refine wpAnyH_ready (rs := [5]) (by kernel_rfl) (by simp) ?_
  refine AllReadyH.cons (o := { dst := none, op := _, type := _, pos := _, after := _, guard := _ }) rfl (fun K hK => ?_) AllReadyH.nil
  go_simp
  refine hK.out _ _ (by rw [cell_of_row _ P 0 _ _ _ pP3]; rfl) (fun hHeld => ?_)
  clear hK K
  refine wpAnyH_done (by kernel_rfl) ?_ _
  go_wp2_with fail
  refine (H5.out (v2.setCell ⟨Q, 2, none⟩ (.int .i64 (1 + n2))) ps3 HTx.out).mono ?_
  clear cQ1_4 fQ1_4 cP0_5 cQ2_15 fQ2_15 cP0_16
  rintro e17 w17 ⟨rfl, rs17, g17⟩
  have rP_17 := g17.row (show P ≠ b by omega) pP3
  have rR_17 := g17.row (show R ≠ b by omega) pR3
  have rQ_17 := g17.row (show Q ≠ b by omega) pQ3
  have hb17 := hbp3.trans g17
  have cQ3_17 : w17.cell? ⟨Q, 3, none⟩ = some (.int .i64 0) := by rw [cell_of_row _ Q 3 _ _ _ rQ_17]; rfl
  have fQ3_17 : w17.frozen? ⟨Q, 3, none⟩ = false := frozen_of_row _ Q 3 _ _ rQ_17
  have cQ4_17 : w17.cell? ⟨Q, 4, none⟩ = some (.int .i64 0) := by rw [cell_of_row _ Q 4 _ _ _ rQ_17]; rfl
  have fQ4_17 : w17.frozen? ⟨Q, 4, none⟩ = false := frozen_of_row _ Q 4 _ _ rQ_17
  have cQ5_17 : w17.cell? ⟨Q, 5, none⟩ = some (.int .i64 0) := by rw [cell_of_row _ Q 5 _ _ _ rQ_17]; rfl
  have fQ5_17 : w17.frozen? ⟨Q, 5, none⟩ = false := frozen_of_row _ Q 5 _ _ rQ_17
  have cQ6_17 : w17.cell? ⟨Q, 6, none⟩ = some (.int .i64 0) := by rw [cell_of_row _ Q 6 _ _ _ rQ_17]; rfl
  have fQ6_17 : w17.frozen? ⟨Q, 6, none⟩ = false := frozen_of_row _ Q 6 _ _ rQ_17
  have cQ7_17 : w17.cell? ⟨Q, 7, none⟩ = some (.int .i64 0) := by rw [cell_of_row _ Q 7 _ _ _ rQ_17]; rfl
  have fQ7_17 : w17.frozen? ⟨Q, 7, none⟩ = false := frozen_of_row _ Q 7 _ _ rQ_17
  have cQ8_17 : w17.cell? ⟨Q, 8, none⟩ = some (.int .i64 0) := by rw [cell_of_row _ Q 8 _ _ _ rQ_17]; rfl
  have fQ8_17 : w17.frozen? ⟨Q, 8, none⟩ = false := frozen_of_row _ Q 8 _ _ rQ_17
  have t4 : Bt Q w17 ((((((w17.setCell ⟨Q, 3, none⟩ (.int .i64 k)).setCell ⟨Q, 4, none⟩ (.int .i64 m)).setCell ⟨Q, 5, none⟩ (.int .i64 d)).setCell ⟨Q, 6, none⟩ (.int .i64 o)).setCell ⟨Q, 7, none⟩ (.int .i64 q)).setCell ⟨Q, 8, none⟩ (.int .i64 c)) := Bt.sets Q [(.int .i64 k), (.int .i64 m), (.int .i64 d), (.int .i64 o), (.int .i64 q), (.int .i64 c)] 3 w17
  have pQ4 : ((((((w17.setCell ⟨Q, 3, none⟩ (.int .i64 k)).setCell ⟨Q, 4, none⟩ (.int .i64 m)).setCell ⟨Q, 5, none⟩ (.int .i64 d)).setCell ⟨Q, 6, none⟩ (.int .i64 o)).setCell ⟨Q, 7, none⟩ (.int .i64 q)).setCell ⟨Q, 8, none⟩ (.int .i64 c)).heap[Q]? = some (.cells #[.string s, .int .i64 n1, .int .i64 (1 + n2), .int .i64 k, .int .i64 m, .int .i64 d, .int .i64 o, .int .i64 q, .int .i64 c] 40 (0, 0)) := itm_anc (.int .i64 k) (.int .i64 m) (.int .i64 d) (.int .i64 o) (.int .i64 q) (.int .i64 c) rQ_17
  have pP4 := t4.row (show P ≠ Q by omega) rP_17
  have pR4 := t4.row (show R ≠ Q by omega) rR_17
  have ps4 := t4.row (show b ≠ Q by omega) rs17
  have hbp4 := hb17.over t4 (show w.heap.size ≤ Q by omega)
  have cQ0_18 : ((((((w17.setCell ⟨Q, 3, none⟩ (.int .i64 k)).setCell ⟨Q, 4, none⟩ (.int .i64 m)).setCell ⟨Q, 5, none⟩ (.int .i64 d)).setCell ⟨Q, 6, none⟩ (.int .i64 o)).setCell ⟨Q, 7, none⟩ (.int .i64 q)).setCell ⟨Q, 8, none⟩ (.int .i64 c)).cell? ⟨Q, 0, none⟩ = some (.string s) := by rw [cell_of_row _ Q 0 _ _ _ pQ4]; rfl
  have cQ1_18 : ((((((w17.setCell ⟨Q, 3, none⟩ (.int .i64 k)).setCell ⟨Q, 4, none⟩ (.int .i64 m)).setCell ⟨Q, 5, none⟩ (.int .i64 d)).setCell ⟨Q, 6, none⟩ (.int .i64 o)).setCell ⟨Q, 7, none⟩ (.int .i64 q)).setCell ⟨Q, 8, none⟩ (.int .i64 c)).cell? ⟨Q, 1, none⟩ = some (.int .i64 n1) := by rw [cell_of_row _ Q 1 _ _ _ pQ4]; rfl
  have cQ2_18 : ((((((w17.setCell ⟨Q, 3, none⟩ (.int .i64 k)).setCell ⟨Q, 4, none⟩ (.int .i64 m)).setCell ⟨Q, 5, none⟩ (.int .i64 d)).setCell ⟨Q, 6, none⟩ (.int .i64 o)).setCell ⟨Q, 7, none⟩ (.int .i64 q)).setCell ⟨Q, 8, none⟩ (.int .i64 c)).cell? ⟨Q, 2, none⟩ = some (.int .i64 (1 + n2)) := by rw [cell_of_row _ Q 2 _ _ _ pQ4]; rfl
  have cQ3_18 : ((((((w17.setCell ⟨Q, 3, none⟩ (.int .i64 k)).setCell ⟨Q, 4, none⟩ (.int .i64 m)).setCell ⟨Q, 5, none⟩ (.int .i64 d)).setCell ⟨Q, 6, none⟩ (.int .i64 o)).setCell ⟨Q, 7, none⟩ (.int .i64 q)).setCell ⟨Q, 8, none⟩ (.int .i64 c)).cell? ⟨Q, 3, none⟩ = some (.int .i64 k) := by rw [cell_of_row _ Q 3 _ _ _ pQ4]; rfl
  have cQ4_18 : ((((((w17.setCell ⟨Q, 3, none⟩ (.int .i64 k)).setCell ⟨Q, 4, none⟩ (.int .i64 m)).setCell ⟨Q, 5, none⟩ (.int .i64 d)).setCell ⟨Q, 6, none⟩ (.int .i64 o)).setCell ⟨Q, 7, none⟩ (.int .i64 q)).setCell ⟨Q, 8, none⟩ (.int .i64 c)).cell? ⟨Q, 4, none⟩ = some (.int .i64 m) := by rw [cell_of_row _ Q 4 _ _ _ pQ4]; rfl
  have cQ5_18 : ((((((w17.setCell ⟨Q, 3, none⟩ (.int .i64 k)).setCell ⟨Q, 4, none⟩ (.int .i64 m)).setCell ⟨Q, 5, none⟩ (.int .i64 d)).setCell ⟨Q, 6, none⟩ (.int .i64 o)).setCell ⟨Q, 7, none⟩ (.int .i64 q)).setCell ⟨Q, 8, none⟩ (.int .i64 c)).cell? ⟨Q, 5, none⟩ = some (.int .i64 d) := by rw [cell_of_row _ Q 5 _ _ _ pQ4]; rfl
  have cQ6_18 : ((((((w17.setCell ⟨Q, 3, none⟩ (.int .i64 k)).setCell ⟨Q, 4, none⟩ (.int .i64 m)).setCell ⟨Q, 5, none⟩ (.int .i64 d)).setCell ⟨Q, 6, none⟩ (.int .i64 o)).setCell ⟨Q, 7, none⟩ (.int .i64 q)).setCell ⟨Q, 8, none⟩ (.int .i64 c)).cell? ⟨Q, 6, none⟩ = some (.int .i64 o) := by rw [cell_of_row _ Q 6 _ _ _ pQ4]; rfl
  have cQ7_18 : ((((((w17.setCell ⟨Q, 3, none⟩ (.int .i64 k)).setCell ⟨Q, 4, none⟩ (.int .i64 m)).setCell ⟨Q, 5, none⟩ (.int .i64 d)).setCell ⟨Q, 6, none⟩ (.int .i64 o)).setCell ⟨Q, 7, none⟩ (.int .i64 q)).setCell ⟨Q, 8, none⟩ (.int .i64 c)).cell? ⟨Q, 7, none⟩ = some (.int .i64 q) := by rw [cell_of_row _ Q 7 _ _ _ pQ4]; rfl
  have cQ8_18 : ((((((w17.setCell ⟨Q, 3, none⟩ (.int .i64 k)).setCell ⟨Q, 4, none⟩ (.int .i64 m)).setCell ⟨Q, 5, none⟩ (.int .i64 d)).setCell ⟨Q, 6, none⟩ (.int .i64 o)).setCell ⟨Q, 7, none⟩ (.int .i64 q)).setCell ⟨Q, 8, none⟩ (.int .i64 c)).cell? ⟨Q, 8, none⟩ = some (.int .i64 c) := by rw [cell_of_row _ Q 8 _ _ _ pQ4]; rfl
  have cR0_18 : ((((((w17.setCell ⟨Q, 3, none⟩ (.int .i64 k)).setCell ⟨Q, 4, none⟩ (.int .i64 m)).setCell ⟨Q, 5, none⟩ (.int .i64 d)).setCell ⟨Q, 6, none⟩ (.int .i64 o)).setCell ⟨Q, 7, none⟩ (.int .i64 q)).setCell ⟨Q, 8, none⟩ (.int .i64 c)).cell? ⟨R, 0, none⟩ = some (.string ⟨#[]⟩) := by rw [cell_of_row _ R 0 _ _ _ pR4]; rfl
  have fR0_18 : ((((((w17.setCell ⟨Q, 3, none⟩ (.int .i64 k)).setCell ⟨Q, 4, none⟩ (.int .i64 m)).setCell ⟨Q, 5, none⟩ (.int .i64 d)).setCell ⟨Q, 6, none⟩ (.int .i64 o)).setCell ⟨Q, 7, none⟩ (.int .i64 q)).setCell ⟨Q, 8, none⟩ (.int .i64 c)).frozen? ⟨R, 0, none⟩ = false := frozen_of_row _ R 0 _ _ pR4
  have cR1_18 : ((((((w17.setCell ⟨Q, 3, none⟩ (.int .i64 k)).setCell ⟨Q, 4, none⟩ (.int .i64 m)).setCell ⟨Q, 5, none⟩ (.int .i64 d)).setCell ⟨Q, 6, none⟩ (.int .i64 o)).setCell ⟨Q, 7, none⟩ (.int .i64 q)).setCell ⟨Q, 8, none⟩ (.int .i64 c)).cell? ⟨R, 1, none⟩ = some (.int .i64 0) := by rw [cell_of_row _ R 1 _ _ _ pR4]; rfl
  have fR1_18 : ((((((w17.setCell ⟨Q, 3, none⟩ (.int .i64 k)).setCell ⟨Q, 4, none⟩ (.int .i64 m)).setCell ⟨Q, 5, none⟩ (.int .i64 d)).setCell ⟨Q, 6, none⟩ (.int .i64 o)).setCell ⟨Q, 7, none⟩ (.int .i64 q)).setCell ⟨Q, 8, none⟩ (.int .i64 c)).frozen? ⟨R, 1, none⟩ = false := frozen_of_row _ R 1 _ _ pR4
  have cR2_18 : ((((((w17.setCell ⟨Q, 3, none⟩ (.int .i64 k)).setCell ⟨Q, 4, none⟩ (.int .i64 m)).setCell ⟨Q, 5, none⟩ (.int .i64 d)).setCell ⟨Q, 6, none⟩ (.int .i64 o)).setCell ⟨Q, 7, none⟩ (.int .i64 q)).setCell ⟨Q, 8, none⟩ (.int .i64 c)).cell? ⟨R, 2, none⟩ = some (.int .i64 0) := by rw [cell_of_row _ R 2 _ _ _ pR4]; rfl
  have fR2_18 : ((((((w17.setCell ⟨Q, 3, none⟩ (.int .i64 k)).setCell ⟨Q, 4, none⟩ (.int .i64 m)).setCell ⟨Q, 5, none⟩ (.int .i64 d)).setCell ⟨Q, 6, none⟩ (.int .i64 o)).setCell ⟨Q, 7, none⟩ (.int .i64 q)).setCell ⟨Q, 8, none⟩ (.int .i64 c)).frozen? ⟨R, 2, none⟩ = false := frozen_of_row _ R 2 _ _ pR4
  have cR3_18 : ((((((w17.setCell ⟨Q, 3, none⟩ (.int .i64 k)).setCell ⟨Q, 4, none⟩ (.int .i64 m)).setCell ⟨Q, 5, none⟩ (.int .i64 d)).setCell ⟨Q, 6, none⟩ (.int .i64 o)).setCell ⟨Q, 7, none⟩ (.int .i64 q)).setCell ⟨Q, 8, none⟩ (.int .i64 c)).cell? ⟨R, 3, none⟩ = some (.int .i64 0) := by rw [cell_of_row _ R 3 _ _ _ pR4]; rfl
  have fR3_18 : ((((((w17.setCell ⟨Q, 3, none⟩ (.int .i64 k)).setCell ⟨Q, 4, none⟩ (.int .i64 m)).setCell ⟨Q, 5, none⟩ (.int .i64 d)).setCell ⟨Q, 6, none⟩ (.int .i64 o)).setCell ⟨Q, 7, none⟩ (.int .i64 q)).setCell ⟨Q, 8, none⟩ (.int .i64 c)).frozen? ⟨R, 3, none⟩ = false := frozen_of_row _ R 3 _ _ pR4
  have cR4_18 : ((((((w17.setCell ⟨Q, 3, none⟩ (.int .i64 k)).setCell ⟨Q, 4, none⟩ (.int .i64 m)).setCell ⟨Q, 5, none⟩ (.int .i64 d)).setCell ⟨Q, 6, none⟩ (.int .i64 o)).setCell ⟨Q, 7, none⟩ (.int .i64 q)).setCell ⟨Q, 8, none⟩ (.int .i64 c)).cell? ⟨R, 4, none⟩ = some (.int .i64 0) := by rw [cell_of_row _ R 4 _ _ _ pR4]; rfl
  have fR4_18 : ((((((w17.setCell ⟨Q, 3, none⟩ (.int .i64 k)).setCell ⟨Q, 4, none⟩ (.int .i64 m)).setCell ⟨Q, 5, none⟩ (.int .i64 d)).setCell ⟨Q, 6, none⟩ (.int .i64 o)).setCell ⟨Q, 7, none⟩ (.int .i64 q)).setCell ⟨Q, 8, none⟩ (.int .i64 c)).frozen? ⟨R, 4, none⟩ = false := frozen_of_row _ R 4 _ _ pR4
  have cR5_18 : ((((((w17.setCell ⟨Q, 3, none⟩ (.int .i64 k)).setCell ⟨Q, 4, none⟩ (.int .i64 m)).setCell ⟨Q, 5, none⟩ (.int .i64 d)).setCell ⟨Q, 6, none⟩ (.int .i64 o)).setCell ⟨Q, 7, none⟩ (.int .i64 q)).setCell ⟨Q, 8, none⟩ (.int .i64 c)).cell? ⟨R, 5, none⟩ = some (.int .i64 0) := by rw [cell_of_row _ R 5 _ _ _ pR4]; rfl
  have fR5_18 : ((((((w17.setCell ⟨Q, 3, none⟩ (.int .i64 k)).setCell ⟨Q, 4, none⟩ (.int .i64 m)).setCell ⟨Q, 5, none⟩ (.int .i64 d)).setCell ⟨Q, 6, none⟩ (.int .i64 o)).setCell ⟨Q, 7, none⟩ (.int .i64 q)).setCell ⟨Q, 8, none⟩ (.int .i64 c)).frozen? ⟨R, 5, none⟩ = false := frozen_of_row _ R 5 _ _ pR4
  have cR6_18 : ((((((w17.setCell ⟨Q, 3, none⟩ (.int .i64 k)).setCell ⟨Q, 4, none⟩ (.int .i64 m)).setCell ⟨Q, 5, none⟩ (.int .i64 d)).setCell ⟨Q, 6, none⟩ (.int .i64 o)).setCell ⟨Q, 7, none⟩ (.int .i64 q)).setCell ⟨Q, 8, none⟩ (.int .i64 c)).cell? ⟨R, 6, none⟩ = some (.int .i64 0) := by rw [cell_of_row _ R 6 _ _ _ pR4]; rfl
  have fR6_18 : ((((((w17.setCell ⟨Q, 3, none⟩ (.int .i64 k)).setCell ⟨Q, 4, none⟩ (.int .i64 m)).setCell ⟨Q, 5, none⟩ (.int .i64 d)).setCell ⟨Q, 6, none⟩ (.int .i64 o)).setCell ⟨Q, 7, none⟩ (.int .i64 q)).setCell ⟨Q, 8, none⟩ (.int .i64 c)).frozen? ⟨R, 6, none⟩ = false := frozen_of_row _ R 6 _ _ pR4
  have cR7_18 : ((((((w17.setCell ⟨Q, 3, none⟩ (.int .i64 k)).setCell ⟨Q, 4, none⟩ (.int .i64 m)).setCell ⟨Q, 5, none⟩ (.int .i64 d)).setCell ⟨Q, 6, none⟩ (.int .i64 o)).setCell ⟨Q, 7, none⟩ (.int .i64 q)).setCell ⟨Q, 8, none⟩ (.int .i64 c)).cell? ⟨R, 7, none⟩ = some (.int .i64 0) := by rw [cell_of_row _ R 7 _ _ _ pR4]; rfl
  have fR7_18 : ((((((w17.setCell ⟨Q, 3, none⟩ (.int .i64 k)).setCell ⟨Q, 4, none⟩ (.int .i64 m)).setCell ⟨Q, 5, none⟩ (.int .i64 d)).setCell ⟨Q, 6, none⟩ (.int .i64 o)).setCell ⟨Q, 7, none⟩ (.int .i64 q)).setCell ⟨Q, 8, none⟩ (.int .i64 c)).frozen? ⟨R, 7, none⟩ = false := frozen_of_row _ R 7 _ _ pR4
  have cR8_18 : ((((((w17.setCell ⟨Q, 3, none⟩ (.int .i64 k)).setCell ⟨Q, 4, none⟩ (.int .i64 m)).setCell ⟨Q, 5, none⟩ (.int .i64 d)).setCell ⟨Q, 6, none⟩ (.int .i64 o)).setCell ⟨Q, 7, none⟩ (.int .i64 q)).setCell ⟨Q, 8, none⟩ (.int .i64 c)).cell? ⟨R, 8, none⟩ = some (.int .i64 0) := by rw [cell_of_row _ R 8 _ _ _ pR4]; rfl
  have fR8_18 : ((((((w17.setCell ⟨Q, 3, none⟩ (.int .i64 k)).setCell ⟨Q, 4, none⟩ (.int .i64 m)).setCell ⟨Q, 5, none⟩ (.int .i64 d)).setCell ⟨Q, 6, none⟩ (.int .i64 o)).setCell ⟨Q, 7, none⟩ (.int .i64 q)).setCell ⟨Q, 8, none⟩ (.int .i64 c)).frozen? ⟨R, 8, none⟩ = false := frozen_of_row _ R 8 _ _ pR4
  have t5 : Bt R ((((((w17.setCell ⟨Q, 3, none⟩ (.int .i64 k)).setCell ⟨Q, 4, none⟩ (.int .i64 m)).setCell ⟨Q, 5, none⟩ (.int .i64 d)).setCell ⟨Q, 6, none⟩ (.int .i64 o)).setCell ⟨Q, 7, none⟩ (.int .i64 q)).setCell ⟨Q, 8, none⟩ (.int .i64 c)) (((((((((((((((w17.setCell ⟨Q, 3, none⟩ (.int .i64 k)).setCell ⟨Q, 4, none⟩ (.int .i64 m)).setCell ⟨Q, 5, none⟩ (.int .i64 d)).setCell ⟨Q, 6, none⟩ (.int .i64 o)).setCell ⟨Q, 7, none⟩ (.int .i64 q)).setCell ⟨Q, 8, none⟩ (.int .i64 c)).setCell ⟨R, 0, none⟩ (.string s)).setCell ⟨R, 1, none⟩ (.int .i64 n1)).setCell ⟨R, 2, none⟩ (.int .i64 (1 + n2))).setCell ⟨R, 3, none⟩ (.int .i64 k)).setCell ⟨R, 4, none⟩ (.int .i64 m)).setCell ⟨R, 5, none⟩ (.int .i64 d)).setCell ⟨R, 6, none⟩ (.int .i64 o)).setCell ⟨R, 7, none⟩ (.int .i64 q)).setCell ⟨R, 8, none⟩ (.int .i64 c)) := Bt.sets R [(.string s), (.int .i64 n1), (.int .i64 (1 + n2)), (.int .i64 k), (.int .i64 m), (.int .i64 d), (.int .i64 o), (.int .i64 q), (.int .i64 c)] 0 ((((((w17.setCell ⟨Q, 3, none⟩ (.int .i64 k)).setCell ⟨Q, 4, none⟩ (.int .i64 m)).setCell ⟨Q, 5, none⟩ (.int .i64 d)).setCell ⟨Q, 6, none⟩ (.int .i64 o)).setCell ⟨Q, 7, none⟩ (.int .i64 q)).setCell ⟨Q, 8, none⟩ (.int .i64 c))
  have pR5 : (((((((((((((((w17.setCell ⟨Q, 3, none⟩ (.int .i64 k)).setCell ⟨Q, 4, none⟩ (.int .i64 m)).setCell ⟨Q, 5, none⟩ (.int .i64 d)).setCell ⟨Q, 6, none⟩ (.int .i64 o)).setCell ⟨Q, 7, none⟩ (.int .i64 q)).setCell ⟨Q, 8, none⟩ (.int .i64 c)).setCell ⟨R, 0, none⟩ (.string s)).setCell ⟨R, 1, none⟩ (.int .i64 n1)).setCell ⟨R, 2, none⟩ (.int .i64 (1 + n2))).setCell ⟨R, 3, none⟩ (.int .i64 k)).setCell ⟨R, 4, none⟩ (.int .i64 m)).setCell ⟨R, 5, none⟩ (.int .i64 d)).setCell ⟨R, 6, none⟩ (.int .i64 o)).setCell ⟨R, 7, none⟩ (.int .i64 q)).setCell ⟨R, 8, none⟩ (.int .i64 c)).heap[R]? = some (.cells #[.string s, .int .i64 n1, .int .i64 (1 + n2), .int .i64 k, .int .i64 m, .int .i64 d, .int .i64 o, .int .i64 q, .int .i64 c] 40 (0, 0)) := itm_all (.string s) (.int .i64 n1) (.int .i64 (1 + n2)) (.int .i64 k) (.int .i64 m) (.int .i64 d) (.int .i64 o) (.int .i64 q) (.int .i64 c) pR4
  have pP5 := t5.row (show P ≠ R by omega) pP4
  have pQ5 := t5.row (show Q ≠ R by omega) pQ4
  have ps5 := t5.row (show b ≠ R by omega) ps4
  have hbp5 := hbp4.over t5 (show w.heap.size ≤ R by omega)
  go_wp2_with fail
  obtain ⟨u9, hu9⟩ : ∃ u9, u9 = (((((((((((((((w17.setCell ⟨Q, 3, none⟩ (.int .i64 k)).setCell ⟨Q, 4, none⟩ (.int .i64 m)).setCell ⟨Q, 5, none⟩ (.int .i64 d)).setCell ⟨Q, 6, none⟩ (.int .i64 o)).setCell ⟨Q, 7, none⟩ (.int .i64 q)).setCell ⟨Q, 8, none⟩ (.int .i64 c)).setCell ⟨R, 0, none⟩ (.string s)).setCell ⟨R, 1, none⟩ (.int .i64 n1)).setCell ⟨R, 2, none⟩ (.int .i64 (1 + n2))).setCell ⟨R, 3, none⟩ (.int .i64 k)).setCell ⟨R, 4, none⟩ (.int .i64 m)).setCell ⟨R, 5, none⟩ (.int .i64 d)).setCell ⟨R, 6, none⟩ (.int .i64 o)).setCell ⟨R, 7, none⟩ (.int .i64 q)).setCell ⟨R, 8, none⟩ (.int .i64 c)) := ⟨_, rfl⟩
  rw [← hu9] at pR5 ps5 hbp5 ⊢
  have k0 : u9.cell? ⟨R, 0, none⟩ = some (.string s) := by rw [cell_of_row _ R 0 _ _ _ pR5]; rfl
  have k1 : u9.cell? ⟨R, 1, none⟩ = some (.int .i64 n1) := by rw [cell_of_row _ R 1 _ _ _ pR5]; rfl
  have k2 : u9.cell? ⟨R, 2, none⟩ = some (.int .i64 (1 + n2)) := by rw [cell_of_row _ R 2 _ _ _ pR5]; rfl
  have k3 : u9.cell? ⟨R, 3, none⟩ = some (.int .i64 k) := by rw [cell_of_row _ R 3 _ _ _ pR5]; rfl
  have k4 : u9.cell? ⟨R, 4, none⟩ = some (.int .i64 m) := by rw [cell_of_row _ R 4 _ _ _ pR5]; rfl
  have k5 : u9.cell? ⟨R, 5, none⟩ = some (.int .i64 d) := by rw [cell_of_row _ R 5 _ _ _ pR5]; rfl
  have k6 : u9.cell? ⟨R, 6, none⟩ = some (.int .i64 o) := by rw [cell_of_row _ R 6 _ _ _ pR5]; rfl
  have k7 : u9.cell? ⟨R, 7, none⟩ = some (.int .i64 q) := by rw [cell_of_row _ R 7 _ _ _ pR5]; rfl
  have k8 : u9.cell? ⟨R, 8, none⟩ = some (.int .i64 c) := by rw [cell_of_row _ R 8 _ _ _ pR5]; rfl
  exact bodyPost_ret (v := .agg #[.string s, .int .i64 n1, .int .i64 (1 + n2), .int .i64 k, .int .i64 m, .int .i64 d, .int .i64 o, .int .i64 q, .int .i64 c]) (by simp [results, Tryz.results38, go_sem, k0, k1, k2, k3, k4, k5, k6, k7, k8]) rfl ⟨rfl, ps5, hbp5⟩
end Go.Proofs.YtaamdimgloblpaaGreatDoor

namespace Go.Proofs.YtaamdimgloblpaaGreatDoor
open Go.RowKit

theorem lt_big {S : ByteArray} (h : S.size ≤ 100000) : S.size < big := Nat.lt_of_le_of_lt h (by unfold big; decide)
section
variable {S : ByteArray} {b : Nat} {x : Sc} {w : World}
theorem p26cho {g cap : Nat} {ws : List ByteArray} (h : w.heap[b]? = some (scX S x)) (hk : x.k ≤ S.size) (hs : S.size ≤ 100000) (hW : StrsIn g cap ws w) (hgb : g ≠ b) (hw : Wds ws) :
    Calls Tryz.prog 59 #[pv b, .slice (some ⟨g, 0, none⟩) ws.length cap] w fun r w' => r = .returned (.int .i64 (zC ws S x).1) ∧ w'.heap[b]? = some (scX S (zC ws S x).2) ∧ Bt b w w' :=
  p26cho_go (j := (yW [wSp] S (yW ws S x).2).1) h (fun _ hu hb => xw_sc hu hk (lt_big hs) (hW.on hb) hgb hw) (fun _ hu => xw_one hu ((gd_W ws).le S x hk).2 (lt_big hs) wds_wSp)
theorem yI_small (hk : x.k ≤ S.size) : (yI S x).1.size ≤ 40 := by
  obtain ⟨k, b⟩ := x
  cases b
  · show (idV S k).size ≤ 40
    unfold idV
    split
    · decide
    · have := idL_le S k hk
      rw [ByteArray.size_extract]; omega
  · show (ByteArray.mk #[]).size ≤ 40
    decide
theorem p26ide (h : w.heap[b]? = some (scX S x)) (hk : x.k ≤ S.size) (hs : S.size ≤ 100000) :
    Calls Tryz.prog 57 #[pv b] w fun r w' => r = .returned (.string (zI S x).1) ∧ w'.heap[b]? = some (scX S (zI S x).2) ∧ Bt b w w' :=
  p26ide_go (i := (yW [wSp] S (yI S x).2).1) h (fun _ hu => xi_sc hu hk (lt_big hs)) (fun u => p26clo _ (Nat.le_trans (yI_small hk) (by decide)) u) (fun _ hu => xw_one hu (gd_I.le S x hk).2 (lt_big hs) wds_wSp)
theorem p26fix (h : w.heap[b]? = some (scX S x)) (hk : x.k ≤ S.size) (hs : S.size ≤ 100000) :
    Calls Tryz.prog 79 #[pv b] w fun r w' => r = .returned (anc26 (pFix S x).1) ∧ w'.heap[b]? = some (scX S (pFix S x).2) ∧ Bt b w w' :=
  p26fix_go h (fun _ hu => p26num hu hk (lt_big hs) wds_wSp) (fun _ hu => p26num hu ((gd_zN wSp).le S x hk).2 (lt_big hs) wds_wLf)
theorem p26eas (h : w.heap[b]? = some (scX S x)) (hk : x.k ≤ S.size) (hs : S.size ≤ 100000) :
    Calls Tryz.prog 80 #[pv b] w fun r w' => r = .returned (anc26 (pEas S x).1) ∧ w'.heap[b]? = some (scX S (pEas S x).2) ∧ Bt b w w' :=
  p26eas_go h (fun _ hu => p26num hu hk (lt_big hs) wds_wLf)
theorem p26nth (h : w.heap[b]? = some (scX S x)) (hk : x.k ≤ S.size) (hs : S.size ≤ 100000) (hT : WTab w) :
    Calls Tryz.prog 81 #[pv b] w fun r w' => r = .returned (anc26 (pNth S x).1) ∧ w'.heap[b]? = some (scX S (pNth S x).2) ∧ Bt b w w' := by
  have k1 := ((gd_zC lWd).le S x hk).2
  have k2 := ((gd_zN wSp).le S _ k1).2
  have k3 := ((gd_zN wSp).le S _ k2).2
  exact p26nth_go h hT (fun u hu => p26wwd u hu) (fun _ _ _ hu hI hg => p26cho hu hk hs hI hg wds_lWd) (fun _ hu => p26num hu k1 (lt_big hs) wds_wSp) (fun _ hu => p26num hu k2 (lt_big hs) wds_wSp) (fun _ hu => p26num hu k3 (lt_big hs) wds_wLf)
theorem zC_cases (ws : List ByteArray) : (zC ws S x).1 = -1 ∨ (0 ≤ (zC ws S x).1 ∧ (zC ws S x).1 < ws.length) := by
  obtain ⟨k, b⟩ := x
  cases b
  · show wdI S k ws = -1 ∨ (0 ≤ wdI S k ws ∧ wdI S k ws < ws.length)
    unfold wdI
    cases e : wdF S k ws with
    | none => exact .inl rfl
    | some i => exact .inr ⟨by show (0 : Int) ≤ i; omega, by have := (wdF_some e).1; show (i : Int) < ws.length; omega⟩
  · exact .inl rfl
theorem p26cho3 {u : World} (h : u.heap[b]? = some (scX S x)) (hk : x.k ≤ S.size) (hs : S.size ≤ 100000) :
    Calls Tryz.prog 59 #[pv b, .slice (some ⟨u.heap.size, 0, none⟩) 3 3] (u.alloc (.cells #[.string wFix, .string wEas, .string wNth] 9)) fun r w' => r = .returned (.int .i64 (zC lAn S x).1) ∧ w'.heap[b]? = some (scX S (zC lAn S x).2) ∧ Bt b u w' :=
  (p26cho (ws := lAn) (row_kept h (al1 u _)) hk hs (lit3 wFix wEas wNth _) (by have := row_lt h; omega) wds_lAn).mono fun _ _ ⟨h1, h2, h3⟩ => ⟨h1, h2, (Bt.al b u _).trans h3⟩
theorem p26anc (h : w.heap[b]? = some (scX S x)) (hk : x.k ≤ S.size) (hs : S.size ≤ 100000) (hT : WTab w) :
    Calls Tryz.prog 58 #[pv b] w fun r w' => r = .returned (anc26 (pAnc S x).1) ∧ w'.heap[b]? = some (scX S (pAnc S x).2) ∧ Bt b w w' := by
  have k1 := ((gd_zC lAn).le S x hk).2
  have hc : (zC lAn S x).1 = 0 ∨ (zC lAn S x).1 = 1 ∨ (zC lAn S x).1 = 2 ∨ (zC lAn S x).1 = -1 := by
    rcases zC_cases (S := S) (x := x) lAn with e | ⟨e1, e2⟩
    · exact .inr (.inr (.inr e))
    · have e2 : (zC lAn S x).1 < 3 := e2
      omega
  have H : ∀ u : World, u.heap[b]? = some (scX S x) → _ := fun u hu => p26cho3 (u := u) hu hk hs
  rcases hc with e | e | e | e
  · have ep : pAnc S x = pFix S (zC lAn S x).2 := by show pAnx (zC lAn S x).1 S _ = _; rw [e]; rfl
    rw [ep]; rw [e] at H
    exact p26anc_go0 h H (fun _ hu => p26fix hu k1 hs)
  · have ep : pAnc S x = pEas S (zC lAn S x).2 := by show pAnx (zC lAn S x).1 S _ = _; rw [e]; rfl
    rw [ep]; rw [e] at H
    exact p26anc_go1 h H (fun _ hu => p26eas hu k1 hs)
  · have ep : pAnc S x = pNth S (zC lAn S x).2 := by show pAnx (zC lAn S x).1 S _ = _; rw [e]; rfl
    rw [ep]; rw [e] at H
    exact p26anc_go2 h hT H (fun _ hu hT => p26nth hu k1 hs hT)
  · have ep : pAnc S x = (⟨0, 0, 0, 0, 0, 0⟩, (zC lAn S x).2) := by show pAnx (zC lAn S x).1 S _ = _; rw [e]; rfl
    rw [ep]; rw [e] at H
    exact p26anc_go3 h H
theorem p26sea (h : w.heap[b]? = some (scX S x)) (hk : x.k ≤ S.size) (hs : S.size ≤ 100000) (hT : WTab w) :
    Calls Tryz.prog 37 #[pv b] w fun r w' => r = .returned (.agg (pSea S x).1.vals) ∧ w'.heap[b]? = some (scX S (pSea S x).2) ∧ Bt b w w' := by
  have k1 := ((gd_W [wSea]).le S x hk).2
  have k2 := (gd_zI.le S _ k1).2
  have k3 := ((gd_zN wSp).le S _ k2).2
  have k4 := ((gd_zN wSp).le S _ k3).2
  exact p26sea_go (j := (yW [wSea] S x).1) h hT (fun _ hu => xw_one (e := wSea) hu hk (lt_big hs) wds_wSea) (fun _ hu => p26ide hu k1 hs) (fun _ hu => p26num hu k2 (lt_big hs) wds_wSp) (fun _ hu => p26num hu k3 (lt_big hs) wds_wSp) (fun _ hu hT => p26anc hu k4 hs hT)
theorem p26fea (h : w.heap[b]? = some (scX S x)) (hk : x.k ≤ S.size) (hs : S.size ≤ 100000) (hT : WTab w) :
    Calls Tryz.prog 38 #[pv b] w fun r w' => r = .returned (.agg (pFea S x).1.vals) ∧ w'.heap[b]? = some (scX S (pFea S x).2) ∧ Bt b w w' := by
  have k1 := ((gd_W [wFea]).le S x hk).2
  have k2 := (gd_zI.le S _ k1).2
  have k3 := ((gd_zN wSp).le S _ k2).2
  have k4 := ((gd_zC lPo).le S _ k3).2
  exact p26fea_go (j := (yW [wFea] S x).1) h hT (fun _ hu => xw_one (e := wFea) hu hk (lt_big hs) wds_wFea) (fun _ hu => p26ide hu k1 hs) (fun _ hu => p26num hu k2 (lt_big hs) wds_wSp) (fun u => p26pol u) (fun _ _ hu hI hg => p26cho (ws := lPo) hu k3 hs hI hg wds_lPo)
    (by rcases zC_cases (S := S) (x := (zN wSp S (zI S (yW [wFea] S x).2).2).2) lPo with e | ⟨e1, e2⟩
        · rw [e]; omega
        · have e2 : (zC lPo S (zN wSp S (zI S (yW [wFea] S x).2).2).2).1 < 3 := e2
          omega) (fun _ hu hT => p26anc hu k4 hs hT)
theorem p26beg {t : ByteArray} (d : Int) (h : w.heap[b]? = some (scX S x)) (hk : x.k ≤ S.size) (hd : bt t 0 = d) (h1 : 1 ≤ t.size) :
    Calls Tryz.prog 36 #[pv b, .string t] w fun e w' => e = .returned (.bool (fpV x.b S x.k == d)) ∧ Below w.heap.size w w' :=
  p26beg_go (d := d) h (fun _ hu => xp_all hu hk) (fun u => by have e := idx_str t 0 (Int.le_refl _) (by omega) u; rw [show (0 : Int).toNat = 0 from rfl, hd] at e; exact e) rfl
end

def msr (S : ByteArray) (y : Sc) : Nat := S.size - y.k + (if y.b then 0 else 1)
def msW (S : ByteArray) (b : Nat) (w : World) : Nat := S.size - (intOf ((w.cell? ⟨b, 1, none⟩).getD undef)).toNat + (match w.cell? ⟨b, 2, none⟩ with | some (.bool true) => 0 | _ => 1)
theorem msW_is {S : ByteArray} {b : Nat} {y : Sc} {w : World} (h : w.heap[b]? = some (scX S y)) : msW S b w = msr S y := by
  obtain ⟨c0, c1, c2, -⟩ := sc_facts h
  unfold msW msr
  rw [c1, c2]
  obtain ⟨k, bb⟩ := y
  cases bb <;> rfl
theorem msr_step {f : Prs Itm} (G : Gk f) (A : Adv f) {S : ByteArray} {y : Sc} (hk : y.k ≤ S.size) (hb : y.b = false) : msr S (f S y).2 < msr S y := by
  have h1 := (G.le S y hk)
  have h2 := A S y hk
  unfold msr
  rw [hb]
  cases q : (f S y).2.b
  · have := h2 q
    show _ + 1 < _ + 1
    omega
  · show _ + 0 < _ + 1
    omega
/-- The state of the loops of catalogue. -/
structure CL (S : ByteArray) (b P R Q : Nat) (W : World) (free : Int) (vS vF : Value) (ls lf : List Itm) (y : Sc) (u : World) : Prop where
  p : u.heap[P]? = some (.cells #[xp b] 59 (0, 0))
  r : u.heap[R]? = some (.cells #[.int .i64 0, .slice none 0 0, .slice none 0 0] 25 (0, 0))
  q : u.heap[Q]? = some (.cells #[.int .i64 free, vS, vF] 25 (0, 0))
  s : u.heap[b]? = some (scX S y)
  bt : Bt b W u
  t : WTab u
  z : Q + 1 ≤ u.heap.size
  os : ItsAt 38 (Q + 1) vS ls u
  of : ItsAt 40 (Q + 1) vF lf u
theorem ItsAt.bt {t : TypeId} {B b : Nat} {v : Value} {xs : List Itm} {w w' : World} (h : ItsAt t B v xs w) (hb : Bt b w w') (hB : b < B) : ItsAt t B v xs w' := by
  refine World.ownsRow.kept h (row := some b) ⟨hb.os, hb.tape, hb.output, hb.size, fun k hk hne => hb.block k hk (fun e => hne (by rw [e]))⟩ ?_
  rcases h.2 with ⟨rfl, _⟩ | ⟨g, cap, cur, rfl, hg, _⟩
  · exact .inl rfl
  · right; simp [Value.ownBlock]; omega
section
variable {S : ByteArray} {b P R Q : Nat} {W : World} {free : Int} {vS vF : Value} {ls lf : List Itm} {y : Sc} {u u' : World}
theorem CL.below (h : CL S b P R Q W free vS vF ls lf y u) (hb : Below u.heap.size u u') : CL S b P R Q W free vS vF ls lf y u' :=
  ⟨row_kept h.p hb, row_kept h.r hb, row_kept h.q hb, row_kept h.s hb, h.bt.trans (.of_below hb), h.t.on hb, Nat.le_trans h.z hb.size, h.os.on hb, h.of.on hb⟩
theorem CL.call (h : CL S b P R Q W free vS vF ls lf y u) (lp : b < P) (lr : P < R) (lq : R < Q) {y' : Sc} (hs : u'.heap[b]? = some (scX S y')) (hb : Bt b u u') : CL S b P R Q W free vS vF ls lf y' u' :=
  ⟨hb.row (by omega) h.p, hb.row (by omega) h.r, hb.row (by omega) h.q, hs, h.bt.trans hb, h.t.mv hb (ne_scan h.t h.s), Nat.le_trans h.z hb.size, h.os.bt hb (by omega), h.of.bt hb (by omega)⟩
end
theorem own_ne {t T : TypeId} {B c : Nat} {v : Value} {xs : List Itm} {w : World} {cs : Array Value} {fr : Nat × Nat} (h : ItsAt t B v xs w) (hr : w.heap[c]? = some (.cells cs T fr)) (ht : T ≠ t) : some c ≠ v.ownBlock := fun e => by
  rcases h.2 with ⟨rfl, _⟩ | ⟨g, cap, cur, rfl, _, hg, _⟩
  · cases e
  · obtain rfl : c = g := by simpa [Value.ownBlock] using e
    rw [hr] at hg
    injection hg with hg
    injection hg with _ h2 _
    exact ht h2
theorem CL.adds {S : ByteArray} {b P R Q : Nat} {W : World} {free : Int} {vS vF vN : Value} {ls lf : List Itm} {t : Itm} {y : Sc} {u wz : World} (h : CL S b P R Q W free vS vF ls lf y u) (lw : W.heap.size = P) (lg : 1 < P) (lp : b < P) (lr : P < R) (lq : R < Q)
    (hown : wz.ownsRow (Q + 1) 38 9 vN (ls.length + 1) (flat9 ls ++ flat9 [t])) (hg : u.grownBy wz vS.ownBlock) :
    CL S b P R Q W free vN vF (ls ++ [t]) lf y (wz.setCell ⟨Q, 1, none⟩ vN) ∧ wz.heap[Q]? = some (.cells #[.int .i64 free, vS, vF] 25 (0, 0)) := by
  have kp : ∀ (c : Nat) (o : Array Value) (T : TypeId), u.heap[c]? = some (.cells o T (0, 0)) → T ≠ 38 → wz.heap[c]? = some (.cells o T (0, 0)) := fun c o T hr ht => by
    rw [hg.block c (row_lt hr) (own_ne h.os hr ht)]; exact hr
  have zq := kp Q _ _ h.q (by decide)
  have g0 := Bt.set Q wz 1 vN
  obtain ⟨tt, fr, te⟩ := h.t.row
  have far : ∀ j, j < Q + 1 → some j ≠ vS.ownBlock := fun j hj e => absurd (World.ownsRow.lt h.os j e.symm).1 (by omega)
  have hbz : Bt b W wz := ⟨hg.os.trans h.bt.os, hg.tape.trans h.bt.tape, hg.output.trans h.bt.output, Nat.le_trans h.bt.size hg.size, fun j hj hne => by
    rw [hg.block j (Nat.lt_of_lt_of_le hj h.bt.size) (far j (by omega))]; exact h.bt.block j hj hne⟩
  have hT : WTab wz := ⟨⟨tt, fr, by rw [hg.block _ h.t.heap (far _ (by omega))]; exact te⟩⟩
  refine ⟨⟨g0.row (by omega) (kp P _ _ h.p (by decide)), g0.row (by omega) (kp R _ _ h.r (by decide)), heap_setCell_same wz Q 1 _ _ vN zq, g0.row (by omega) (kp b _ _ h.s (by decide)), hbz.over g0 (by omega), hT.mv g0 (by omega), Nat.le_trans (Nat.le_trans h.z hg.size) g0.size, ?_, ?_⟩, zq⟩
  · exact (ItsAt.app (xs := ls) (ys := [t]) hown).put (p := ⟨Q, 1, none⟩) (Nat.lt_succ_self Q) vN
  · exact (ItsAt.oth h.of h.os hg (by decide)).put (p := ⟨Q, 1, none⟩) (Nat.lt_succ_self Q) vN
theorem CL.addf {S : ByteArray} {b P R Q : Nat} {W : World} {free : Int} {vS vF vN : Value} {ls lf : List Itm} {t : Itm} {y : Sc} {u wz : World} (h : CL S b P R Q W free vS vF ls lf y u) (lw : W.heap.size = P) (lg : 1 < P) (lp : b < P) (lr : P < R) (lq : R < Q)
    (hown : wz.ownsRow (Q + 1) 40 9 vN (lf.length + 1) (flat9 lf ++ flat9 [t])) (hg : u.grownBy wz vF.ownBlock) :
    CL S b P R Q W free vS vN ls (lf ++ [t]) y (wz.setCell ⟨Q, 2, none⟩ vN) ∧ wz.heap[Q]? = some (.cells #[.int .i64 free, vS, vF] 25 (0, 0)) := by
  have kp : ∀ (c : Nat) (o : Array Value) (T : TypeId), u.heap[c]? = some (.cells o T (0, 0)) → T ≠ 40 → wz.heap[c]? = some (.cells o T (0, 0)) := fun c o T hr ht => by
    rw [hg.block c (row_lt hr) (own_ne h.of hr ht)]; exact hr
  have zq := kp Q _ _ h.q (by decide)
  have g0 := Bt.set Q wz 2 vN
  obtain ⟨tt, fr, te⟩ := h.t.row
  have far : ∀ j, j < Q + 1 → some j ≠ vF.ownBlock := fun j hj e => absurd (World.ownsRow.lt h.of j e.symm).1 (by omega)
  have hbz : Bt b W wz := ⟨hg.os.trans h.bt.os, hg.tape.trans h.bt.tape, hg.output.trans h.bt.output, Nat.le_trans h.bt.size hg.size, fun j hj hne => by
    rw [hg.block j (Nat.lt_of_lt_of_le hj h.bt.size) (far j (by omega))]; exact h.bt.block j hj hne⟩
  have hT : WTab wz := ⟨⟨tt, fr, by rw [hg.block _ h.t.heap (far _ (by omega))]; exact te⟩⟩
  refine ⟨⟨g0.row (by omega) (kp P _ _ h.p (by decide)), g0.row (by omega) (kp R _ _ h.r (by decide)), heap_setCell_same wz Q 2 _ _ vN zq, g0.row (by omega) (kp b _ _ h.s (by decide)), hbz.over g0 (by omega), hT.mv g0 (by omega), Nat.le_trans (Nat.le_trans h.z hg.size) g0.size, ?_, ?_⟩, zq⟩
  · exact (ItsAt.oth h.os h.of hg (by decide)).put (p := ⟨Q, 2, none⟩) (Nat.lt_succ_self Q) vN
  · exact (ItsAt.app (xs := lf) (ys := [t]) hown).put (p := ⟨Q, 2, none⟩) (Nat.lt_succ_self Q) vN
end Go.Proofs.YtaamdimgloblpaaGreatDoor

namespace Go.Proofs.YtaamdimgloblpaaGreatDoor
open Go.RowKit

theorem ItsAt.form {t : TypeId} {B : Nat} {v : Value} {xs : List Itm} {w : World} (h : ItsAt t B v xs w) : ∃ a n c, v = .slice a n c := by
  rcases h.2 with ⟨rfl, _⟩ | ⟨g, cap, cur, rfl, _⟩
  · exact ⟨_, _, _, rfl⟩
  · exact ⟨_, _, _, rfl⟩
theorem ItsAt.base {t : TypeId} {B B' : Nat} {v : Value} {xs : List Itm} {w : World} (h : ItsAt t B v xs w) (hB : B' ≤ B) : ItsAt t B' v xs w := by
  refine ⟨h.1, ?_⟩
  rcases h.2 with h2 | ⟨g, cap, cur, e, hb, r⟩
  · exact .inl h2
  · exact .inr ⟨g, cap, cur, e, Nat.le_trans hB hb, r⟩
def zE : Prs Unit := fun S x => ((), ⟨x.k, feB x.b S x.k⟩)
set_option maxRecDepth 100000 in
set_option maxHeartbeats 4000000 in
theorem p26cat_go {S : ByteArray} {b N : Nat} {x : Sc} {w : World} {j j2 j6 free : Int} {y1 y2 y3 y6 y7 : Sc} {M1 M2 : List Itm × Sc} (h : w.heap[b]? = some (scX S x)) (hT : WTab w) (hN : N ≤ 1000000) (H1 : ∀ u : World, u.heap[b]? = some (scX S x) → Calls Tryz.prog 34 #[xp b, .slice (some ⟨u.heap.size, 0, none⟩) 1 1] (u.alloc (.cells #[.string ⟨#[99, 97, 116, 97, 108, 111, 103, 117, 101, 10]⟩] 9)) fun r w' => r = .returned (.int .i64 j) ∧ w'.heap[b]? = some (scX S y1) ∧ Bt b u w') (H2 : ∀ u : World, u.heap[b]? = some (scX S y1) → Calls Tryz.prog 34 #[xp b, .slice (some ⟨u.heap.size, 0, none⟩) 1 1] (u.alloc (.cells #[.string ⟨#[102, 114, 101, 101, 32]⟩] 9)) fun r w' => r = .returned (.int .i64 j2) ∧ w'.heap[b]? = some (scX S y2) ∧ Bt b u w') (H3 : ∀ u : World, u.heap[b]? = some (scX S y2) → Calls Tryz.prog 35 #[pv b, .string wLf] u fun r w' => r = .returned (.int .i64 free) ∧ w'.heap[b]? = some (scX S y3) ∧ Bt b u w') (hy3 : y3.k ≤ S.size) (hf : msr S y3 < N) (HB1 : ∀ (u : World) (y : Sc), u.heap[b]? = some (scX S y) → y.k ≤ S.size → Calls Tryz.prog 36 #[pv b, .string ⟨#[115, 101, 97, 115, 111, 110]⟩] u fun e w' => e = .returned (.bool (fpV y.b S y.k == 115)) ∧ Below u.heap.size u w') (HS : ∀ (u : World) (y : Sc), u.heap[b]? = some (scX S y) → y.k ≤ S.size → WTab u → Calls Tryz.prog 37 #[pv b] u fun r w' => r = .returned (.agg (pSea S y).1.vals) ∧ w'.heap[b]? = some (scX S (pSea S y).2) ∧ Bt b u w') (hM1 : pMany 115 pSea N [] S y3 = M1) (HB2 : ∀ (u : World) (y : Sc), u.heap[b]? = some (scX S y) → y.k ≤ S.size → Calls Tryz.prog 36 #[pv b, .string ⟨#[102, 101, 97, 115, 116]⟩] u fun e w' => e = .returned (.bool (fpV y.b S y.k == 102)) ∧ Below u.heap.size u w') (HF : ∀ (u : World) (y : Sc), u.heap[b]? = some (scX S y) → y.k ≤ S.size → WTab u → Calls Tryz.prog 38 #[pv b] u fun r w' => r = .returned (.agg (pFea S y).1.vals) ∧ w'.heap[b]? = some (scX S (pFea S y).2) ∧ Bt b u w') (hM2 : pMany 102 pFea N [] S M1.2 = M2) (hf2 : msr S M1.2 < N) (H6 : ∀ u : World, u.heap[b]? = some (scX S M2.2) → Calls Tryz.prog 34 #[xp b, .slice (some ⟨u.heap.size, 0, none⟩) 1 1] (u.alloc (.cells #[.string ⟨#[101, 110, 100, 10]⟩] 9)) fun r w' => r = .returned (.int .i64 j6) ∧ w'.heap[b]? = some (scX S y6) ∧ Bt b u w') (H7 : ∀ u : World, u.heap[b]? = some (scX S y6) → Calls Tryz.prog 39 #[xp b] u fun e w' => e = .returned (.tuple #[]) ∧ w'.heap[b]? = some (scX S y7) ∧ Bt b u w') :
    Calls Tryz.prog 23 #[pv b] w fun r w' => ∃ vS vF, r = .returned (.agg #[.int .i64 free, vS, vF]) ∧ ItsAt 38 w.heap.size vS M1.1 w' ∧ ItsAt 40 w.heap.size vF M2.1 w' ∧ w'.heap[b]? = some (scX S y7) ∧ Bt b w w' := by
  have H1 := Lib.hid H1
  have H2 := Lib.hid H2
  have H3 := Lib.hid H3
  have HB1 := Lib.hid HB1
  have HS := Lib.hid HS
  have HB2 := Lib.hid HB2
  have HF := Lib.hid HF
  have H6 := Lib.hid H6
  have H7 := Lib.hid H7
  obtain ⟨iS, hiS, hS0, hS1, hS2⟩ := info_parts infoSea
  obtain ⟨iF, hiF, hF0, hF1, hF2⟩ := info_parts infoFea
  have HM1 := Lib.hid hM1
  have HM2 := Lib.hid hM2
  have HY3 := Lib.hid hy3
  have HF1 := Lib.hid hf
  have HF2 := Lib.hid hf2
  have HKM := Lib.hid (show M1.2.k ≤ S.size by rw [← hM1]; exact ((gd_Many (by decide) gd_Sea N []).le S y3 hy3).2)
  clear hM1 hM2 hy3 hf hf2
  go_enter Tryz.func23, Tryz.ntmps23
  go_wp2_with fail
  obtain ⟨u, hu⟩ : ∃ u, u = (((w.alloc (.cells #[xp b] 59)).alloc (.cells #[.int .i64 0, .slice none 0 0, .slice none 0 0] 25)).alloc (.cells #[.int .i64 0, .slice none 0 0, .slice none 0 0] 25)) := ⟨_, rfl⟩
  have B0 : Below w.heap.size w u := hu ▸ al3 w _ _ _
  have rs := row_kept h B0
  have rP : u.heap[w.heap.size]? = some (.cells #[xp b] 59 (0, 0)) := hu ▸ row_on (heap_alloc_new _ _) (al2 _ _ _)
  have rR : u.heap[w.heap.size + 1]? = some (.cells #[.int .i64 0, .slice none 0 0, .slice none 0 0] 25 (0, 0)) := hu ▸ row_on (row_new1 _ _ _) (al1 _ _)
  have rQ : u.heap[w.heap.size + 1 + 1]? = some (.cells #[.int .i64 0, .slice none 0 0, .slice none 0 0] 25 (0, 0)) := hu ▸ row_new2 _ _ _ _
  have hz : w.heap.size + 1 + 1 + 1 = u.heap.size := by rw [hu]; simp
  rw [← hu]
  clear hu
  have hb := Bt.of_below (b := b) B0
  generalize hP : w.heap.size = P at *
  generalize hR : P + 1 = R at *
  generalize hQ : R + 1 = Q at *
  have lb : b < P := by have := row_lt h; omega
  rw [hz]
  clear hz
  have lg : 1 < P := by have := hT.heap; omega
  have HT := Lib.hid (hT.below B0 lg)
  have cP0_0 : u.cell? ⟨P, 0, none⟩ = some (xp b) := by rw [cell_of_row _ P 0 _ _ _ rP]; rfl
  refine (H1.out u rs).mono ?_
  clear cP0_0
  rintro e1 w1 ⟨rfl, rs1, g1⟩
  have rP_1 := g1.row (show P ≠ b by omega) rP
  have rR_1 := g1.row (show R ≠ b by omega) rR
  have rQ_1 := g1.row (show Q ≠ b by omega) rQ
  have hb1 := hb.trans g1
  have HT1 := Lib.hid (HT.out.mv g1 (ne_scan HT.out rs))
  have cP0_1 : w1.cell? ⟨P, 0, none⟩ = some (xp b) := by rw [cell_of_row _ P 0 _ _ _ rP_1]; rfl
  go_wp2_with fail
  refine (H2.out w1 rs1).mono ?_
  clear cP0_1
  rintro e2 w2 ⟨rfl, rs2, g2⟩
  have rP_2 := g2.row (show P ≠ b by omega) rP_1
  have rR_2 := g2.row (show R ≠ b by omega) rR_1
  have rQ_2 := g2.row (show Q ≠ b by omega) rQ_1
  have hb2 := hb1.trans g2
  have HT2 := Lib.hid (HT1.out.mv g2 (ne_scan HT1.out rs1))
  have cP0_2 : w2.cell? ⟨P, 0, none⟩ = some (xp b) := by rw [cell_of_row _ P 0 _ _ _ rP_2]; rfl
  go_wp2_with fail
  refine (H3.out w2 rs2).mono ?_
  clear cP0_2
  rintro e3 w3 ⟨rfl, rs3, g3⟩
  have rP_3 := g3.row (show P ≠ b by omega) rP_2
  have rR_3 := g3.row (show R ≠ b by omega) rR_2
  have rQ_3 := g3.row (show Q ≠ b by omega) rQ_2
  have hb3 := hb2.trans g3
  have HT3 := Lib.hid (HT2.out.mv g3 (ne_scan HT2.out rs2))
  have cQ0_3 : w3.cell? ⟨Q, 0, none⟩ = some (.int .i64 0) := by rw [cell_of_row _ Q 0 _ _ _ rQ_3]; rfl
  have fQ0_3 : w3.frozen? ⟨Q, 0, none⟩ = false := frozen_of_row _ Q 0 _ _ rQ_3
  have t1 : Bt Q w3 (w3.setCell ⟨Q, 0, none⟩ (.int .i64 free)) := Bt.sets Q [(.int .i64 free)] 0 w3
  have pQ1 : (w3.setCell ⟨Q, 0, none⟩ (.int .i64 free)).heap[Q]? = some (.cells #[.int .i64 free, .slice none 0 0, .slice none 0 0] 25 (0, 0)) := heap_setCell_same _ Q 0 _ _ _ rQ_3
  have pP1 := t1.row (show P ≠ Q by omega) rP_3
  have pR1 := t1.row (show R ≠ Q by omega) rR_3
  have ps1 := t1.row (show b ≠ Q by omega) rs3
  have hbp1 := hb3.over t1 (show w.heap.size ≤ Q by omega)
  have HT4 := Lib.hid (HT3.out.mv t1 (by omega))
  have lp : b < P := lb
  have lr : P < R := by omega
  have lq : R < Q := by omega
  have C0 : CL S b P R Q w free (.slice none 0 0) (.slice none 0 0) [] [] y3 ((w3.setCell ⟨Q, 0, none⟩ (.int .i64 free))) := ⟨pP1, pR1, pQ1, ps1, hbp1, HT4.out, by have := row_lt pQ1; omega, ItsAt.emp _ _ _, ItsAt.emp _ _ _⟩
  go_wp2_with fail
  clear cQ0_3 fQ0_3
  obtain ⟨u, hu⟩ : ∃ u, u = (w3.setCell ⟨Q, 0, none⟩ (.int .i64 free)) := ⟨_, rfl⟩
  rw [← hu] at C0 ⊢
  clear hu
  go_loopw [] (fun wr => ∃ (y : Sc) (v : Value) (l : List Itm) (n : Nat), Hid (CL S b P R Q w free v (.slice none 0 0) l [] y wr ∧ y.k ≤ S.size ∧ msr S y < n ∧ l.length + n ≤ N ∧ pMany 115 pSea n l S y = M1)) (fun wr => msW S b wr)
  case atStart => exact ⟨y3, _, [], N, Lib.hid ⟨C0, HY3.out, HF1.out, by simp, HM1.out⟩⟩
  case round =>
    obtain ⟨y, v, l, n, HR⟩ := hrel
    obtain ⟨hC, hk, hn, hlN, hM⟩ := HR.out
    obtain ⟨n, rfl⟩ : ∃ m, n = m + 1 := ⟨n - 1, by omega⟩
    have HBy := HB1.out wr y hC.s hk
    have cP : wr.cell? ⟨P, 0, none⟩ = some (xp b) := by rw [cell_of_row _ P 0 _ _ _ hC.p]; rfl
    have HCr := Lib.hid hC
    by_cases g : fpV y.b S y.k = 115
    · skip
      have hM2 : pMany 115 pSea n (l ++ [(pSea S y).1]) S (pSea S y).2 = M1 := by
        rw [← hM]; show _ = (if fpV y.b S y.k = 115 then _ else _); rw [if_pos g]
      have yb : y.b = false := by
        cases q : y.b
        · rfl
        · rw [q] at g; exact absurd g (by show ¬ (0 : Int) = _; decide)
      have hms := msr_step gd_Sea adv_Sea hk yb
      have hk2 := (gd_Sea.le S y hk).2
      have HIy := fun (u : World) (h : u.heap[b]? = some (scX S y)) (t : WTab u) => HS.out u y h hk t
      rw [beq_iff_eq.2 g] at HBy
      generalize hpt : pSea S y = pt at hM2 hms hk2 HIy
      obtain ⟨t, y'⟩ := pt
      have HX := Lib.hid (⟨hM2, hms, hk2, hn, hlN⟩ : pMany 115 pSea n (l ++ [t]) S y' = M1 ∧ msr S y' < msr S y ∧ y'.k ≤ S.size ∧ msr S y < n + 1 ∧ l.length + (n + 1) ≤ N)
      have HIt := Lib.hid HIy
      have HBt := Lib.hid HBy
      clear hM hM2 hms hk2 HIy HBy hpt g yb hn hlN HR hC hk
      go_wp2_with fail
      refine HBt.out.mono ?_
      rintro e1 w1 ⟨rfl, hb1⟩
      have C1 := HCr.out.below hb1
      have cP1 : w1.cell? ⟨P, 0, none⟩ = some (xp b) := by rw [cell_of_row _ P 0 _ _ _ C1.p]; rfl
      clear cP
      go_wp2_with fail
      refine till_start (fun u => u.heap[P]? = some (.cells #[xp b] 59 (0, 0)) ∧ u.heap[Q]? = some (.cells #[.int .i64 free, v, .slice none 0 0] 25 (0, 0))) 5 (by kernel_rfl) ?_
      refine till_take (i := 0) (oi := { dst := some 17, op := _, type := _, pos := _, after := _, guard := _ }) (v := ?vas) rfl (by kernel_rfl) (by kernel_rfl) (by kernel_rfl) (fun _ _ _ h => h) (by decide) (Or.inl ⟨by rfl, ?has⟩) (.inr ⟨C1.p, C1.q⟩) ?_
      case has => (intro w _; go_simp; try with_reducible rfl)
      (try simp only [Act.put, List.setIfInBounds_toArray, List.set_cons_zero, List.set_cons_succ])
      refine till_take_load (i := 1) (oi := { dst := some 18, op := _, type := _, pos := _, after := _, guard := _ }) (v := ?vbs) rfl (by kernel_rfl) (by kernel_rfl) (by kernel_rfl) (fun _ _ _ h => h) (by kernel_rfl) (by decide) (by kernel_rfl) (Or.inl ⟨by rfl, ?hbs⟩) ⟨C1.p, C1.q⟩ ?_
      case hbs => (intro w hSw; (try dsimp only at hSw); obtain ⟨s0, s1, s2, t0, t1, t2, tz⟩ := row3 hSw.2; go_simp; try with_reducible rfl)
      (try simp only [Act.put, List.setIfInBounds_toArray, List.set_cons_zero, List.set_cons_succ])
      refine till_one (i := 2) (o := { dst := some 19, op := _, type := _, pos := _, after := _, guard := _ }) (by kernel_rfl) rfl (fun K hK => ?_)
      go_simp
      refine hK.out _ _ (.inr ⟨C1.p, C1.q⟩) ?_
      clear hK K
      (try simp only [Act.put, List.setIfInBounds_toArray, List.set_cons_zero, List.set_cons_succ])
      have C1d := C1.below (below_dn (Below.refl _ _) 1)
      refine till_one (i := 3) (o := { dst := some 20, op := _, type := _, pos := _, after := _, guard := _ }) (by kernel_rfl) rfl (fun K hK => ?_)
      go_simp
      go_at_call 37
      refine (HIt.out _ C1d.s C1d.t).mono ?_
      rintro e2 w2 ⟨rfl, s2, g2⟩
      have C2 := C1d.call lp lr lq s2 g2
      refine hK.out _ _ (.inr ⟨C2.p, C2.q⟩) ?_
      clear hK K cP1 C1 C1d s2 g2
      (try simp only [Act.put, List.setIfInBounds_toArray, List.set_cons_zero, List.set_cons_succ])
      obtain ⟨id, a1, a2, a3, a4, a5, a6, a7, a8⟩ := t
      refine till_one (i := 4) (o := { dst := some 21, op := _, type := _, pos := _, after := _, guard := _ }) (by kernel_rfl) rfl (fun K hK => ?_)
      go_simp
      have C3 := C2.below (al1 w2 (.cells #[.string id, .int .i64 a1, .int .i64 a2, .int .i64 a3, .int .i64 a4, .int .i64 a5, .int .i64 a6, .int .i64 a7, .int .i64 a8] 38))
      have NW := World.news_of_block (heap_alloc_new w2 (.cells #[.string id, .int .i64 a1, .int .i64 a2, .int .i64 a3, .int .i64 a4, .int .i64 a5, .int .i64 a6, .int .i64 a7, .int .i64 a8] 38))
      refine hK.out _ _ (.inr ⟨C3.p, C3.q⟩) ?_
      clear hK K
      (try simp only [Act.put, List.setIfInBounds_toArray, List.set_cons_zero, List.set_cons_succ])
      refine till_one (i := 5) (o := { dst := some 22, op := _, type := _, pos := _, after := _, guard := _ }) (by kernel_rfl) rfl (fun K hK => ?_)
      rw [if_pos (by rfl)]
      refine wp_append_lies _ _ _ 22 (by rfl) (Q + 1) 38 iS (.agg #[.string ⟨#[]⟩, .int .i64 0, .int .i64 0, .int .i64 0, .int .i64 0, .int .i64 0, .int .i64 0, .int .i64 0, .int .i64 0]) 9 80 Tryz.underlying22 hiS hS0 hS1 hS2 rfl (by decide) v l.length (flat9 l) (by rfl) C3.os ⟨w2.heap.size, 0, none⟩ 1 1 (flat9 [⟨id, a1, a2, a3, a4, a5, a6, a7, a8⟩]) (by rfl) (by rfl) NW (flat9_one [⟨id, a1, a2, a3, a4, a5, a6, a7, a8⟩]) (by decide) (by have := HX.out.2.2.2.2; unfold maxLen; omega) (by have := HX.out.2.2.2.2; omega) C3.z _ rfl ?_
      intro g c wz hown hgrow _ _
      obtain ⟨C4, zq⟩ := C3.adds hP lg lp lr lq hown hgrow
      refine hK.out _ _ (.inl rfl) ?_
      clear hK K hown hgrow NW C3 C2
      (try simp only [Act.put, List.setIfInBounds_toArray, List.set_cons_zero, List.set_cons_succ])
      refine till_take (i := 6) (oi := { dst := some 23, op := _, type := _, pos := _, after := _, guard := _ }) (v := ?vcs) rfl (by kernel_rfl) (by kernel_rfl) (by kernel_rfl) (fun _ _ _ h => h) (by decide) (Or.inl ⟨by rfl, ?hcs⟩) (.inl rfl) ?_
      case hcs => (intro w _; go_simp; try with_reducible rfl)
      (try simp only [Act.put, List.setIfInBounds_toArray, List.set_cons_zero, List.set_cons_succ])
      obtain ⟨r0, r1, r2, f0, f1, f2, rz⟩ := row3 zq
      refine till_one (i := 7) (o := { dst := none, op := _, type := _, pos := _, after := _, guard := _ }) (by kernel_rfl) rfl (fun K hK => ?_)
      go_simp
      refine hK.out _ _ (.inl rfl) ?_
      clear hK K r0 r1 r2 f0 f1 f2 rz zq
      refine till_done (by kernel_rfl) ?_ _
      go_roundw
      case rel => exact ⟨_, _, _, _, _, _, _, _, _, ⟨y', _, l ++ [⟨id, a1, a2, a3, a4, a5, a6, a7, a8⟩], n, Lib.hid ⟨C4, HX.out.2.2.1, by have h1 := HX.out.2.1; have h2 := HX.out.2.2.2.1; omega, by have := HX.out.2.2.2.2; rw [List.length_append]; show l.length + 1 + n ≤ N; omega, HX.out.1⟩⟩, rfl⟩
      case measure => rw [msW_is C4.s, msW_is HCr.out.s]; exact HX.out.2.1
    · skip
      have hM2 : (l, y) = M1 := by
        rw [← hM]; show _ = (if fpV y.b S y.k = 115 then _ else _); rw [if_neg g]
      rw [beq_eq_false_iff_ne.2 g] at HBy
      have HBt := Lib.hid HBy
      clear hM HBy g hn hlN HR hC hk n
      obtain ⟨e1, e2⟩ : M1.1 = l ∧ M1.2 = y := by rw [← hM2]; exact ⟨rfl, rfl⟩
      subst e1 e2
      clear hM2
      go_wp2_with fail
      refine HBt.out.mono ?_
      rintro e1 w1 ⟨rfl, hb1⟩
      have CS := HCr.out.below hb1
      clear cP HBt hb1 HCr
      obtain ⟨vS0, hv0⟩ : ∃ z, z = v := ⟨_, rfl⟩
      rw [← hv0] at CS
      clear hv0 C0
      have cP1 : w1.cell? ⟨P, 0, none⟩ = some (xp b) := by rw [cell_of_row _ P 0 _ _ _ CS.p]; rfl
      go_wp2_with fail
      clear cP1
      go_loopw [] (fun wr => ∃ (y : Sc) (v : Value) (l : List Itm) (n : Nat), Hid (CL S b P R Q w free vS0 v M1.1 l y wr ∧ y.k ≤ S.size ∧ msr S y < n ∧ l.length + n ≤ N ∧ pMany 102 pFea n l S y = M2)) (fun wr => msW S b wr)
      case atStart => exact ⟨M1.2, _, [], N, Lib.hid ⟨CS, HKM.out, HF2.out, by simp, HM2.out⟩⟩
      case round =>
        obtain ⟨y, v, l, n, HR⟩ := hrel
        obtain ⟨hC, hk, hn, hlN, hM⟩ := HR.out
        obtain ⟨n, rfl⟩ : ∃ m, n = m + 1 := ⟨n - 1, by omega⟩
        have HBy := HB2.out wr y hC.s hk
        have cP : wr.cell? ⟨P, 0, none⟩ = some (xp b) := by rw [cell_of_row _ P 0 _ _ _ hC.p]; rfl
        have HCr := Lib.hid hC
        by_cases g : fpV y.b S y.k = 102
        · skip
          have hM2 : pMany 102 pFea n (l ++ [(pFea S y).1]) S (pFea S y).2 = M2 := by
            rw [← hM]; show _ = (if fpV y.b S y.k = 102 then _ else _); rw [if_pos g]
          have yb : y.b = false := by
            cases q : y.b
            · rfl
            · rw [q] at g; exact absurd g (by show ¬ (0 : Int) = _; decide)
          have hms := msr_step gd_Fea adv_Fea hk yb
          have hk2 := (gd_Fea.le S y hk).2
          have HIy := fun (u : World) (h : u.heap[b]? = some (scX S y)) (t : WTab u) => HF.out u y h hk t
          rw [beq_iff_eq.2 g] at HBy
          generalize hpt : pFea S y = pt at hM2 hms hk2 HIy
          obtain ⟨t, y'⟩ := pt
          have HX := Lib.hid (⟨hM2, hms, hk2, hn, hlN⟩ : pMany 102 pFea n (l ++ [t]) S y' = M2 ∧ msr S y' < msr S y ∧ y'.k ≤ S.size ∧ msr S y < n + 1 ∧ l.length + (n + 1) ≤ N)
          have HIt := Lib.hid HIy
          have HBt := Lib.hid HBy
          clear hM hM2 hms hk2 HIy HBy hpt g yb hn hlN HR hC hk
          go_wp2_with fail
          refine HBt.out.mono ?_
          rintro e1 w1 ⟨rfl, hb1⟩
          have C1 := HCr.out.below hb1
          have cP1 : w1.cell? ⟨P, 0, none⟩ = some (xp b) := by rw [cell_of_row _ P 0 _ _ _ C1.p]; rfl
          clear cP
          go_wp2_with fail
          refine till_start (fun u => u.heap[P]? = some (.cells #[xp b] 59 (0, 0)) ∧ u.heap[Q]? = some (.cells #[.int .i64 free, vS0, v] 25 (0, 0))) 5 (by kernel_rfl) ?_
          refine till_take (i := 0) (oi := { dst := some 26, op := _, type := _, pos := _, after := _, guard := _ }) (v := ?vaf) rfl (by kernel_rfl) (by kernel_rfl) (by kernel_rfl) (fun _ _ _ h => h) (by decide) (Or.inl ⟨by rfl, ?haf⟩) (.inr ⟨C1.p, C1.q⟩) ?_
          case haf => (intro w _; go_simp; try with_reducible rfl)
          (try simp only [Act.put, List.setIfInBounds_toArray, List.set_cons_zero, List.set_cons_succ])
          refine till_take_load (i := 1) (oi := { dst := some 27, op := _, type := _, pos := _, after := _, guard := _ }) (v := ?vbf) rfl (by kernel_rfl) (by kernel_rfl) (by kernel_rfl) (fun _ _ _ h => h) (by kernel_rfl) (by decide) (by kernel_rfl) (Or.inl ⟨by rfl, ?hbf⟩) ⟨C1.p, C1.q⟩ ?_
          case hbf => (intro w hSw; (try dsimp only at hSw); obtain ⟨s0, s1, s2, t0, t1, t2, tz⟩ := row3 hSw.2; go_simp; try with_reducible rfl)
          (try simp only [Act.put, List.setIfInBounds_toArray, List.set_cons_zero, List.set_cons_succ])
          refine till_one (i := 2) (o := { dst := some 28, op := _, type := _, pos := _, after := _, guard := _ }) (by kernel_rfl) rfl (fun K hK => ?_)
          go_simp
          refine hK.out _ _ (.inr ⟨C1.p, C1.q⟩) ?_
          clear hK K
          (try simp only [Act.put, List.setIfInBounds_toArray, List.set_cons_zero, List.set_cons_succ])
          have C1d := C1.below (below_dn (Below.refl _ _) 1)
          refine till_one (i := 3) (o := { dst := some 29, op := _, type := _, pos := _, after := _, guard := _ }) (by kernel_rfl) rfl (fun K hK => ?_)
          go_simp
          go_at_call 38
          refine (HIt.out _ C1d.s C1d.t).mono ?_
          rintro e2 w2 ⟨rfl, s2, g2⟩
          have C2 := C1d.call lp lr lq s2 g2
          refine hK.out _ _ (.inr ⟨C2.p, C2.q⟩) ?_
          clear hK K cP1 C1 C1d s2 g2
          (try simp only [Act.put, List.setIfInBounds_toArray, List.set_cons_zero, List.set_cons_succ])
          obtain ⟨id, a1, a2, a3, a4, a5, a6, a7, a8⟩ := t
          refine till_one (i := 4) (o := { dst := some 30, op := _, type := _, pos := _, after := _, guard := _ }) (by kernel_rfl) rfl (fun K hK => ?_)
          go_simp
          have C3 := C2.below (al1 w2 (.cells #[.string id, .int .i64 a1, .int .i64 a2, .int .i64 a3, .int .i64 a4, .int .i64 a5, .int .i64 a6, .int .i64 a7, .int .i64 a8] 40))
          have NW := World.news_of_block (heap_alloc_new w2 (.cells #[.string id, .int .i64 a1, .int .i64 a2, .int .i64 a3, .int .i64 a4, .int .i64 a5, .int .i64 a6, .int .i64 a7, .int .i64 a8] 40))
          refine hK.out _ _ (.inr ⟨C3.p, C3.q⟩) ?_
          clear hK K
          (try simp only [Act.put, List.setIfInBounds_toArray, List.set_cons_zero, List.set_cons_succ])
          refine till_one (i := 5) (o := { dst := some 31, op := _, type := _, pos := _, after := _, guard := _ }) (by kernel_rfl) rfl (fun K hK => ?_)
          rw [if_pos (by rfl)]
          refine wp_append_lies _ _ _ 23 (by rfl) (Q + 1) 40 iF (.agg #[.string ⟨#[]⟩, .int .i64 0, .int .i64 0, .int .i64 0, .int .i64 0, .int .i64 0, .int .i64 0, .int .i64 0, .int .i64 0]) 9 80 Tryz.underlying23 hiF hF0 hF1 hF2 rfl (by decide) v l.length (flat9 l) (by rfl) C3.of ⟨w2.heap.size, 0, none⟩ 1 1 (flat9 [⟨id, a1, a2, a3, a4, a5, a6, a7, a8⟩]) (by rfl) (by rfl) NW (flat9_one [⟨id, a1, a2, a3, a4, a5, a6, a7, a8⟩]) (by decide) (by have := HX.out.2.2.2.2; unfold maxLen; omega) (by have := HX.out.2.2.2.2; omega) C3.z _ rfl ?_
          intro g c wz hown hgrow _ _
          obtain ⟨C4, zq⟩ := C3.addf hP lg lp lr lq hown hgrow
          refine hK.out _ _ (.inl rfl) ?_
          clear hK K hown hgrow NW C3 C2
          (try simp only [Act.put, List.setIfInBounds_toArray, List.set_cons_zero, List.set_cons_succ])
          refine till_take (i := 6) (oi := { dst := some 32, op := _, type := _, pos := _, after := _, guard := _ }) (v := ?vcf) rfl (by kernel_rfl) (by kernel_rfl) (by kernel_rfl) (fun _ _ _ h => h) (by decide) (Or.inl ⟨by rfl, ?hcf⟩) (.inl rfl) ?_
          case hcf => (intro w _; go_simp; try with_reducible rfl)
          (try simp only [Act.put, List.setIfInBounds_toArray, List.set_cons_zero, List.set_cons_succ])
          obtain ⟨r0, r1, r2, f0, f1, f2, rz⟩ := row3 zq
          refine till_one (i := 7) (o := { dst := none, op := _, type := _, pos := _, after := _, guard := _ }) (by kernel_rfl) rfl (fun K hK => ?_)
          go_simp
          refine hK.out _ _ (.inl rfl) ?_
          clear hK K r0 r1 r2 f0 f1 f2 rz zq
          refine till_done (by kernel_rfl) ?_ _
          go_roundw
          case rel => exact ⟨_, _, _, _, _, _, _, _, _, ⟨y', _, l ++ [⟨id, a1, a2, a3, a4, a5, a6, a7, a8⟩], n, Lib.hid ⟨C4, HX.out.2.2.1, by have h1 := HX.out.2.1; have h2 := HX.out.2.2.2.1; omega, by have := HX.out.2.2.2.2; rw [List.length_append]; show l.length + 1 + n ≤ N; omega, HX.out.1⟩⟩, rfl⟩
          case measure => rw [msW_is C4.s, msW_is HCr.out.s]; exact HX.out.2.1
        · skip
          have hM2 : (l, y) = M2 := by
            rw [← hM]; show _ = (if fpV y.b S y.k = 102 then _ else _); rw [if_neg g]
          rw [beq_eq_false_iff_ne.2 g] at HBy
          have HBt := Lib.hid HBy
          clear hM HBy g hn hlN HR hC hk n
          obtain ⟨e1, e2⟩ : M2.1 = l ∧ M2.2 = y := by rw [← hM2]; exact ⟨rfl, rfl⟩
          subst e1 e2
          clear hM2
          go_wp2_with fail
          refine HBt.out.mono ?_
          rintro e1 w1 ⟨rfl, hb1⟩
          have CF := HCr.out.below hb1
          clear cP HBt hb1 HCr
          have cP1 : w1.cell? ⟨P, 0, none⟩ = some (xp b) := by rw [cell_of_row _ P 0 _ _ _ CF.p]; rfl
          go_wp2_with fail
          refine (H6.out w1 CF.s).mono ?_
          rintro e2 w2 ⟨rfl, s2, g2⟩
          have C2 := CF.call lp lr lq s2 g2
          have cP2 : w2.cell? ⟨P, 0, none⟩ = some (xp b) := by rw [cell_of_row _ P 0 _ _ _ C2.p]; rfl
          clear cP1 CF s2 g2
          go_wp2_with fail
          refine (H7.out w2 C2.s).mono ?_
          rintro e3 w3 ⟨rfl, s3, g3⟩
          have C3 := C2.call lp lr lq s3 g3
          obtain ⟨a1, n1, c1, rfl⟩ := C3.os.form
          obtain ⟨a2, n2, c2, rfl⟩ := C3.of.form
          obtain ⟨q0, q1, q2, f0, f1, f2, fz⟩ := row3 C3.q
          obtain ⟨k0, k1, k2, h0, h1, h2, kz⟩ := row3 C3.r
          clear cP2 C2 s3 g3
          go_wp2_with fail
          generalize hX : ((w3.setCell ⟨R, 0, none⟩ (.int .i64 free)).setCell ⟨R, 1, none⟩ (.slice a1 n1 c1)).setCell ⟨R, 2, none⟩ (.slice a2 n2 c2) = X
          obtain ⟨m0, m1, m2⟩ := three_set _ _ _ C3.r hX
          have SX : ItsAt 38 (Q + 1) (.slice a1 n1 c1) M1.1 X := by
            rw [← hX]; exact ((C3.os.put (p := ⟨R, 0, none⟩) (show R < Q + 1 by omega) _).put (p := ⟨R, 1, none⟩) (show R < Q + 1 by omega) _).put (p := ⟨R, 2, none⟩) (show R < Q + 1 by omega) _
          have FX : ItsAt 40 (Q + 1) (.slice a2 n2 c2) M2.1 X := by
            rw [← hX]; exact ((C3.of.put (p := ⟨R, 0, none⟩) (show R < Q + 1 by omega) _).put (p := ⟨R, 1, none⟩) (show R < Q + 1 by omega) _).put (p := ⟨R, 2, none⟩) (show R < Q + 1 by omega) _
          have BX : Bt b w X := by
            rw [← hX]; exact ((C3.bt.over (Bt.set R w3 0 _) (by omega)).over (Bt.set R _ 1 _) (by omega)).over (Bt.set R _ 2 _) (by omega)
          have sX : X.heap[b]? = some (scX S y7) := by
            rw [← hX]; exact (Bt.set R _ 2 _).row (by omega) ((Bt.set R _ 1 _).row (by omega) ((Bt.set R w3 0 _).row (by omega) C3.s))
          refine bodyPost_ret (v := .agg #[.int .i64 free, .slice a1 n1 c1, .slice a2 n2 c2]) (by simp [results, Tryz.results23, go_sem, m0, m1, m2]) rfl ⟨_, _, rfl, SX.base (by omega), FX.base (by omega), sX, BX⟩
end Go.Proofs.YtaamdimgloblpaaGreatDoor

namespace Go.Proofs.YtaamdimgloblpaaGreatDoor
open Go.RowKit

theorem p26cat {S : ByteArray} {b N : Nat} {w : World} (h : w.heap[b]? = some (scO S 0 false)) (hs : S.size ≤ 100000) (h1 : S.size + 1 < N) (hN : N ≤ 1000000) (hT : WTab w) :
    Calls Tryz.prog 23 #[pv b] w fun r w' => ∃ vS vF, r = .returned (.agg #[.int .i64 (pBody N S ⟨0, false⟩).1.free, vS, vF]) ∧ ItsAt 38 w.heap.size vS (pBody N S ⟨0, false⟩).1.ss w' ∧ ItsAt 40 w.heap.size vF (pBody N S ⟨0, false⟩).1.fs w' ∧ w'.heap[b]? = some (scX S (zE S (pBody N S ⟨0, false⟩).2).2) ∧ Bt b w w' := by
  have k0 : (Sc.mk 0 false).k ≤ S.size := Nat.zero_le _
  have k1 := ((gd_W [wCat]).le S _ k0).2
  have k2 := ((gd_W [wFre]).le S _ k1).2
  have k3 := ((gd_zN wLf).le S _ k2).2
  have k4 := ((gd_Many (c := 115) (by decide) gd_Sea N []).le S _ k3).2
  have k5 := ((gd_Many (c := 102) (by decide) gd_Fea N []).le S _ k4).2
  have mz : ∀ y : Sc, msr S y < N := fun y => by unfold msr; split <;> omega
  exact p26cat_go (x := ⟨0, false⟩) (j := (yW [wCat] S ⟨0, false⟩).1) (j2 := (yW [wFre] S (yW [wCat] S ⟨0, false⟩).2).1) (j6 := (yW [wEnd] S (pMany 102 pFea N [] S (pMany 115 pSea N [] S (zN wLf S (yW [wFre] S (yW [wCat] S ⟨0, false⟩).2).2).2).2).2).1) h hT hN
    (fun _ hu => xw_one (e := wCat) hu k0 (lt_big hs) wds_wCat) (fun _ hu => xw_one (e := wFre) hu k1 (lt_big hs) wds_wFre) (fun _ hu => p26num hu k2 (lt_big hs) wds_wLf) k3 (mz _)
    (fun _ _ hu hk => p26beg (t := wSe5) 115 hu hk (by kernel_rfl) (by decide)) (fun _ _ hu hk ht => p26sea hu hk hs ht) rfl
    (fun _ _ hu hk => p26beg (t := wFe5) 102 hu hk (by kernel_rfl) (by decide)) (fun _ _ hu hk ht => p26fea hu hk hs ht) rfl (mz _)
    (fun _ hu => xw_one (e := wEnd) hu k5 (lt_big hs) wds_wEnd) (fun _ hu => xe_all hu)
theorem below_size {B : Nat} {w w' : World} (h : Below B w w') : w.heap.size ≤ w'.heap.size := h.size
set_option maxRecDepth 100000 in
set_option maxHeartbeats 2000000 in
theorem p26par_ok {S : ByteArray} {w : World} {free : Int} {kz : Nat} {ss fs : List Itm} (hT : WTab w)
    (HC : ∀ (u : World) (b : Nat), u.heap[b]? = some (scO S 0 false) → WTab u → Calls Tryz.prog 23 #[pv b] u fun r w' => ∃ vS vF, r = .returned (.agg #[.int .i64 free, vS, vF]) ∧ ItsAt 38 u.heap.size vS ss w' ∧ ItsAt 40 u.heap.size vF fs w' ∧ w'.heap[b]? = some (scO S kz false) ∧ Bt b u w') :
    Calls Tryz.prog 10 #[.string S] w fun e w' => ∃ vS vF, e = .returned (.tuple #[.agg #[.int .i64 free, vS, vF], .int .i64 0, .int .i64 0]) ∧ SlAt w' vS ss ∧ SlAt w' vF fs ∧ Below w.heap.size w w' := by
  have HC := Lib.hid HC
  have HN := Lib.hid (fun u => new25_any S u)
  have lg := hT.heap
  have HT := Lib.hid hT
  clear hT
  go_enter Tryz.func10, Tryz.ntmps10
  go_wp2_with fail
  obtain ⟨u, hu⟩ : ∃ u, u = w.alloc (.cells #[.int .i64 0, .slice none 0 0, .slice none 0 0] 25) := ⟨_, rfl⟩
  have B0 : Below w.heap.size w u := hu ▸ al1 w _
  have rR : u.heap[w.heap.size]? = some (.cells #[.int .i64 0, .slice none 0 0, .slice none 0 0] 25 (0, 0)) := hu ▸ heap_alloc_new w _
  have zu := row_lt rR
  rw [← hu]
  clear hu
  refine (HN.out u).mono ?_
  rintro e1 w1 ⟨rfl, r1, g1⟩
  have rR1 := row_kept rR g1
  have B1 := below_on B0 g1
  have HT1 := Lib.hid (HT.out.on B1)
  generalize hb : u.heap.size = b at *
  have lb1 := row_lt r1
  clear g1
  go_wp2_with fail
  have r2 := row_kept r1 (al1 w1 (bxP b))
  have g2 := HC.out (w1.alloc (bxP b)) b r2 (HT1.out.al _)
  have rR2 := row_kept rR1 (al1 w1 (bxP b))
  have rP2 : (w1.alloc (bxP b)).heap[w1.heap.size]? = some (bxP b) := heap_alloc_new w1 _
  have zz : w1.heap.size < (w1.alloc (bxP b)).heap.size := by simp
  have B2 := B1.alloc (below_size B1) (bxP b)
  have G2 := Lib.hid g2
  clear g2
  refine G2.out.mono ?_
  rintro e2 w2 ⟨vS, vF, rfl, oS, oF, s2, q2⟩
  obtain ⟨a1, n1, c1, rfl⟩ := oS.form
  obtain ⟨a2, n2, c2, rfl⟩ := oF.form
  have rR3 := q2.row (show w.heap.size ≠ b by omega) rR2
  have rP3 := q2.row (show w1.heap.size ≠ b by omega) rP2
  have B3 : Below w.heap.size w w2 := B2.trans (q2.below (show w.heap.size ≤ b by omega) (show w.heap.size ≤ (w1.alloc (bxP b)).heap.size by omega))
  have cP : w2.cell? ⟨w1.heap.size, 0, none⟩ = some (xp b) := by rw [cell_of_row _ _ 0 _ _ _ rP3]; rfl
  clear rR2 rP2 q2 r2 r1
  have cPa : (w2.alloc (.cells #[.int .i64 free, .slice a1 n1 c1, .slice a2 n2 c2] 25)).cell? ⟨w1.heap.size, 0, none⟩ = some (xp b) := by rw [cell_of_row _ _ 0 _ _ _ (row_kept rP3 (al1 w2 (.cells #[.int .i64 free, .slice a1 n1 c1, .slice a2 n2 c2] 25)))]; rfl
  go_wp2_with fail
  have s3 := row_kept s2 (al1 w2 (.cells #[.int .i64 free, .slice a1 n1 c1, .slice a2 n2 c2] 25))
  have rR4 := row_kept rR3 (al1 w2 (.cells #[.int .i64 free, .slice a1 n1 c1, .slice a2 n2 c2] 25))
  have rP4 := row_kept rP3 (al1 w2 (.cells #[.int .i64 free, .slice a1 n1 c1, .slice a2 n2 c2] 25))
  have rC4 : (w2.alloc (.cells #[.int .i64 free, .slice a1 n1 c1, .slice a2 n2 c2] 25)).heap[w2.heap.size]? = some (.cells #[.int .i64 free, .slice a1 n1 c1, .slice a2 n2 c2] 25 (0, 0)) := heap_alloc_new w2 _
  have oS4 := oS.al (.cells #[.int .i64 free, .slice a1 n1 c1, .slice a2 n2 c2] 25)
  have oF4 := oF.al (.cells #[.int .i64 free, .slice a1 n1 c1, .slice a2 n2 c2] 25)
  have B4 := B3.alloc (below_size B3) (.cells #[.int .i64 free, .slice a1 n1 c1, .slice a2 n2 c2] 25)
  clear oS oF s2 rR3 rP3 cP cPa
  refine (err_ok s3).mono ?_
  rintro e3 w3 ⟨rfl, g5⟩
  have rR5 := row_kept rR4 g5
  have B5 := below_on B4 g5
  have rC5 := row_kept rC4 g5
  have oS5 := oS4.on g5
  have oF5 := oF4.on g5
  obtain ⟨q0, q1, q2, f0, f1, f2, fz⟩ := row3 rC5
  obtain ⟨k0, k1, k2, h0, h1, h2, kz⟩ := row3 rR5
  have lR : w.heap.size < (w1.alloc (bxP b)).heap.size := by omega
  clear oS4 oF4 rR4 rP4 rC4 s3 g5
  go_wp2_with fail
  generalize hX : ((w3.setCell ⟨w.heap.size, 0, none⟩ (.int .i64 free)).setCell ⟨w.heap.size, 1, none⟩ (.slice a1 n1 c1)).setCell ⟨w.heap.size, 2, none⟩ (.slice a2 n2 c2) = X
  obtain ⟨m0, m1, m2⟩ := three_set _ _ _ rR5 hX
  have SX : ItsAt 38 (w1.alloc (bxP b)).heap.size (.slice a1 n1 c1) ss X := by
    rw [← hX]; exact ((oS5.put (p := ⟨w.heap.size, 0, none⟩) lR _).put (p := ⟨w.heap.size, 1, none⟩) lR _).put (p := ⟨w.heap.size, 2, none⟩) lR _
  have FX : ItsAt 40 (w1.alloc (bxP b)).heap.size (.slice a2 n2 c2) fs X := by
    rw [← hX]; exact ((oF5.put (p := ⟨w.heap.size, 0, none⟩) lR _).put (p := ⟨w.heap.size, 1, none⟩) lR _).put (p := ⟨w.heap.size, 2, none⟩) lR _
  have BX := below_set3 B5 (Nat.le_refl _) _ _ _ hX
  refine bodyPost_ret (v := .tuple #[.agg #[.int .i64 free, .slice a1 n1 c1, .slice a2 n2 c2], .int .i64 0, .int .i64 0]) (by simp [results, Tryz.results10, go_sem, m0, m1, m2]) rfl ⟨_, _, rfl, SX.sl, FX.sl, BX⟩
set_option maxRecDepth 100000 in
set_option maxHeartbeats 2000000 in
theorem p26par_bad {S : ByteArray} {w : World} {free : Int} {kz : Nat} {ss fs : List Itm} (hT : WTab w)
    (HC : ∀ (u : World) (b : Nat), u.heap[b]? = some (scO S 0 false) → WTab u → Calls Tryz.prog 23 #[pv b] u fun r w' => ∃ vS vF, r = .returned (.agg #[.int .i64 free, vS, vF]) ∧ ItsAt 38 u.heap.size vS ss w' ∧ ItsAt 40 u.heap.size vF fs w' ∧ w'.heap[b]? = some (scO S kz true) ∧ Bt b u w') :
    Calls Tryz.prog 10 #[.string S] w fun e w' => e = .returned (.tuple #[.agg #[.int .i64 0, .slice none 0 0, .slice none 0 0], .int .i64 kz, .int .i64 6]) ∧ Below w.heap.size w w' := by
  have HC := Lib.hid HC
  have HN := Lib.hid (fun u => new25_any S u)
  have lg := hT.heap
  have HT := Lib.hid hT
  clear hT
  go_enter Tryz.func10, Tryz.ntmps10
  go_wp2_with fail
  obtain ⟨u, hu⟩ : ∃ u, u = w.alloc (.cells #[.int .i64 0, .slice none 0 0, .slice none 0 0] 25) := ⟨_, rfl⟩
  have B0 : Below w.heap.size w u := hu ▸ al1 w _
  have rR : u.heap[w.heap.size]? = some (.cells #[.int .i64 0, .slice none 0 0, .slice none 0 0] 25 (0, 0)) := hu ▸ heap_alloc_new w _
  have zu := row_lt rR
  rw [← hu]
  clear hu
  refine (HN.out u).mono ?_
  rintro e1 w1 ⟨rfl, r1, g1⟩
  have rR1 := row_kept rR g1
  have B1 := below_on B0 g1
  have HT1 := Lib.hid (HT.out.on B1)
  generalize hb : u.heap.size = b at *
  have lb1 := row_lt r1
  clear g1
  go_wp2_with fail
  have r2 := row_kept r1 (al1 w1 (bxP b))
  have g2 := HC.out (w1.alloc (bxP b)) b r2 (HT1.out.al _)
  have rR2 := row_kept rR1 (al1 w1 (bxP b))
  have rP2 : (w1.alloc (bxP b)).heap[w1.heap.size]? = some (bxP b) := heap_alloc_new w1 _
  have zz : w1.heap.size < (w1.alloc (bxP b)).heap.size := by simp
  have B2 := B1.alloc (below_size B1) (bxP b)
  have G2 := Lib.hid g2
  clear g2
  refine G2.out.mono ?_
  rintro e2 w2 ⟨vS, vF, rfl, oS, oF, s2, q2⟩
  obtain ⟨a1, n1, c1, rfl⟩ := oS.form
  obtain ⟨a2, n2, c2, rfl⟩ := oF.form
  have rR3 := q2.row (show w.heap.size ≠ b by omega) rR2
  have rP3 := q2.row (show w1.heap.size ≠ b by omega) rP2
  have B3 : Below w.heap.size w w2 := B2.trans (q2.below (show w.heap.size ≤ b by omega) (show w.heap.size ≤ (w1.alloc (bxP b)).heap.size by omega))
  have cP : w2.cell? ⟨w1.heap.size, 0, none⟩ = some (xp b) := by rw [cell_of_row _ _ 0 _ _ _ rP3]; rfl
  clear rR2 rP2 q2 r2 r1
  have cPa : (w2.alloc (.cells #[.int .i64 free, .slice a1 n1 c1, .slice a2 n2 c2] 25)).cell? ⟨w1.heap.size, 0, none⟩ = some (xp b) := by rw [cell_of_row _ _ 0 _ _ _ (row_kept rP3 (al1 w2 (.cells #[.int .i64 free, .slice a1 n1 c1, .slice a2 n2 c2] 25)))]; rfl
  go_wp2_with fail
  have s3 := row_kept s2 (al1 w2 (.cells #[.int .i64 free, .slice a1 n1 c1, .slice a2 n2 c2] 25))
  have rR4 := row_kept rR3 (al1 w2 (.cells #[.int .i64 free, .slice a1 n1 c1, .slice a2 n2 c2] 25))
  have rP4 := row_kept rP3 (al1 w2 (.cells #[.int .i64 free, .slice a1 n1 c1, .slice a2 n2 c2] 25))
  have rC4 : (w2.alloc (.cells #[.int .i64 free, .slice a1 n1 c1, .slice a2 n2 c2] 25)).heap[w2.heap.size]? = some (.cells #[.int .i64 free, .slice a1 n1 c1, .slice a2 n2 c2] 25 (0, 0)) := heap_alloc_new w2 _
  have oS4 := oS.al (.cells #[.int .i64 free, .slice a1 n1 c1, .slice a2 n2 c2] 25)
  have oF4 := oF.al (.cells #[.int .i64 free, .slice a1 n1 c1, .slice a2 n2 c2] 25)
  have B4 := B3.alloc (below_size B3) (.cells #[.int .i64 free, .slice a1 n1 c1, .slice a2 n2 c2] 25)
  clear oS oF s2 rR3 rP3 cP cPa
  refine (err_bad s3).mono ?_
  rintro e3 w3 ⟨rfl, g5⟩
  have rR5 := row_kept rR4 g5
  have B5 := below_on B4 g5
  have rP5 := row_kept rP4 g5
  have s5 := row_kept s3 g5
  have cP5 : w3.cell? ⟨w1.heap.size, 0, none⟩ = some (xp b) := by rw [cell_of_row _ _ 0 _ _ _ rP5]; rfl
  clear oS4 oF4 rR4 rP4 rC4 s3 g5
  go_wp2_with fail
  refine (off_any s5).mono ?_
  rintro e4 w4 ⟨rfl, g6⟩
  have rR6 := row_kept rR5 g6
  have B6 := below_on B5 g6
  obtain ⟨k0, k1, k2, h0, h1, h2, kkz⟩ := row3 rR6
  clear rR5 rP5 s5 cP5 g6
  go_wp2_with fail
  generalize hX : ((w4.setCell ⟨w.heap.size, 0, none⟩ (.int .i64 0)).setCell ⟨w.heap.size, 1, none⟩ (.slice none 0 0)).setCell ⟨w.heap.size, 2, none⟩ (.slice none 0 0) = X
  obtain ⟨m0, m1, m2⟩ := three_set _ _ _ rR6 hX
  have BX := below_set3 B6 (Nat.le_refl _) _ _ _ hX
  refine bodyPost_ret (v := .tuple #[.agg #[.int .i64 0, .slice none 0 0, .slice none 0 0], .int .i64 kz, .int .i64 6]) (by simp [results, Tryz.results10, go_sem, m0, m1, m2]) rfl ⟨rfl, BX⟩
/-- The result of Parse: the catalogue, the offset, whether there is one. -/
def pEnd (N : Nat) (S : ByteArray) : Sc := (zE S (pBody N S ⟨0, false⟩).2).2
theorem p26par_yes {S : ByteArray} {N : Nat} {w : World} (hs : S.size ≤ 100000) (h1 : S.size + 1 < N) (hN : N ≤ 1000000) (hT : WTab w) (hz : (pEnd N S).b = false) :
    Calls Tryz.prog 10 #[.string S] w fun e w' => ∃ vS vF, e = .returned (.tuple #[.agg #[.int .i64 (pBody N S ⟨0, false⟩).1.free, vS, vF], .int .i64 0, .int .i64 0]) ∧ SlAt w' vS (pBody N S ⟨0, false⟩).1.ss ∧ SlAt w' vF (pBody N S ⟨0, false⟩).1.fs ∧ Below w.heap.size w w' :=
  p26par_ok (kz := (pEnd N S).k) hT (fun u b h ht => (p26cat h hs h1 hN ht).mono fun e w' ⟨vS, vF, q1, q2, q3, q4, q5⟩ => ⟨vS, vF, q1, q2, q3, by rw [q4]; show some (scO S (pEnd N S).k (pEnd N S).b) = _; rw [hz], q5⟩)
theorem p26par_no {S : ByteArray} {N : Nat} {w : World} (hs : S.size ≤ 100000) (h1 : S.size + 1 < N) (hN : N ≤ 1000000) (hT : WTab w) (hz : (pEnd N S).b = true) :
    Calls Tryz.prog 10 #[.string S] w fun e w' => e = .returned (.tuple #[.agg #[.int .i64 0, .slice none 0 0, .slice none 0 0], .int .i64 (pEnd N S).k, .int .i64 6]) ∧ Below w.heap.size w w' :=
  p26par_bad (kz := (pEnd N S).k) hT (fun u b h ht => (p26cat h hs h1 hN ht).mono fun e w' ⟨vS, vF, q1, q2, q3, q4, q5⟩ => ⟨vS, vF, q1, q2, q3, by rw [q4]; show some (scO S (pEnd N S).k (pEnd N S).b) = _; rw [hz], q5⟩)
end Go.Proofs.YtaamdimgloblpaaGreatDoor
