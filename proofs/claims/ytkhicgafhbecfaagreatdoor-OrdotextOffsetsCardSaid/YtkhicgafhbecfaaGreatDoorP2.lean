/- What earlier stages proved: Ye Yf Yh Yi Yk. -/
import Derived.Test.YtkhicgafhbecfaaGreatDoorP1
import Derived.Test.YtkhicgafhbecfaaGreatDoorYs
import Derived.Test.YtkhicgafhbecfaaGreatDoorM5
import Derived.Test.YtkhicgafhbecfaaGreatDoorKv
import Derived.Deep.RegionHeld3
import Derived.Test.YtkhicgafhbecfaaGreatDoorL1
import Derived.Test.YtkhicgafhbecfaaGreatDoorM6
namespace Go.Proofs.YtkhicgafhbecfaaGreatDoor
open Go.RowKit

theorem al3 (w : World) (o o' o'' : Obj) : Below w.heap.size w (((w.alloc o).alloc o').alloc o'') := (al2 w o o').alloc (by simp; omega) o''
def putA : Array Value → Nat → List Value → Array Value
  | cs, _, [] => cs
  | cs, o, v :: vs => putA (cs.setIfInBounds o v) (o + 1) vs
theorem rows_put {q : Nat} {T : TypeId} : ∀ (vs : List Value) (o : Nat) (cs : Array Value) {w : World}, w.heap[q]? = some (.cells cs T (0, 0)) → (w.setCells q o vs).heap[q]? = some (.cells (putA cs o vs) T (0, 0))
  | [], _, _, _, h => h
  | v :: vs, o, cs, w, h => rows_put vs (o + 1) (cs.setIfInBounds o v) (heap_setCell_same w q o cs T v h)
abbrev scX (S : ByteArray) (x : Sc) : Obj := scO S x.k x.b
abbrev pv (b : Nat) : Value := .agg #[xp b]
theorem xw_sc {S : ByteArray} {b g cap : Nat} {x : Sc} {ws : List ByteArray} {w : World} (h : w.heap[b]? = some (scX S x)) (hk : x.k ≤ S.size) (hs : S.size < big) (hW : StrsIn g cap ws w) (hgb : g ≠ b) (hw : Wds ws) :
    Calls Tryz.prog 43 #[xp b, .slice (some ⟨g, 0, none⟩) ws.length cap] w fun e w' => e = .returned (.int .i64 (yW ws S x).1) ∧ w'.heap[b]? = some (scX S (yW ws S x).2) ∧ Bt b w w' := xw_all h hk hs hW hgb hw
theorem xw_one {S : ByteArray} {b : Nat} {x : Sc} {e : ByteArray} {w : World} (h : w.heap[b]? = some (scX S x)) (hk : x.k ≤ S.size) (hs : S.size < big) (hw : Wds [e]) :
    Calls Tryz.prog 43 #[xp b, .slice (some ⟨w.heap.size, 0, none⟩) 1 1] (w.alloc (.cells #[.string e] 9)) fun r w' => r = .returned (.int .i64 (yW [e] S x).1) ∧ w'.heap[b]? = some (scX S (yW [e] S x).2) ∧ Bt b w w' :=
  (xw_sc (row_kept h (al1 w _)) hk hs (lit1 e _) (by have := row_lt h; omega) hw).mono fun _ _ ⟨h1, h2, h3⟩ => ⟨h1, h2, (Bt.al b w _).trans h3⟩
theorem xn_sc {S : ByteArray} {b : Nat} {x : Sc} {w : World} (h : w.heap[b]? = some (scX S x)) (hk : x.k ≤ S.size) (hs : S.size < big) :
    Calls Tryz.prog 44 #[xp b] w fun e w' => e = .returned (.int .i64 (yNu S x).1) ∧ w'.heap[b]? = some (scX S (yNu S x).2) ∧ Bt b w w' := xn_all h hk hs
theorem xi_sc {S : ByteArray} {b : Nat} {x : Sc} {w : World} (h : w.heap[b]? = some (scX S x)) (hk : x.k ≤ S.size) (hs : S.size < big) :
    Calls Tryz.prog 109 #[xp b] w fun e w' => e = .returned (.string (yI S x).1) ∧ w'.heap[b]? = some (scX S (yI S x).2) ∧ Bt b w w' := xi_all h hk hs
theorem anc_all {w : World} {q : Nat} {T : TypeId} {a0 a1 a2 a3 a4 a5 : Value} (x0 x1 x2 x3 x4 x5 : Value) (h : w.heap[q]? = some (.cells #[a0, a1, a2, a3, a4, a5] T (0, 0))) :
    ((((((w.setCell ⟨q, 0, none⟩ x0).setCell ⟨q, 1, none⟩ x1).setCell ⟨q, 2, none⟩ x2).setCell ⟨q, 3, none⟩ x3).setCell ⟨q, 4, none⟩ x4).setCell ⟨q, 5, none⟩ x5).heap[q]? = some (.cells #[x0, x1, x2, x3, x4, x5] T (0, 0)) := by
  have h1 : (w.setCell ⟨q, 0, none⟩ x0).heap[q]? = some (.cells #[x0, a1, a2, a3, a4, a5] T (0, 0)) := heap_setCell_same _ q 0 _ _ x0 h
  have h2 : ((w.setCell ⟨q, 0, none⟩ x0).setCell ⟨q, 1, none⟩ x1).heap[q]? = some (.cells #[x0, x1, a2, a3, a4, a5] T (0, 0)) := heap_setCell_same _ q 1 _ _ x1 h1
  have h3 : (((w.setCell ⟨q, 0, none⟩ x0).setCell ⟨q, 1, none⟩ x1).setCell ⟨q, 2, none⟩ x2).heap[q]? = some (.cells #[x0, x1, x2, a3, a4, a5] T (0, 0)) := heap_setCell_same _ q 2 _ _ x2 h2
  have h4 : ((((w.setCell ⟨q, 0, none⟩ x0).setCell ⟨q, 1, none⟩ x1).setCell ⟨q, 2, none⟩ x2).setCell ⟨q, 3, none⟩ x3).heap[q]? = some (.cells #[x0, x1, x2, x3, a4, a5] T (0, 0)) := heap_setCell_same _ q 3 _ _ x3 h3
  have h5 : (((((w.setCell ⟨q, 0, none⟩ x0).setCell ⟨q, 1, none⟩ x1).setCell ⟨q, 2, none⟩ x2).setCell ⟨q, 3, none⟩ x3).setCell ⟨q, 4, none⟩ x4).heap[q]? = some (.cells #[x0, x1, x2, x3, x4, a5] T (0, 0)) := heap_setCell_same _ q 4 _ _ x4 h4
  have h6 : ((((((w.setCell ⟨q, 0, none⟩ x0).setCell ⟨q, 1, none⟩ x1).setCell ⟨q, 2, none⟩ x2).setCell ⟨q, 3, none⟩ x3).setCell ⟨q, 4, none⟩ x4).setCell ⟨q, 5, none⟩ x5).heap[q]? = some (.cells #[x0, x1, x2, x3, x4, x5] T (0, 0)) := heap_setCell_same _ q 5 _ _ x5 h5
  exact h6
theorem itm_all {w : World} {q : Nat} {T : TypeId} {a0 a1 a2 a3 a4 a5 a6 a7 a8 : Value} (x0 x1 x2 x3 x4 x5 x6 x7 x8 : Value) (h : w.heap[q]? = some (.cells #[a0, a1, a2, a3, a4, a5, a6, a7, a8] T (0, 0))) :
    (((((((((w.setCell ⟨q, 0, none⟩ x0).setCell ⟨q, 1, none⟩ x1).setCell ⟨q, 2, none⟩ x2).setCell ⟨q, 3, none⟩ x3).setCell ⟨q, 4, none⟩ x4).setCell ⟨q, 5, none⟩ x5).setCell ⟨q, 6, none⟩ x6).setCell ⟨q, 7, none⟩ x7).setCell ⟨q, 8, none⟩ x8).heap[q]? = some (.cells #[x0, x1, x2, x3, x4, x5, x6, x7, x8] T (0, 0)) := by
  have h1 : (w.setCell ⟨q, 0, none⟩ x0).heap[q]? = some (.cells #[x0, a1, a2, a3, a4, a5, a6, a7, a8] T (0, 0)) := heap_setCell_same _ q 0 _ _ x0 h
  have h2 : ((w.setCell ⟨q, 0, none⟩ x0).setCell ⟨q, 1, none⟩ x1).heap[q]? = some (.cells #[x0, x1, a2, a3, a4, a5, a6, a7, a8] T (0, 0)) := heap_setCell_same _ q 1 _ _ x1 h1
  have h3 : (((w.setCell ⟨q, 0, none⟩ x0).setCell ⟨q, 1, none⟩ x1).setCell ⟨q, 2, none⟩ x2).heap[q]? = some (.cells #[x0, x1, x2, a3, a4, a5, a6, a7, a8] T (0, 0)) := heap_setCell_same _ q 2 _ _ x2 h2
  have h4 : ((((w.setCell ⟨q, 0, none⟩ x0).setCell ⟨q, 1, none⟩ x1).setCell ⟨q, 2, none⟩ x2).setCell ⟨q, 3, none⟩ x3).heap[q]? = some (.cells #[x0, x1, x2, x3, a4, a5, a6, a7, a8] T (0, 0)) := heap_setCell_same _ q 3 _ _ x3 h3
  have h5 : (((((w.setCell ⟨q, 0, none⟩ x0).setCell ⟨q, 1, none⟩ x1).setCell ⟨q, 2, none⟩ x2).setCell ⟨q, 3, none⟩ x3).setCell ⟨q, 4, none⟩ x4).heap[q]? = some (.cells #[x0, x1, x2, x3, x4, a5, a6, a7, a8] T (0, 0)) := heap_setCell_same _ q 4 _ _ x4 h4
  have h6 : ((((((w.setCell ⟨q, 0, none⟩ x0).setCell ⟨q, 1, none⟩ x1).setCell ⟨q, 2, none⟩ x2).setCell ⟨q, 3, none⟩ x3).setCell ⟨q, 4, none⟩ x4).setCell ⟨q, 5, none⟩ x5).heap[q]? = some (.cells #[x0, x1, x2, x3, x4, x5, a6, a7, a8] T (0, 0)) := heap_setCell_same _ q 5 _ _ x5 h5
  have h7 : (((((((w.setCell ⟨q, 0, none⟩ x0).setCell ⟨q, 1, none⟩ x1).setCell ⟨q, 2, none⟩ x2).setCell ⟨q, 3, none⟩ x3).setCell ⟨q, 4, none⟩ x4).setCell ⟨q, 5, none⟩ x5).setCell ⟨q, 6, none⟩ x6).heap[q]? = some (.cells #[x0, x1, x2, x3, x4, x5, x6, a7, a8] T (0, 0)) := heap_setCell_same _ q 6 _ _ x6 h6
  have h8 : ((((((((w.setCell ⟨q, 0, none⟩ x0).setCell ⟨q, 1, none⟩ x1).setCell ⟨q, 2, none⟩ x2).setCell ⟨q, 3, none⟩ x3).setCell ⟨q, 4, none⟩ x4).setCell ⟨q, 5, none⟩ x5).setCell ⟨q, 6, none⟩ x6).setCell ⟨q, 7, none⟩ x7).heap[q]? = some (.cells #[x0, x1, x2, x3, x4, x5, x6, x7, a8] T (0, 0)) := heap_setCell_same _ q 7 _ _ x7 h7
  have h9 : (((((((((w.setCell ⟨q, 0, none⟩ x0).setCell ⟨q, 1, none⟩ x1).setCell ⟨q, 2, none⟩ x2).setCell ⟨q, 3, none⟩ x3).setCell ⟨q, 4, none⟩ x4).setCell ⟨q, 5, none⟩ x5).setCell ⟨q, 6, none⟩ x6).setCell ⟨q, 7, none⟩ x7).setCell ⟨q, 8, none⟩ x8).heap[q]? = some (.cells #[x0, x1, x2, x3, x4, x5, x6, x7, x8] T (0, 0)) := heap_setCell_same _ q 8 _ _ x8 h8
  exact h9
theorem itm_anc {w : World} {q : Nat} {T : TypeId} {a0 a1 a2 a3 a4 a5 a6 a7 a8 : Value} (x0 x1 x2 x3 x4 x5 : Value) (h : w.heap[q]? = some (.cells #[a0, a1, a2, a3, a4, a5, a6, a7, a8] T (0, 0))) :
    ((((((w.setCell ⟨q, 3, none⟩ x0).setCell ⟨q, 4, none⟩ x1).setCell ⟨q, 5, none⟩ x2).setCell ⟨q, 6, none⟩ x3).setCell ⟨q, 7, none⟩ x4).setCell ⟨q, 8, none⟩ x5).heap[q]? = some (.cells #[a0, a1, a2, x0, x1, x2, x3, x4, x5] T (0, 0)) := by
  have h1 : (w.setCell ⟨q, 3, none⟩ x0).heap[q]? = some (.cells #[a0, a1, a2, x0, a4, a5, a6, a7, a8] T (0, 0)) := heap_setCell_same _ q 3 _ _ x0 h
  have h2 : ((w.setCell ⟨q, 3, none⟩ x0).setCell ⟨q, 4, none⟩ x1).heap[q]? = some (.cells #[a0, a1, a2, x0, x1, a5, a6, a7, a8] T (0, 0)) := heap_setCell_same _ q 4 _ _ x1 h1
  have h3 : (((w.setCell ⟨q, 3, none⟩ x0).setCell ⟨q, 4, none⟩ x1).setCell ⟨q, 5, none⟩ x2).heap[q]? = some (.cells #[a0, a1, a2, x0, x1, x2, a6, a7, a8] T (0, 0)) := heap_setCell_same _ q 5 _ _ x2 h2
  have h4 : ((((w.setCell ⟨q, 3, none⟩ x0).setCell ⟨q, 4, none⟩ x1).setCell ⟨q, 5, none⟩ x2).setCell ⟨q, 6, none⟩ x3).heap[q]? = some (.cells #[a0, a1, a2, x0, x1, x2, x3, a7, a8] T (0, 0)) := heap_setCell_same _ q 6 _ _ x3 h3
  have h5 : (((((w.setCell ⟨q, 3, none⟩ x0).setCell ⟨q, 4, none⟩ x1).setCell ⟨q, 5, none⟩ x2).setCell ⟨q, 6, none⟩ x3).setCell ⟨q, 7, none⟩ x4).heap[q]? = some (.cells #[a0, a1, a2, x0, x1, x2, x3, x4, a8] T (0, 0)) := heap_setCell_same _ q 7 _ _ x4 h4
  have h6 : ((((((w.setCell ⟨q, 3, none⟩ x0).setCell ⟨q, 4, none⟩ x1).setCell ⟨q, 5, none⟩ x2).setCell ⟨q, 6, none⟩ x3).setCell ⟨q, 7, none⟩ x4).setCell ⟨q, 8, none⟩ x5).heap[q]? = some (.cells #[a0, a1, a2, x0, x1, x2, x3, x4, x5] T (0, 0)) := heap_setCell_same _ q 8 _ _ x5 h5
  exact h6
theorem cat_all {w : World} {q : Nat} {T : TypeId} {a0 a1 a2 : Value} (x0 x1 x2 : Value) (h : w.heap[q]? = some (.cells #[a0, a1, a2] T (0, 0))) :
    (((w.setCell ⟨q, 0, none⟩ x0).setCell ⟨q, 1, none⟩ x1).setCell ⟨q, 2, none⟩ x2).heap[q]? = some (.cells #[x0, x1, x2] T (0, 0)) := by
  have h1 : (w.setCell ⟨q, 0, none⟩ x0).heap[q]? = some (.cells #[x0, a1, a2] T (0, 0)) := heap_setCell_same _ q 0 _ _ x0 h
  have h2 : ((w.setCell ⟨q, 0, none⟩ x0).setCell ⟨q, 1, none⟩ x1).heap[q]? = some (.cells #[x0, x1, a2] T (0, 0)) := heap_setCell_same _ q 1 _ _ x1 h1
  have h3 : (((w.setCell ⟨q, 0, none⟩ x0).setCell ⟨q, 1, none⟩ x1).setCell ⟨q, 2, none⟩ x2).heap[q]? = some (.cells #[x0, x1, x2] T (0, 0)) := heap_setCell_same _ q 2 _ _ x2 h2
  exact h3
theorem sc_all {w : World} {q : Nat} {T : TypeId} {a0 a1 a2 : Value} (x0 x1 x2 : Value) (h : w.heap[q]? = some (.cells #[a0, a1, a2] T (0, 0))) :
    (((w.setCell ⟨q, 0, none⟩ x0).setCell ⟨q, 1, none⟩ x1).setCell ⟨q, 2, none⟩ x2).heap[q]? = some (.cells #[x0, x1, x2] T (0, 0)) := by
  have h1 : (w.setCell ⟨q, 0, none⟩ x0).heap[q]? = some (.cells #[x0, a1, a2] T (0, 0)) := heap_setCell_same _ q 0 _ _ x0 h
  have h2 : ((w.setCell ⟨q, 0, none⟩ x0).setCell ⟨q, 1, none⟩ x1).heap[q]? = some (.cells #[x0, x1, a2] T (0, 0)) := heap_setCell_same _ q 1 _ _ x1 h1
  have h3 : (((w.setCell ⟨q, 0, none⟩ x0).setCell ⟨q, 1, none⟩ x1).setCell ⟨q, 2, none⟩ x2).heap[q]? = some (.cells #[x0, x1, x2] T (0, 0)) := heap_setCell_same _ q 2 _ _ x2 h2
  exact h3
abbrev anc26 (a : Anc) : Value := .agg #[.int .i64 a.k, .int .i64 a.m, .int .i64 a.d, .int .i64 a.o, .int .i64 a.w, .int .i64 a.c]
set_option maxHeartbeats 1000000 in
set_option maxRecDepth 100000 in
theorem r26wwd (W : World) : Calls Tryz.prog 57 #[] W fun e w' => ∃ g cap, e = .returned (.slice (some ⟨g, 0, none⟩) 7 cap) ∧ StrsIn g cap lWd w' ∧ W.heap.size ≤ g ∧ Below W.heap.size W w' := by
  obtain ⟨i0, hi, hz0, hz1, hz2⟩ := info_parts infoStr
  have HN := Lib.hid (fun (i : Nat) (u : World) => rname_any (i : Int) u)
  have hW0 : ∀ i : Nat, i < 7 → nm (i : Int) = lWd.getD i ByteArray.empty := by decide +kernel
  have HW := Lib.hid hW0
  clear hW0
  skip
  go_enter Tryz.func57, Tryz.ntmps57
  go_wp2_with fail
  go_loopw [1, 2] (fun v vi wr => ∃ i : Nat, i ≤ 7 ∧ vi = .int .i64 i ∧ Below W.heap.size W wr ∧ StrsAt W.heap.size v (lWd.take i) wr) (fun _ vi _ => 7 - (intOf vi).toNat)
  case atStart => exact ⟨0, by omega, rfl, Below.refl _ _, StrsAt.emp _ _⟩
  case round =>
    obtain ⟨k, hk, rfl, hb, hv⟩ := hrel
    have HB := Lib.hid hb
    have HV := Lib.hid hv
    clear hb hv
    by_cases hlt : k < 7
    · have d0 : decide ((k : Int) < 7) = true := dtrue (by omega)
      have d1 : decide ((k : Int) ≤ 6) = true := dtrue (by omega)
      have d2 : (k : Int) < 7 := by omega
      have d3 : (k : Int) ≤ 6 := by omega
      have hmap := Lib.hid (show lWd.take (k + 1) = lWd.take k ++ [nm (k : Int)] by
        rw [HW.out k hlt, List.take_succ_eq_append_getElem (show k < lWd.length from hlt), List.getD_eq_getElem?_getD, List.getElem?_eq_getElem (show k < lWd.length from hlt)]; rfl)
      have hle : (lWd.take k).length = k := by rw [List.length_take]; show min k 7 = k; omega
      obtain ⟨nw, hnw⟩ : ∃ nw, nw = nm (k : Int) := ⟨_, rfl⟩
      have HN1 := Lib.hid (fun (u : World) => HN.out k u)
      rw [← hnw] at HN1 hmap
      clear hnw
      have hz := Lib.hid (show W.heap.size ≤ wr.heap.size from HB.out.size)
      skip
      go_wp2_with fail
      refine (HN1.out _).mono ?_
      rintro e w1 ⟨rfl, rfl⟩
      go_wp2_with (at_builtin; refine wpList_append_own _ rfl _ _ 38 rfl W.heap.size 9 i0 (.string ⟨#[]⟩) 1 16 Tryz.underlying38 hi hz0 hz1 hz2 rfl (by decide) _ _ _ rfl (HV.out.al _) ⟨wr.heap.size, 0, none⟩ 1 1 [.string nw] rfl rfl (cell_one_new _ _ _) (by simp [Value.oneCell']) (by unfold maxLen; omega) (by omega) (by have := hz.out; simp; omega) ?_; intro v' w2 hown' hgrow _; obtain ⟨hv2, hb2⟩ := HV.out.app HB.out hz.out hown' hgrow; have HV2 := Lib.hid hv2; have HB2 := Lib.hid hb2; clear hown' hgrow hv2 hb2)
      go_roundw
      case rel => exact ⟨k + 1, by omega, by go_num, HB2.out, by rw [hmap.out]; exact HV2.out⟩
      case measure => simp [intOf]; omega
    · obtain rfl : k = 7 := by omega
      have d0 : decide (((7 : Nat) : Int) < 7) = false := by decide
      have d1 : decide (((7 : Nat) : Int) ≤ 6) = false := by decide
      have HV7 := Lib.hid (show StrsAt W.heap.size _ lWd wr from HV.out)
      go_wp2_with fail
      go_ret
      rcases HV7.out.get with ⟨_, e⟩ | ⟨g, cap, rfl, hI⟩
      · cases e
      · exact ⟨g, cap, rfl, hI, (World.ownsRow.lt HV7.out g rfl).1, HB.out⟩
end Go.Proofs.YtkhicgafhbecfaaGreatDoor

namespace Go.Proofs.YtkhicgafhbecfaaGreatDoor
open Go.RowKit

theorem ne_scan {w : World} {b : Nat} {S : ByteArray} {x : Sc} (h : WTab w) (hr : w.heap[b]? = some (scX S x)) : 0 ≠ b := by
  rintro rfl
  obtain ⟨t, fr, e⟩ := h.row
  rw [hr] at e
  injection e with e
  injection e with e _ _
  have e := congrArg Array.size e
  rw [show nms.size = 7 from rfl] at e
  exact absurd e (by show ¬ 3 = 7; decide)
theorem WTab.mv {w w' : World} {b : Nat} (h : WTab w) (hb : Bt b w w') (hn : 0 ≠ b) : WTab w' := by
  obtain ⟨t, fr, e⟩ := h.row
  exact ⟨⟨t, fr, hb.row hn e⟩⟩
set_option maxRecDepth 100000 in
theorem p26clo (s : ByteArray) (hs : s.size ≤ 100000) (w : World) : Calls Tryz.prog 108 #[.string s] w fun e w' => e = .returned (.string s) ∧ Below w.heap.size w w' := by
  have H := Lib.hid (fun u => sh_stringslite_Clone s u (by omega))
  go_enter Tryz.func108, Tryz.ntmps108
  go_wp2_with fail
  refine (H.out w).mono ?_
  rintro e w' ⟨rfl, hb⟩
  go_wp2_with fail
  go_ret
  exact ⟨rfl, hb⟩
end Go.Proofs.YtkhicgafhbecfaaGreatDoor

namespace Go.Proofs.YtkhicgafhbecfaaGreatDoor
open Go.RowKit

theorem lt_big {S : ByteArray} (h : S.size ≤ 100000) : S.size < big := Nat.lt_of_le_of_lt h (by unfold big; decide)
section
variable {S : ByteArray} {b : Nat} {x : Sc} {w : World}
theorem yI_small (hk : x.k ≤ S.size) : (yI S x).1.size ≤ 40 := by
  obtain ⟨k, b⟩ := x
  cases b
  · show (idV S k).size ≤ 40
    unfold idV
    split
    · decide
    · have := idL_le S k hk
      rw [ByteArray.size_extract]; omega
  · show (ByteArray.mk #[]).size ≤ 40
    decide
theorem zC_cases (ws : List ByteArray) : (zC ws S x).1 = -1 ∨ (0 ≤ (zC ws S x).1 ∧ (zC ws S x).1 < ws.length) := by
  obtain ⟨k, b⟩ := x
  cases b
  · show wdI S k ws = -1 ∨ (0 ≤ wdI S k ws ∧ wdI S k ws < ws.length)
    unfold wdI
    cases e : wdF S k ws with
    | none => exact .inl rfl
    | some i => exact .inr ⟨by show (0 : Int) ≤ i; omega, by have := (wdF_some e).1; show (i : Int) < ws.length; omega⟩
  · exact .inl rfl
end

def msr (S : ByteArray) (y : Sc) : Nat := S.size - y.k + (if y.b then 0 else 1)
def msW (S : ByteArray) (b : Nat) (w : World) : Nat := S.size - (intOf ((w.cell? ⟨b, 1, none⟩).getD undef)).toNat + (match w.cell? ⟨b, 2, none⟩ with | some (.bool true) => 0 | _ => 1)
theorem msW_is {S : ByteArray} {b : Nat} {y : Sc} {w : World} (h : w.heap[b]? = some (scX S y)) : msW S b w = msr S y := by
  obtain ⟨c0, c1, c2, -⟩ := sc_facts h
  unfold msW msr
  rw [c1, c2]
  obtain ⟨k, bb⟩ := y
  cases bb <;> rfl
theorem msr_step {f : Prs Itm} (G : Gk f) (A : Adv f) {S : ByteArray} {y : Sc} (hk : y.k ≤ S.size) (hb : y.b = false) : msr S (f S y).2 < msr S y := by
  have h1 := (G.le S y hk)
  have h2 := A S y hk
  unfold msr
  rw [hb]
  cases q : (f S y).2.b
  · have := h2 q
    show _ + 1 < _ + 1
    omega
  · show _ + 0 < _ + 1
    omega
theorem ItsAt.bt {t : TypeId} {B b : Nat} {v : Value} {xs : List Itm} {w w' : World} (h : ItsAt t B v xs w) (hb : Bt b w w') (hB : b < B) : ItsAt t B v xs w' := by
  refine World.ownsRow.kept h (row := some b) ⟨hb.os, hb.tape, hb.output, hb.size, fun k hk hne => hb.block k hk (fun e => hne (by rw [e]))⟩ ?_
  rcases h.2 with ⟨rfl, _⟩ | ⟨g, cap, cur, rfl, hg, _⟩
  · exact .inl rfl
  · right; simp [Value.ownBlock]; omega
section
variable {S : ByteArray} {b P R Q : Nat} {W : World} {free : Int} {vS vF : Value} {ls lf : List Itm} {y : Sc} {u u' : World}
end
theorem own_ne {t T : TypeId} {B c : Nat} {v : Value} {xs : List Itm} {w : World} {cs : Array Value} {fr : Nat × Nat} (h : ItsAt t B v xs w) (hr : w.heap[c]? = some (.cells cs T fr)) (ht : T ≠ t) : some c ≠ v.ownBlock := fun e => by
  rcases h.2 with ⟨rfl, _⟩ | ⟨g, cap, cur, rfl, _, hg, _⟩
  · cases e
  · obtain rfl : c = g := by simpa [Value.ownBlock] using e
    rw [hr] at hg
    injection hg with hg
    injection hg with _ h2 _
    exact ht h2
end Go.Proofs.YtkhicgafhbecfaaGreatDoor

namespace Go.Proofs.YtkhicgafhbecfaaGreatDoor
open Go.RowKit

theorem ItsAt.form {t : TypeId} {B : Nat} {v : Value} {xs : List Itm} {w : World} (h : ItsAt t B v xs w) : ∃ a n c, v = .slice a n c := by
  rcases h.2 with ⟨rfl, _⟩ | ⟨g, cap, cur, rfl, _⟩
  · exact ⟨_, _, _, rfl⟩
  · exact ⟨_, _, _, rfl⟩
theorem ItsAt.base {t : TypeId} {B B' : Nat} {v : Value} {xs : List Itm} {w : World} (h : ItsAt t B v xs w) (hB : B' ≤ B) : ItsAt t B' v xs w := by
  refine ⟨h.1, ?_⟩
  rcases h.2 with h2 | ⟨g, cap, cur, e, hb, r⟩
  · exact .inl h2
  · exact .inr ⟨g, cap, cur, e, Nat.le_trans hB hb, r⟩
def zE : Prs Unit := fun S x => ((), ⟨x.k, feB x.b S x.k⟩)
end Go.Proofs.YtkhicgafhbecfaaGreatDoor

namespace Go.Proofs.YtkhicgafhbecfaaGreatDoor
open Go.RowKit

theorem below_size {B : Nat} {w w' : World} (h : Below B w w') : w.heap.size ≤ w'.heap.size := h.size
/-- The result of Parse: the catalogue, the offset, whether there is one. -/
def pEnd (N : Nat) (S : ByteArray) : Sc := (zE S (pBody N S ⟨0, false⟩).2).2
end Go.Proofs.YtkhicgafhbecfaaGreatDoor
