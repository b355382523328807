/- Windows: the reference's Assign of an empty window, of any; what package transfer must answer (TP); the fixed examples of its laws (awake). -/
import Derived.Test.YtaifhikhdcnacaaAd
namespace Go.Proofs.Ytaifhikhdcnacaa
open Go.RowKit

theorem as_zero : asE [] [] = 0 ∧ asM [] [] = [] := by decide
set_option maxRecDepth 100000 in
theorem r22as_nil (c1 c2 : Nat) (A2 : Option Addr) (W : World) : Calls Try.prog 12 #[.slice none 0 c1, .slice A2 0 c2] W (RetA 39 W 0 []) := by
  go_enter Try.func12, Try.ntmps12
  go_wp2
  refine wp_loop_rounds 1 ?_
  rw [rounds_succ]
  go_wp2
  go_ret2
  exact ⟨_, rfl, OwM.nil _ _ _, (Below.refl _ _).alloc (Nat.le_refl _) _⟩
set_option maxRecDepth 100000 in
theorem r22as_emp (ad : Addr) (c1 c2 : Nat) (A2 : Option Addr) (W : World) : Calls Try.prog 12 #[.slice (some ad) 0 c1, .slice A2 0 c2] W (RetA 39 W 0 []) := by
  obtain ⟨i0, hi, hz0, hz1, hz2⟩ := info_parts infoBool
  have B1 := Lib.hid ((Below.refl W.heap.size W).alloc (Nat.le_refl _) (.cells #[] 4))
  have OW := Lib.hid (own_empty W 4 1)
  go_enter Try.func12, Try.ntmps12
  go_wp2_with (at_builtin; refine wpList_append_own _ rfl _ _ 22 rfl W.heap.size 4 i0 (.bool false) 1 1 Try.underlying22 hi hz0 hz1 hz2 rfl (by decide) _ 0 [] rfl OW.out ad 0 c1 [] rfl rfl (fun j u h => by simp at h) (fun u hu => by simp at hu) (by decide) (by omega) (by simp) ?_; intro v0 w1 hown' hgrow _; have BW1 := Lib.hid (B1.out.grown hgrow (by simp) (fun k e => (World.ownsRow.lt OW.out k e).1)); clear hown' hgrow)
  refine wp_loop_rounds 1 ?_
  rw [rounds_succ]
  go_wp2_with fail
  go_ret2
  exact ⟨_, rfl, OwM.nil _ _ _, BW1.out⟩
theorem r22as_any (fr : List Bool) (imp : List (List Int)) (vf vi : Value) (W : World) (h1 : BlAt W vf fr) (h2 : LsAt W vi imp) (hf : fewT fr imp = true) : Calls Try.prog 12 #[vf, vi] W (RetA 39 W (asE fr imp) (asM fr imp)) := by
  obtain ⟨f1, f2, f3, f4⟩ := fewT_iff.1 hf
  by_cases hE : fr.length = imp.length
  · rcases Nat.eq_zero_or_pos fr.length with h0 | h0
    · obtain rfl := List.eq_nil_of_length_eq_zero h0
      obtain rfl := List.eq_nil_of_length_eq_zero (hE.symm.trans h0)
      rw [as_zero.1, as_zero.2]
      obtain ⟨A1, c1, rfl, _⟩ := h1
      obtain ⟨f, ⟨A2, c2, rfl, _⟩, _⟩ := h2
      cases A1 with
      | none => exact r22as_nil c1 c2 A2 W
      | some ad => exact r22as_emp ad c1 c2 A2 W
    · have h1' := h1
      obtain ⟨A1, c1, rfl, n1, n2, n3⟩ := h1
      obtain ⟨b, o, rfl, _⟩ := n3 0 h0
      exact r22as_some fr imp b o c1 vi W hE h0 f1 (fun d => by
        by_cases hd : d < imp.length
        · exact f3 _ (by rw [List.getD_eq_getElem?_getD, List.getElem?_eq_getElem hd]; exact List.getElem_mem hd)
        · rw [List.getD_eq_getElem?_getD, List.getElem?_eq_none (by omega)]; exact Nat.zero_le _) f4 h1' h2
  · rw [(as_far hE).1, (as_far hE).2]
    exact r22as_far fr imp vf vi W hE h1 h2
/-- What package transfer's functions must answer, of small windows. -/
structure TP : Prop where
  asg : ∀ (fr : List Bool) (imp : List (List Int)) (vf vi : Value) (u : World), BlAt u vf fr → LsAt u vi imp → fewT fr imp = true → Calls Try.prog 11 #[vf, vi] u (RetA 36 u (asE fr imp) (asM fr imp))
  tk : ∀ (ms : List Mv) (day : Int) (v : Value) (u : World), MvAt u v ms → ms.length ≤ 400 → Calls Try.prog 15 #[v, .int .i64 day] u fun e w' => e = .returned (.tuple #[mvv (tkV ms day).1, .bool (tkV ms day).2]) ∧ Below u.heap.size u w'
  rm : ∀ (fr : List Bool) (imp : List (List Int)) (vf vi : Value) (u : World), BlAt u vf fr → LsAt u vi imp → fewT fr imp = true → Calls Try.prog 16 #[vf, vi] u fun e w' => e = .returned (.int .i64 (roomF fr imp)) ∧ Below u.heap.size u w'
/-! literals -/
theorem in_row {W : World} {b t : Nat} {cs : Array Value} (h : W.heap[b]? = some (.cells cs t (0, 0))) (xs : List Int) (hx : cs = (xs.map (Value.int .i64)).toArray) (hl : xs.length ≤ maxLen) : InAt W (.slice (some ⟨b, 0, none⟩) xs.length xs.length) xs := by
  subst hx
  refine ⟨_, xs.length, rfl, Nat.le_refl _, hl, fun i hi => ⟨b, 0, rfl, (Array.getElem?_eq_some_iff.1 h).1, ?_⟩⟩
  rw [cell_of_row W b (0 + i) _ _ _ h, Nat.zero_add]
  simp [List.getD_eq_getElem?_getD, List.getElem?_eq_getElem hi]
theorem bl_row {W : World} {b t : Nat} {cs : Array Value} (h : W.heap[b]? = some (.cells cs t (0, 0))) (xs : List Bool) (hx : cs = (xs.map Value.bool).toArray) (hl : xs.length ≤ maxLen) : BlAt W (.slice (some ⟨b, 0, none⟩) xs.length xs.length) xs := by
  subst hx
  refine ⟨_, xs.length, rfl, Nat.le_refl _, hl, fun i hi => ⟨b, 0, rfl, (Array.getElem?_eq_some_iff.1 h).1, ?_⟩⟩
  rw [cell_of_row W b (0 + i) _ _ _ h, Nat.zero_add]
  simp [List.getD_eq_getElem?_getD, List.getElem?_eq_getElem hi]
theorem ls_row {W : World} {b t : Nat} {cs : Array Value} (h : W.heap[b]? = some (.cells cs t (0, 0))) (ls : List (List Int)) (hn : cs.size = ls.length) (hl : ls.length ≤ maxLen) (hx : ∀ i, i < ls.length → InAt W (cs.getD i (.bool false)) (ls.getD i [])) : LsAt W (.slice (some ⟨b, 0, none⟩) ls.length ls.length) ls := by
  refine ⟨fun i => cs.getD i (.bool false), ⟨_, ls.length, rfl, Nat.le_refl _, hl, fun i hi => ⟨b, 0, rfl, (Array.getElem?_eq_some_iff.1 h).1, ?_⟩⟩, hx⟩
  rw [cell_of_row W b (0 + i) _ _ _ h, Nat.zero_add, Array.getElem?_eq_getElem (by omega)]
  simp [Array.getD, hn, hi]
theorem mv_row2 {W : World} {b t : Nat} {a0 a1 a2 b0 b1 b2 : Int} (h : W.heap[b]? = some (.cells #[.int .i64 a0, .int .i64 a1, .int .i64 a2, .int .i64 b0, .int .i64 b1, .int .i64 b2] t (0, 0))) : MvAt W (.slice (some ⟨b, 0, none⟩) 2 2) [(a0, a1, a2), (b0, b1, b2)] := by
  have c := fun j => cell_of_row W b j _ _ _ h
  refine ⟨_, 2, rfl, Nat.le_refl _, by unfold maxLen; omega, fun i d hd => ⟨b, 0, rfl, (Array.getElem?_eq_some_iff.1 h).1, ?_⟩⟩
  match i, hd with
  | 0, hd => obtain rfl : (a0, a1, a2) = d := by simpa using hd
             exact ⟨(c 0).trans rfl, (c 1).trans rfl, (c 2).trans rfl⟩
  | 1, hd => obtain rfl : (b0, b1, b2) = d := by simpa using hd
             exact ⟨(c 3).trans rfl, (c 4).trans rfl, (c 5).trans rfl⟩
  | n + 2, hd => simp at hd
theorem alls_row : ∀ (os : List Obj) (W : World) (i : Nat), i < os.length → (os.foldl World.alloc W).heap[W.heap.size + i]? = os[i]?
  | [], _, _, h => by simp at h
  | a :: os, W, 0, _ => by
    show (os.foldl World.alloc (W.alloc a)).heap[W.heap.size + 0]? = some a
    have key : ∀ (os : List Obj) (U : World) (x : Obj) (b : Nat), U.heap[b]? = some x → (os.foldl World.alloc U).heap[b]? = some x := by
      intro os
      induction os with
      | nil => intro U x b h; exact h
      | cons y ys ih => intro U x b h; exact ih _ _ _ (row_al h y)
    exact key os _ _ _ (heap_alloc_new W a)
  | a :: os, W, i + 1, h => by
    have := alls_row os (W.alloc a) i (by simpa using h)
    rw [show (W.alloc a).heap.size = W.heap.size + 1 by simp] at this
    rw [show W.heap.size + (i + 1) = W.heap.size + 1 + i by omega]
    exact this
theorem alls_below : ∀ (os : List Obj) (W : World), Below W.heap.size W (os.foldl World.alloc W)
  | [], _ => Below.refl _ _
  | a :: os, W => below_on ((Below.refl _ _).alloc (Nat.le_refl _) a) (alls_below os (W.alloc a))
/-- A literal of five lists of at most one integer. -/
theorem ls_five (W U : World) (n : Nat) (hn : W.heap.size = n) (l0 l1 l2 l3 l4 : List Int) (t t' : Nat) (hl : l0.length ≤ 1 ∧ l1.length ≤ 1 ∧ l2.length ≤ 1 ∧ l3.length ≤ 1 ∧ l4.length ≤ 1)
    (hU : [Obj.cells (l0.map (Value.int .i64)).toArray t (0, 0), Obj.cells (l1.map (Value.int .i64)).toArray t (0, 0), Obj.cells (l2.map (Value.int .i64)).toArray t (0, 0), Obj.cells (l3.map (Value.int .i64)).toArray t (0, 0), Obj.cells (l4.map (Value.int .i64)).toArray t (0, 0), Obj.cells #[.slice (some ⟨n, 0, none⟩) l0.length l0.length, .slice (some ⟨n + 1, 0, none⟩) l1.length l1.length, .slice (some ⟨n + 1 + 1, 0, none⟩) l2.length l2.length, .slice (some ⟨n + 1 + 1 + 1, 0, none⟩) l3.length l3.length, .slice (some ⟨n + 1 + 1 + 1 + 1, 0, none⟩) l4.length l4.length] t' (0, 0)].foldl World.alloc W = U) : LsAt U (.slice (some ⟨n + 1 + 1 + 1 + 1 + 1, 0, none⟩) 5 5) [l0, l1, l2, l3, l4] ∧ Below W.heap.size W U := by
  have r := fun i hi => alls_row [Obj.cells (l0.map (Value.int .i64)).toArray t (0, 0), Obj.cells (l1.map (Value.int .i64)).toArray t (0, 0), Obj.cells (l2.map (Value.int .i64)).toArray t (0, 0), Obj.cells (l3.map (Value.int .i64)).toArray t (0, 0), Obj.cells (l4.map (Value.int .i64)).toArray t (0, 0), Obj.cells #[.slice (some ⟨n, 0, none⟩) l0.length l0.length, .slice (some ⟨n + 1, 0, none⟩) l1.length l1.length, .slice (some ⟨n + 1 + 1, 0, none⟩) l2.length l2.length, .slice (some ⟨n + 1 + 1 + 1, 0, none⟩) l3.length l3.length, .slice (some ⟨n + 1 + 1 + 1 + 1, 0, none⟩) l4.length l4.length] t' (0, 0)] W i hi
  have hb := alls_below [Obj.cells (l0.map (Value.int .i64)).toArray t (0, 0), Obj.cells (l1.map (Value.int .i64)).toArray t (0, 0), Obj.cells (l2.map (Value.int .i64)).toArray t (0, 0), Obj.cells (l3.map (Value.int .i64)).toArray t (0, 0), Obj.cells (l4.map (Value.int .i64)).toArray t (0, 0), Obj.cells #[.slice (some ⟨n, 0, none⟩) l0.length l0.length, .slice (some ⟨n + 1, 0, none⟩) l1.length l1.length, .slice (some ⟨n + 1 + 1, 0, none⟩) l2.length l2.length, .slice (some ⟨n + 1 + 1 + 1, 0, none⟩) l3.length l3.length, .slice (some ⟨n + 1 + 1 + 1 + 1, 0, none⟩) l4.length l4.length] t' (0, 0)] W
  rw [hU] at hb
  rw [hU] at r
  subst hn
  have m1 : (1 : Nat) ≤ maxLen := by unfold maxLen; omega
  refine ⟨ls_row (t := t') (b := W.heap.size + 5) (r 5 (by simp)) [l0, l1, l2, l3, l4] rfl (by unfold maxLen; simp) (fun i hi => ?_), hb⟩
  match i, hi with
  | 0, _ => exact in_row (r 0 (by simp)) l0 rfl (Nat.le_trans hl.1 m1)
  | 1, _ => exact in_row (r 1 (by simp)) l1 rfl (Nat.le_trans hl.2.1 m1)
  | 2, _ => exact in_row (r 2 (by simp)) l2 rfl (Nat.le_trans hl.2.2.1 m1)
  | 3, _ => exact in_row (r 3 (by simp)) l3 rfl (Nat.le_trans hl.2.2.2.1 m1)
  | 4, _ => exact in_row (r 4 (by simp)) l4 rfl (Nat.le_trans hl.2.2.2.2 m1)
  | k + 5, h => exact absurd h (by simp)
theorem ls_nil (W : World) : LsAt W (.slice none 0 0) [] := ⟨fun _ => .bool false, SlV.nil W _, fun i hi => by simp at hi⟩
/-- The window of the examples. -/
abbrev fr5 : List Bool := [false, false, true, false, true]
theorem eq_mvm (m : Mv) (u : World) : (binOp .eql 36 (mvv m) (mvv m)).run Try.prog u = .ok (.bool true) u := by simp [go_sem]
set_option maxHeartbeats 2000000 in
set_option maxRecDepth 100000 in
theorem c22awake_any (M : TP) (W : World) : Calls Try.prog 9 #[] W fun e w' => e = .returned (.bool true) ∧ Below W.heap.size W w' := by
  have HA1 := fun vf vi u (h1 : BlAt u vf fr5) (h2 : LsAt u vi [[], [7], [8], [], []]) => M.asg fr5 [[], [7], [8], [], []] vf vi u h1 h2 (by decide)
  have HA2 := fun vf vi u (h1 : BlAt u vf fr5) (h2 : LsAt u vi [[], [], [], [], [1]]) => M.asg fr5 [[], [], [], [], [1]] vf vi u h1 h2 (by decide)
  have HA3 := fun vf vi u (h1 : BlAt u vf fr5) (h2 : LsAt u vi []) => M.asg fr5 [] vf vi u h1 h2 (by decide)
  have HT := fun v u (h : MvAt u v [(7, 1, 2), (8, 2, 4)]) => M.tk [(7, 1, 2), (8, 2, 4)] 4 v u h (by decide)
  have HR := fun vf vi u (h1 : BlAt u vf fr5) (h2 : LsAt u vi [[], [7], [], [], []]) => M.rm fr5 [[], [7], [], [], []] vf vi u h1 h2 (by decide)
  rw [show asE fr5 [[], [7], [8], [], []] = 0 by decide, show asM fr5 [[], [7], [8], [], []] = [(7, 1, 2), (8, 2, 4)] by decide] at HA1
  rw [show asE fr5 [[], [], [], [], [1]] = 5 by decide] at HA2
  rw [show asE fr5 [] = 3 by decide] at HA3
  rw [show tkV [(7, 1, 2), (8, 2, 4)] 4 = ((8, 2, 4), true) by decide] at HT
  rw [show roomF fr5 [[], [7], [], [], []] = 1 by decide] at HR
  have hE := eq_mvm (8, 2, 4)
  have H1 := Lib.hid HA1
  have H2 := Lib.hid HA2
  have H3 := Lib.hid HA3
  have H4 := Lib.hid HT
  have H5 := Lib.hid HR
  clear HA1 HA2 HA3 HT HR M
  have B0 := Lib.hid ((Below.refl W.heap.size W).alloc (Nat.le_refl _) (.cells #[.bool false, .bool false, .bool true, .bool false, .bool true] 4))
  have F0 := Lib.hid (bl_row (heap_alloc_new W (.cells #[.bool false, .bool false, .bool true, .bool false, .bool true] 4)) fr5 rfl (by unfold maxLen; decide))
  go_enter Try.func9, Try.ntmps9
  go_wp2_with fail
  have hn0 : (W.alloc (Obj.cells #[.bool false, .bool false, .bool true, .bool false, .bool true] 4)).heap.size = W.heap.size + 1 := by simp
  generalize hU0 : W.alloc (Obj.cells #[.bool false, .bool false, .bool true, .bool false, .bool true] 4) = U0 at *
  clear hU0
  have L1 := ls_five U0 (World.alloc (World.alloc (World.alloc (World.alloc (World.alloc (World.alloc U0 (Obj.cells #[] 3)) (Obj.cells #[.int .i64 7] 3)) (Obj.cells #[.int .i64 8] 3)) (Obj.cells #[] 3)) (Obj.cells #[] 3)) (Obj.cells #[.slice (some ⟨W.heap.size + 1, 0, none⟩) 0 0, .slice (some ⟨W.heap.size + 1 + 1, 0, none⟩) 1 1, .slice (some ⟨W.heap.size + 1 + 1 + 1, 0, none⟩) 1 1, .slice (some ⟨W.heap.size + 1 + 1 + 1 + 1, 0, none⟩) 0 0, .slice (some ⟨W.heap.size + 1 + 1 + 1 + 1 + 1, 0, none⟩) 0 0] 40)) (W.heap.size + 1) (hn0) [] [7] [8] [] [] 3 40 (by simp) rfl
  refine (H1.out _ _ _ (F0.out.on L1.2) L1.1).mono ?_
  rintro e w1 ⟨v1, rfl, hm, hb⟩
  have S1 := Lib.hid (below_on L1.2 hb)
  have M1 := Lib.hid hm.at
  clear hb hm L1
  go_wp2_with fail
  have L1 := ls_five w1 (World.alloc (World.alloc (World.alloc (World.alloc (World.alloc (World.alloc w1 (Obj.cells #[] 3)) (Obj.cells #[] 3)) (Obj.cells #[] 3)) (Obj.cells #[] 3)) (Obj.cells #[.int .i64 1] 3)) (Obj.cells #[.slice (some ⟨w1.heap.size, 0, none⟩) 0 0, .slice (some ⟨w1.heap.size + 1, 0, none⟩) 0 0, .slice (some ⟨w1.heap.size + 1 + 1, 0, none⟩) 0 0, .slice (some ⟨w1.heap.size + 1 + 1 + 1, 0, none⟩) 0 0, .slice (some ⟨w1.heap.size + 1 + 1 + 1 + 1, 0, none⟩) 1 1] 40)) (w1.heap.size) (rfl) [] [] [] [] [1] 3 40 (by simp) rfl
  refine (H2.out _ _ _ (F0.out.on (below_on S1.out L1.2)) L1.1).mono ?_
  rintro e w2 ⟨v2, rfl, _, hb⟩
  have N2 := Lib.hid (below_on L1.2 hb)
  have S2 := Lib.hid (below_on S1.out N2.out)
  have M2 := Lib.hid (M1.out.on N2.out)
  clear hb L1
  go_wp2_with fail
  refine (H3.out _ _ _ (F0.out.on S2.out) (ls_nil _)).mono ?_
  rintro e w3 ⟨v3, rfl, _, hb⟩
  have S3 := Lib.hid (below_on S2.out hb)
  have M3 := Lib.hid (M2.out.on hb)
  clear hb
  go_wp2_with fail
  refine (H4.out _ _ M3.out).mono ?_
  rintro e w4 ⟨rfl, hb⟩
  have S4 := Lib.hid (below_on S3.out hb)
  have M4 := Lib.hid (M3.out.on hb)
  clear hb
  go_wp2_with fail
  have R5 := Lib.hid (heap_alloc_new w4 (Obj.cells #[.int .i64 8, .int .i64 2, .int .i64 4] 36))
  have N5 := Lib.hid ((Below.refl w4.heap.size w4).alloc (Nat.le_refl _) (Obj.cells #[.int .i64 8, .int .i64 2, .int .i64 4] 36))
  generalize hU5 : w4.alloc (Obj.cells #[.int .i64 8, .int .i64 2, .int .i64 4] 36) = U5 at *
  clear hU5
  refine (l22mv_any _ _ _ (by decide) (M4.out.on N5.out)).mono ?_
  rintro e w6 ⟨v6, rfl, hm, hb⟩
  have S6 := Lib.hid (below_on (below_on S4.out N5.out) hb)
  have R6 := Lib.hid (row_on R5.out hb)
  have M6 := Lib.hid hm.at
  clear hb hm
  go_wp2_with fail
  have N7 := Lib.hid ((Below.refl w6.heap.size w6).alloc (Nat.le_refl _) (Obj.cells #[.int .i64 7, .int .i64 1, .int .i64 2, .int .i64 8, .int .i64 2, .int .i64 4] 39))
  have M7 := Lib.hid (mv_row2 (heap_alloc_new w6 (Obj.cells #[.int .i64 7, .int .i64 1, .int .i64 2, .int .i64 8, .int .i64 2, .int .i64 4] 39)))
  refine (r22same_eq _ _ _ _ (by decide) (M6.out.on N7.out) M7.out).mono ?_
  rintro e w8 ⟨rfl, hb⟩
  have S8 := Lib.hid (below_on S6.out (below_on N7.out hb))
  have R8 := Lib.hid (row_on R6.out (below_on N7.out hb))
  clear hb
  obtain ⟨c0, c1, c2, g0, g1, g2, rz⟩ := row3 R8.out
  go_wp2_with fail
  have L1 := ls_five w8 (World.alloc (World.alloc (World.alloc (World.alloc (World.alloc (World.alloc w8 (Obj.cells #[] 3)) (Obj.cells #[.int .i64 7] 3)) (Obj.cells #[] 3)) (Obj.cells #[] 3)) (Obj.cells #[] 3)) (Obj.cells #[.slice (some ⟨w8.heap.size, 0, none⟩) 0 0, .slice (some ⟨w8.heap.size + 1, 0, none⟩) 1 1, .slice (some ⟨w8.heap.size + 1 + 1, 0, none⟩) 0 0, .slice (some ⟨w8.heap.size + 1 + 1 + 1, 0, none⟩) 0 0, .slice (some ⟨w8.heap.size + 1 + 1 + 1 + 1, 0, none⟩) 0 0] 40)) (w8.heap.size) (rfl) [] [7] [] [] [] 3 40 (by simp) rfl
  refine (H5.out _ _ _ (F0.out.on (below_on S8.out L1.2)) L1.1).mono ?_
  rintro e w9 ⟨rfl, hb⟩
  have S9 := Lib.hid (below_on S8.out (below_on L1.2 hb))
  clear hb L1
  go_wp2_with fail
  go_ret
  exact ⟨rfl, below_on B0.out S9.out⟩
end Go.Proofs.Ytaifhikhdcnacaa
