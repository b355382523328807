/- The reference of package cattext: Parse. -/
import Derived.Test.YthmfhgehahpgbaaGreatDoorYn
namespace Go.Proofs.YthmfhgehahpgbaaGreatDoor
open Go.RowKit

theorem msW_st {S : ByteArray} {b k : Nat} {bb : Bool} {w : World} (h : w.heap[b]? = some (.cells #[.string S, .int .i64 k, .bool bb] 52 (0, 0))) : msW S b w = msr S ⟨k, bb⟩ := by
  have c1 : w.cell? ⟨b, 1, none⟩ = some (.int .i64 k) := by rw [cell_of_row _ b 1 _ _ _ h]; rfl
  have c2 : w.cell? ⟨b, 2, none⟩ = some (.bool bb) := by rw [cell_of_row _ b 2 _ _ _ h]; rfl
  unfold msW msr
  rw [c1, c2]
  cases bb <;> rfl
theorem msr_lt {S : ByteArray} {k k' : Nat} {b' : Bool} (h1 : k ≤ k') (h2 : k' ≤ S.size) (h : b' = true ∨ k < k') : msr S ⟨k', b'⟩ < msr S ⟨k, false⟩ := by
  unfold msr
  rcases h with rfl | h
  · show S.size - k' + 0 < S.size - k + 1
    omega
  · have : (if (Sc.mk k' b').b = true then 0 else 1) ≤ 1 := by split <;> omega
    show S.size - k' + (if (Sc.mk k' b').b = true then 0 else 1) < S.size - k + 1
    omega
theorem yW_hit {S : ByteArray} {ws : List ByteArray} (hw : Wok ws) {k k1 : Nat} {b1 : Bool} {i : Int} (h : yW ws S ⟨k, false⟩ = (i, ⟨k1, b1⟩)) (hi : 0 ≤ i) : b1 = false ∧ k < k1 := by
  have e : (wdI S k ws, (⟨wdK S k ws, false || wdB S k ws⟩ : Sc)) = (i, ⟨k1, b1⟩) := h
  unfold wdI wdK wdB at e
  cases q : wdF S k ws with
  | none =>
    rw [q] at e
    injection e with e _
    have e : (-1 : Int) = i := e
    omega
  | some n =>
    rw [q] at e
    injection e with _ e
    injection e with e1 e2
    have := hw.1 n (wdF_some q).1
    have e1 : k + (ws.getD n ByteArray.empty).size = k1 := e1
    exact ⟨e2.symm, by omega⟩
theorem yW_miss {S : ByteArray} {ws : List ByteArray} {k k1 : Nat} {b1 : Bool} (h : yW ws S ⟨k, false⟩ = (-1, ⟨k1, b1⟩)) : b1 = true ∧ k ≤ k1 := by
  have e : (wdI S k ws, (⟨wdK S k ws, false || wdB S k ws⟩ : Sc)) = (-1, ⟨k1, b1⟩) := h
  unfold wdI wdK wdB at e
  cases q : wdF S k ws with
  | none =>
    rw [q] at e
    injection e with _ e
    injection e with e1 e2
    have e1 : k + mxW S k ws = k1 := e1
    exact ⟨e2.symm, by omega⟩
  | some n =>
    rw [q] at e
    injection e with e _
    have e : (n : Int) = -1 := e
    omega
theorem rGo_go {S : ByteArray} {n k k1 : Nat} {t b1 : Bool} {ls lf : List Itm} {i : Int} (e : yW (lBt t) S ⟨k, false⟩ = (i, ⟨k1, b1⟩)) :
    rGo (n + 1) t ls lf S ⟨k, false⟩ = (if i = 0 then ((ls, lf), (zE S ⟨k1, b1⟩).2) else if i = 1 then rGo n false ls (lf ++ [(rFea S ⟨k1, b1⟩).1]) S (rFea S ⟨k1, b1⟩).2 else if i = 2 then rGo n t (ls ++ [(rSea S ⟨k1, b1⟩).1]) lf S (rSea S ⟨k1, b1⟩).2 else rGo n t ls lf S ⟨k1, b1⟩) := by
  have h : rGo (n + 1) t ls lf S ⟨k, false⟩ = (if (yW (lBt t) S ⟨k, false⟩).1 = 0 then ((ls, lf), (zE S (yW (lBt t) S ⟨k, false⟩).2).2) else if (yW (lBt t) S ⟨k, false⟩).1 = 1 then rGo n false ls (lf ++ [(rFea S (yW (lBt t) S ⟨k, false⟩).2).1]) S (rFea S (yW (lBt t) S ⟨k, false⟩).2).2 else if (yW (lBt t) S ⟨k, false⟩).1 = 2 then rGo n t (ls ++ [(rSea S (yW (lBt t) S ⟨k, false⟩).2).1]) lf S (rSea S (yW (lBt t) S ⟨k, false⟩).2).2 else rGo n t ls lf S (yW (lBt t) S ⟨k, false⟩).2) := rfl
  rw [h, e]
theorem yW_range {S : ByteArray} {ws : List ByteArray} {k : Nat} {p : Int × Sc} (h : yW ws S ⟨k, false⟩ = p) : p.1 = -1 ∨ (0 ≤ p.1 ∧ p.1 < ws.length) := by
  subst h
  show wdI S k ws = -1 ∨ (0 ≤ wdI S k ws ∧ wdI S k ws < ws.length)
  unfold wdI
  cases e : wdF S k ws with
  | none => exact .inl rfl
  | some i => exact .inr ⟨by show (0 : Int) ≤ i; omega, by have := (wdF_some e).1; show (i : Int) < ws.length; omega⟩
def lRow (t : Bool) : Obj := if t then .cells #[.string wEnd, .string wFe5, .string wSe5] 9 else .cells #[.string wEnd, .string wFe5] 9
theorem lrow_in {u : World} {g : Nat} {t : Bool} (h : u.heap[g]? = some (lRow t)) : StrsIn g (lBt t).length (lBt t) u := by
  have hl := row_lt h
  cases t
  · refine ⟨hl, Nat.le_refl _, by decide, fun i hi => ?_⟩
    have hi : i < 2 := hi
    have h : u.heap[g]? = some (.cells #[.string wEnd, .string wFe5] 9 (0, 0)) := h
    have e : i = 0 ∨ i = 1 := by omega
    rcases e with rfl | rfl
    · rw [cell_of_row _ _ 0 _ _ _ h]; rfl
    · rw [cell_of_row _ _ 1 _ _ _ h]; rfl
  · refine ⟨hl, Nat.le_refl _, by decide, fun i hi => ?_⟩
    have hi : i < 3 := hi
    have h : u.heap[g]? = some (.cells #[.string wEnd, .string wFe5, .string wSe5] 9 (0, 0)) := h
    have e : i = 0 ∨ i = 1 ∨ i = 2 := by omega
    rcases e with rfl | rfl | rfl
    · rw [cell_of_row _ _ 0 _ _ _ h]; rfl
    · rw [cell_of_row _ _ 1 _ _ _ h]; rfl
    · rw [cell_of_row _ _ 2 _ _ _ h]; rfl
theorem lrow_grown {u wz : World} {g B : Nat} {t : Bool} {T : TypeId} {v : Value} {xs : List Itm} (h : u.heap[g]? = some (lRow t)) (ho : ItsAt T B v xs u) (hT : 9 ≠ T) (hg : u.grownBy wz v.ownBlock) : wz.heap[g]? = some (lRow t) := by
  rw [hg.block g (row_lt h) ?_]
  · exact h
  · cases t
    · exact own_ne ho (show u.heap[g]? = some (.cells #[.string wEnd, .string wFe5] 9 (0, 0)) from h) hT
    · exact own_ne ho (show u.heap[g]? = some (.cells #[.string wEnd, .string wFe5, .string wSe5] 9 (0, 0)) from h) hT
set_option maxRecDepth 100000 in
set_option maxHeartbeats 8000000 in
theorem r26par_go {S : ByteArray} {w : World} {N k1 k2 k3 : Nat} {b1 b2 b3 : Bool} {j j3 free : Int} {M : (List Itm × List Itm) × Sc} (H1 : ∀ u : World, Calls Tryz.prog 20 #[sv S 0 false, .slice (some ⟨u.heap.size, 0, none⟩) 1 1] (u.alloc (.cells #[.string ⟨#[99, 97, 116, 97, 108, 111, 103, 117, 101, 10, 102, 114, 101, 101]⟩] 9)) fun r w' => r = .returned (.tuple #[sv S k1 b1, .int .i64 j]) ∧ Below u.heap.size u w') (H2 : ∀ u : World, Calls Tryz.prog 21 #[sv S k1 b1] u fun r w' => r = .returned (.tuple #[sv S k2 b2, .int .i64 free]) ∧ Below u.heap.size u w') (H3 : ∀ u : World, Calls Tryz.prog 20 #[sv S k2 b2, .slice (some ⟨u.heap.size, 0, none⟩) 1 1] (u.alloc (.cells #[.string ⟨#[10]⟩] 9)) fun r w' => r = .returned (.tuple #[sv S k3 b3, .int .i64 j3]) ∧ Below u.heap.size u w') (HW : ∀ (u : World) (k : Nat) (t : Bool) (g cap : Nat), StrsIn g cap (lBt t) u → k ≤ S.size → Calls Tryz.prog 20 #[sv S k false, .slice (some ⟨g, 0, none⟩) (lBt t).length cap] u fun e w' => e = .returned (.tuple #[svX S (yW (lBt t) S ⟨k, false⟩).2, .int .i64 (yW (lBt t) S ⟨k, false⟩).1]) ∧ Below u.heap.size u w') (HE : ∀ (u : World) (k : Nat) (bb : Bool), Calls Tryz.prog 22 #[sv S k bb] u fun e w' => e = .returned (svX S (zE S ⟨k, bb⟩).2) ∧ Below u.heap.size u w') (HI : ∀ (u : World) (y : Sc), y.k ≤ S.size → Calls Tryz.prog 23 #[svX S y] u fun r w' => r = .returned (.tuple #[svX S (rId S y).2, .string (rId S y).1]) ∧ Below u.heap.size u w') (HN : ∀ (u : World) (y : Sc), y.k ≤ S.size → Calls Tryz.prog 21 #[svX S y] u fun r w' => r = .returned (.tuple #[svX S (rNu S y).2, .int .i64 (rNu S y).1]) ∧ Below u.heap.size u w') (HP : ∀ (u : World) (y : Sc), y.k ≤ S.size → Calls Tryz.prog 24 #[svX S y, .slice (some ⟨u.heap.size, 0, none⟩) 3 3] (u.alloc (.cells #[.string ⟨#[116, 114, 97, 110, 115, 102, 101, 114]⟩, .string ⟨#[99, 111, 109, 109, 101, 109, 111, 114, 97, 116, 101]⟩, .string ⟨#[111, 109, 105, 116]⟩] 9)) fun r w' => r = .returned (.tuple #[svX S (rCh lPo S y).2, .int .i64 (rCh lPo S y).1]) ∧ Below u.heap.size u w') (HA : ∀ (u : World) (y : Sc), y.k ≤ S.size → Calls Tryz.prog 25 #[svX S y] u fun r w' => r = .returned (.tuple #[svX S (rAn S y).2, anc26 (rAn S y).1]) ∧ Below u.heap.size u w') (hN : N ≤ 1000000) (hk3 : k3 ≤ S.size) (hf : msr S ⟨k3, b3⟩ < N) (hM : rGo N true [] [] S ⟨k3, b3⟩ = M) :
    Calls Tryz.prog 10 #[.string S] w fun r w' => (M.2.b = true → r = .returned (.tuple #[.agg #[.int .i64 0, .slice none 0 0, .slice none 0 0], .int .i64 M.2.k, .bool false]) ∧ Below w.heap.size w w') ∧ (M.2.b = false → ∃ vS vF, r = .returned (.tuple #[.agg #[.int .i64 free, vS, vF], .int .i64 0, .bool true]) ∧ SlAt w' vS M.1.1 ∧ SlAt w' vF M.1.2 ∧ Below w.heap.size w w') := by
  have H1 := Lib.hid H1
  have H2 := Lib.hid H2
  have H3 := Lib.hid H3
  have HW := Lib.hid HW
  have HE := Lib.hid HE
  have HI := Lib.hid HI
  have HN := Lib.hid HN
  have HP := Lib.hid HP
  have HA := Lib.hid HA
  have hM := Lib.hid hM
  have hf := Lib.hid hf
  have hk3 := Lib.hid hk3
  obtain ⟨iS, hiS, hS0, hS1, hS2⟩ := info_parts infoSea
  obtain ⟨iF, hiF, hF0, hF1, hF2⟩ := info_parts infoFea
  go_enter Tryz.func10, Tryz.ntmps10
  go_wp2_with fail
  obtain ⟨u, hu⟩ : ∃ u, u = ((w.alloc (.cells #[.int .i64 0, .slice none 0 0, .slice none 0 0] 26)).alloc (.cells #[.int .i64 0, .slice none 0 0, .slice none 0 0] 26)) := ⟨_, rfl⟩
  have hb : Below w.heap.size w u := hu ▸ al2 w _ _
  have rR : u.heap[w.heap.size]? = some (.cells #[.int .i64 0, .slice none 0 0, .slice none 0 0] 26 (0, 0)) := hu ▸ row_on (heap_alloc_new _ _) (al1 _ _)
  have rC : u.heap[w.heap.size + 1]? = some (.cells #[.int .i64 0, .slice none 0 0, .slice none 0 0] 26 (0, 0)) := hu ▸ row_new1 _ _ _
  have hz : w.heap.size + 1 + 1 = u.heap.size := by rw [hu]; simp
  rw [← hu]
  clear hu
  generalize hR : w.heap.size = R at *
  generalize hC : R + 1 = C at *
  rw [hz]
  clear hz
  refine (H1.out (u)).mono ?_
  rintro e1 w1 ⟨rfl, g1⟩
  have rR_1 := row_kept rR g1
  have rC_1 := row_kept rC g1
  have hb1 : Below R w w1 := hb.trans (g1.mono (by first | exact hb.size | (have := hb.size; omega)))
  have aR1 := row_kept rR_1 (al1 (w1) (.cells #[.string S, .int .i64 k1, .bool b1] 52))
  have aC1 := row_kept rC_1 (al1 (w1) (.cells #[.string S, .int .i64 k1, .bool b1] 52))
  have aX1 : (w1.alloc (.cells #[.string S, .int .i64 k1, .bool b1] 52)).heap[(w1).heap.size]? = some (.cells #[.string S, .int .i64 k1, .bool b1] 52 (0, 0)) := heap_alloc_new _ _
  have hba1 : Below R w (w1.alloc (.cells #[.string S, .int .i64 k1, .bool b1] 52)) := hb1.alloc (by have := hb1.size; omega) _
  go_wp2_with fail
  have lX := row_lt rC_1
  obtain ⟨v0, hv0⟩ : ∃ v, v = (w1.alloc (.cells #[.string S, .int .i64 k1, .bool b1] 52)) := ⟨_, rfl⟩
  rw [← hv0] at aR1 aC1 aX1 hba1 ⊢
  clear hv0
  generalize hX : w1.heap.size = X at *
  have lR : R < C := by omega
  have lC : C < X := lX
  clear hC lX
  refine (H2.out (v0)).mono ?_
  rintro e2 w2 ⟨rfl, g2⟩
  have rR_2 := row_kept aR1 g2
  have rC_2 := row_kept aC1 g2
  have rX_2 := row_kept aX1 g2
  have hb2 : Below R w w2 := hba1.trans (g2.mono (by first | exact hba1.size | (have := hba1.size; omega)))
  have cX0_2 : w2.cell? ⟨X, 0, none⟩ = some (.string S) := by rw [cell_of_row _ X 0 _ _ _ rX_2]; rfl
  have fX0_2 : w2.frozen? ⟨X, 0, none⟩ = false := frozen_of_row _ X 0 _ _ rX_2
  have cX1_2 : w2.cell? ⟨X, 1, none⟩ = some (.int .i64 k1) := by rw [cell_of_row _ X 1 _ _ _ rX_2]; rfl
  have fX1_2 : w2.frozen? ⟨X, 1, none⟩ = false := frozen_of_row _ X 1 _ _ rX_2
  have cX2_2 : w2.cell? ⟨X, 2, none⟩ = some (.bool b1) := by rw [cell_of_row _ X 2 _ _ _ rX_2]; rfl
  have fX2_2 : w2.frozen? ⟨X, 2, none⟩ = false := frozen_of_row _ X 2 _ _ rX_2
  have cC0_2 : w2.cell? ⟨C, 0, none⟩ = some (.int .i64 0) := by rw [cell_of_row _ C 0 _ _ _ rC_2]; rfl
  have fC0_2 : w2.frozen? ⟨C, 0, none⟩ = false := frozen_of_row _ C 0 _ _ rC_2
  have t2 : Bt X w2 (((w2.setCell ⟨X, 0, none⟩ (.string S)).setCell ⟨X, 1, none⟩ (.int .i64 k2)).setCell ⟨X, 2, none⟩ (.bool b2)) := Bt.sets X [(.string S), (.int .i64 k2), (.bool b2)] 0 w2
  have pX2 : (((w2.setCell ⟨X, 0, none⟩ (.string S)).setCell ⟨X, 1, none⟩ (.int .i64 k2)).setCell ⟨X, 2, none⟩ (.bool b2)).heap[X]? = some (.cells #[.string S, .int .i64 k2, .bool b2] 52 (0, 0)) := cat_all (.string S) (.int .i64 k2) (.bool b2) rX_2
  have pR2 := t2.row (show R ≠ X by omega) rR_2
  have pC2 := t2.row (show C ≠ X by omega) rC_2
  have hbp2 : Below R w (((w2.setCell ⟨X, 0, none⟩ (.string S)).setCell ⟨X, 1, none⟩ (.int .i64 k2)).setCell ⟨X, 2, none⟩ (.bool b2)) := hb2.trans (t2.below (show R ≤ X by omega) (by have := hb2.size; omega))
  have cX0_3 : (((w2.setCell ⟨X, 0, none⟩ (.string S)).setCell ⟨X, 1, none⟩ (.int .i64 k2)).setCell ⟨X, 2, none⟩ (.bool b2)).cell? ⟨X, 0, none⟩ = some (.string S) := by rw [cell_of_row _ X 0 _ _ _ pX2]; rfl
  have fX0_3 : (((w2.setCell ⟨X, 0, none⟩ (.string S)).setCell ⟨X, 1, none⟩ (.int .i64 k2)).setCell ⟨X, 2, none⟩ (.bool b2)).frozen? ⟨X, 0, none⟩ = false := frozen_of_row _ X 0 _ _ pX2
  have cX1_3 : (((w2.setCell ⟨X, 0, none⟩ (.string S)).setCell ⟨X, 1, none⟩ (.int .i64 k2)).setCell ⟨X, 2, none⟩ (.bool b2)).cell? ⟨X, 1, none⟩ = some (.int .i64 k2) := by rw [cell_of_row _ X 1 _ _ _ pX2]; rfl
  have fX1_3 : (((w2.setCell ⟨X, 0, none⟩ (.string S)).setCell ⟨X, 1, none⟩ (.int .i64 k2)).setCell ⟨X, 2, none⟩ (.bool b2)).frozen? ⟨X, 1, none⟩ = false := frozen_of_row _ X 1 _ _ pX2
  have cX2_3 : (((w2.setCell ⟨X, 0, none⟩ (.string S)).setCell ⟨X, 1, none⟩ (.int .i64 k2)).setCell ⟨X, 2, none⟩ (.bool b2)).cell? ⟨X, 2, none⟩ = some (.bool b2) := by rw [cell_of_row _ X 2 _ _ _ pX2]; rfl
  have fX2_3 : (((w2.setCell ⟨X, 0, none⟩ (.string S)).setCell ⟨X, 1, none⟩ (.int .i64 k2)).setCell ⟨X, 2, none⟩ (.bool b2)).frozen? ⟨X, 2, none⟩ = false := frozen_of_row _ X 2 _ _ pX2
  have cC0_3 : (((w2.setCell ⟨X, 0, none⟩ (.string S)).setCell ⟨X, 1, none⟩ (.int .i64 k2)).setCell ⟨X, 2, none⟩ (.bool b2)).cell? ⟨C, 0, none⟩ = some (.int .i64 0) := by rw [cell_of_row _ C 0 _ _ _ pC2]; rfl
  have fC0_3 : (((w2.setCell ⟨X, 0, none⟩ (.string S)).setCell ⟨X, 1, none⟩ (.int .i64 k2)).setCell ⟨X, 2, none⟩ (.bool b2)).frozen? ⟨C, 0, none⟩ = false := frozen_of_row _ C 0 _ _ pC2
  have t3 : Bt C (((w2.setCell ⟨X, 0, none⟩ (.string S)).setCell ⟨X, 1, none⟩ (.int .i64 k2)).setCell ⟨X, 2, none⟩ (.bool b2)) ((((w2.setCell ⟨X, 0, none⟩ (.string S)).setCell ⟨X, 1, none⟩ (.int .i64 k2)).setCell ⟨X, 2, none⟩ (.bool b2)).setCell ⟨C, 0, none⟩ (.int .i64 free)) := Bt.sets C [(.int .i64 free)] 0 (((w2.setCell ⟨X, 0, none⟩ (.string S)).setCell ⟨X, 1, none⟩ (.int .i64 k2)).setCell ⟨X, 2, none⟩ (.bool b2))
  have pC3 : ((((w2.setCell ⟨X, 0, none⟩ (.string S)).setCell ⟨X, 1, none⟩ (.int .i64 k2)).setCell ⟨X, 2, none⟩ (.bool b2)).setCell ⟨C, 0, none⟩ (.int .i64 free)).heap[C]? = some (.cells #[.int .i64 free, .slice none 0 0, .slice none 0 0] 26 (0, 0)) := heap_setCell_same _ C 0 _ _ _ pC2
  have pR3 := t3.row (show R ≠ C by omega) pR2
  have pX3 := t3.row (show X ≠ C by omega) pX2
  have hbp3 : Below R w ((((w2.setCell ⟨X, 0, none⟩ (.string S)).setCell ⟨X, 1, none⟩ (.int .i64 k2)).setCell ⟨X, 2, none⟩ (.bool b2)).setCell ⟨C, 0, none⟩ (.int .i64 free)) := hbp2.trans (t3.below (show R ≤ C by omega) (by have := hbp2.size; omega))
  have cX0_4 : ((((w2.setCell ⟨X, 0, none⟩ (.string S)).setCell ⟨X, 1, none⟩ (.int .i64 k2)).setCell ⟨X, 2, none⟩ (.bool b2)).setCell ⟨C, 0, none⟩ (.int .i64 free)).cell? ⟨X, 0, none⟩ = some (.string S) := by rw [cell_of_row _ X 0 _ _ _ pX3]; rfl
  have fX0_4 : ((((w2.setCell ⟨X, 0, none⟩ (.string S)).setCell ⟨X, 1, none⟩ (.int .i64 k2)).setCell ⟨X, 2, none⟩ (.bool b2)).setCell ⟨C, 0, none⟩ (.int .i64 free)).frozen? ⟨X, 0, none⟩ = false := frozen_of_row _ X 0 _ _ pX3
  have cX1_4 : ((((w2.setCell ⟨X, 0, none⟩ (.string S)).setCell ⟨X, 1, none⟩ (.int .i64 k2)).setCell ⟨X, 2, none⟩ (.bool b2)).setCell ⟨C, 0, none⟩ (.int .i64 free)).cell? ⟨X, 1, none⟩ = some (.int .i64 k2) := by rw [cell_of_row _ X 1 _ _ _ pX3]; rfl
  have fX1_4 : ((((w2.setCell ⟨X, 0, none⟩ (.string S)).setCell ⟨X, 1, none⟩ (.int .i64 k2)).setCell ⟨X, 2, none⟩ (.bool b2)).setCell ⟨C, 0, none⟩ (.int .i64 free)).frozen? ⟨X, 1, none⟩ = false := frozen_of_row _ X 1 _ _ pX3
  have cX2_4 : ((((w2.setCell ⟨X, 0, none⟩ (.string S)).setCell ⟨X, 1, none⟩ (.int .i64 k2)).setCell ⟨X, 2, none⟩ (.bool b2)).setCell ⟨C, 0, none⟩ (.int .i64 free)).cell? ⟨X, 2, none⟩ = some (.bool b2) := by rw [cell_of_row _ X 2 _ _ _ pX3]; rfl
  have fX2_4 : ((((w2.setCell ⟨X, 0, none⟩ (.string S)).setCell ⟨X, 1, none⟩ (.int .i64 k2)).setCell ⟨X, 2, none⟩ (.bool b2)).setCell ⟨C, 0, none⟩ (.int .i64 free)).frozen? ⟨X, 2, none⟩ = false := frozen_of_row _ X 2 _ _ pX3
  go_wp2_with fail
  clear cX0_2 fX0_2 cX1_2 fX1_2 cX2_2 fX2_2 cC0_2 fC0_2 cX0_3 fX0_3 cX1_3 fX1_3 cX2_3 fX2_3 cC0_3 fC0_3 cX0_4 fX0_4 cX1_4 fX1_4 cX2_4 fX2_4
  obtain ⟨v4, hv4⟩ : ∃ v, v = ((((w2.setCell ⟨X, 0, none⟩ (.string S)).setCell ⟨X, 1, none⟩ (.int .i64 k2)).setCell ⟨X, 2, none⟩ (.bool b2)).setCell ⟨C, 0, none⟩ (.int .i64 free)) := ⟨_, rfl⟩
  have hz4 : w2.heap.size = v4.heap.size := by rw [hv4]; simp
  rw [← hv4, hz4]
  rw [← hv4] at pR3 pC3 pX3 hbp3
  clear hz4 hv4
  refine (H3.out (v4)).mono ?_
  rintro e5 w5 ⟨rfl, g5⟩
  have rR_5 := row_kept pR3 g5
  have rC_5 := row_kept pC3 g5
  have rX_5 := row_kept pX3 g5
  have hb5 : Below R w w5 := hbp3.trans (g5.mono (by first | exact hbp3.size | (have := hbp3.size; omega)))
  have cX0_5 : w5.cell? ⟨X, 0, none⟩ = some (.string S) := by rw [cell_of_row _ X 0 _ _ _ rX_5]; rfl
  have fX0_5 : w5.frozen? ⟨X, 0, none⟩ = false := frozen_of_row _ X 0 _ _ rX_5
  have cX1_5 : w5.cell? ⟨X, 1, none⟩ = some (.int .i64 k2) := by rw [cell_of_row _ X 1 _ _ _ rX_5]; rfl
  have fX1_5 : w5.frozen? ⟨X, 1, none⟩ = false := frozen_of_row _ X 1 _ _ rX_5
  have cX2_5 : w5.cell? ⟨X, 2, none⟩ = some (.bool b2) := by rw [cell_of_row _ X 2 _ _ _ rX_5]; rfl
  have fX2_5 : w5.frozen? ⟨X, 2, none⟩ = false := frozen_of_row _ X 2 _ _ rX_5
  have t5 : Bt X w5 (((w5.setCell ⟨X, 0, none⟩ (.string S)).setCell ⟨X, 1, none⟩ (.int .i64 k3)).setCell ⟨X, 2, none⟩ (.bool b3)) := Bt.sets X [(.string S), (.int .i64 k3), (.bool b3)] 0 w5
  have pX5 : (((w5.setCell ⟨X, 0, none⟩ (.string S)).setCell ⟨X, 1, none⟩ (.int .i64 k3)).setCell ⟨X, 2, none⟩ (.bool b3)).heap[X]? = some (.cells #[.string S, .int .i64 k3, .bool b3] 52 (0, 0)) := cat_all (.string S) (.int .i64 k3) (.bool b3) rX_5
  have pR5 := t5.row (show R ≠ X by omega) rR_5
  have pC5 := t5.row (show C ≠ X by omega) rC_5
  have hbp5 : Below R w (((w5.setCell ⟨X, 0, none⟩ (.string S)).setCell ⟨X, 1, none⟩ (.int .i64 k3)).setCell ⟨X, 2, none⟩ (.bool b3)) := hb5.trans (t5.below (show R ≤ X by omega) (by have := hb5.size; omega))
  go_wp2_with fail
  clear cX0_5 fX0_5 cX1_5 fX1_5 cX2_5 fX2_5
  obtain ⟨v1, hv1⟩ : ∃ v, v = (((w5.setCell ⟨X, 0, none⟩ (.string S)).setCell ⟨X, 1, none⟩ (.int .i64 k3)).setCell ⟨X, 2, none⟩ (.bool b3)) := ⟨_, rfl⟩
  have hz1 : w5.heap.size = v1.heap.size := by rw [hv1]; simp
  rw [← hv1, hz1]
  rw [← hv1] at pR5 pC5 pX5 hbp5
  clear hz1 hv1
  have C0 : CR S R C X w free (.slice none 0 0) (.slice none 0 0) [] [] ⟨k3, b3⟩ v1 := ⟨pR5, pC5, pX5, (by rw [hR]; exact hbp5), row_lt pX5, ItsAt.emp _ _ _, ItsAt.emp _ _ _⟩
  have C1 := C0.below (al1 v1 (.cells #[.string ⟨#[101, 110, 100, 10]⟩, .string ⟨#[102, 101, 97, 115, 116]⟩, .string ⟨#[115, 101, 97, 115, 111, 110]⟩] 9))
  have I1 : (v1.alloc (.cells #[.string ⟨#[101, 110, 100, 10]⟩, .string ⟨#[102, 101, 97, 115, 116]⟩, .string ⟨#[115, 101, 97, 115, 111, 110]⟩] 9)).heap[v1.heap.size]? = some (lRow true) := heap_alloc_new _ _
  have G1 : X + 1 ≤ v1.heap.size := C0.z
  clear C0
  go_loopw [8] (fun v8 wr => ∃ (t : Bool) (g : Nat) (y : Sc) (vS vF : Value) (ls lf : List Itm) (n : Nat), v8 = .slice (some ⟨g, 0, none⟩) (lBt t).length (lBt t).length ∧ Hid (CR S R C X w free vS vF ls lf y wr ∧ wr.heap[g]? = some (lRow t) ∧ X + 1 ≤ g ∧ y.k ≤ S.size ∧ msr S y < n ∧ ls.length + lf.length + n ≤ N ∧ rGo n t ls lf S y = M)) (fun _ wr => msW S X wr)
  case atStart => exact ⟨true, v1.heap.size, ⟨k3, b3⟩, _, _, [], [], N, rfl, Lib.hid ⟨C1, I1, G1, hk3.out, hf.out, by simp, hM.out⟩⟩
  case round =>
    clear C1 I1 G1
    obtain ⟨t, g, ⟨yk, yb⟩, vS, vF, ls, lf, n, rfl, HR⟩ := hrel
    have hC := HR.out.1
    obtain ⟨n, rfl⟩ : ∃ m, n = m + 1 := ⟨n - 1, by have := HR.out.2.2.2.2.1; omega⟩
    cases yb
    · skip
      have hst := HW.out wr yk t g (lBt t).length (lrow_in HR.out.2.1) HR.out.2.2.2.1
      have hstep : ∀ i k1 b1, yW (lBt t) S ⟨yk, false⟩ = (i, ⟨k1, b1⟩) → (if i = 0 then ((ls, lf), (zE S ⟨k1, b1⟩).2) else if i = 1 then rGo n false ls (lf ++ [(rFea S ⟨k1, b1⟩).1]) S (rFea S ⟨k1, b1⟩).2 else if i = 2 then rGo n t (ls ++ [(rSea S ⟨k1, b1⟩).1]) lf S (rSea S ⟨k1, b1⟩).2 else rGo n t ls lf S ⟨k1, b1⟩) = M := fun i k1 b1 e => by
        rw [← HR.out.2.2.2.2.2.2]; exact (rGo_go e).symm
      have hmiss : ∀ k1 b1, yW (lBt t) S ⟨yk, false⟩ = (-1, ⟨k1, b1⟩) → b1 = true ∧ yk ≤ k1 := fun k1 b1 e => yW_miss e
      have hhit : ∀ i k1 b1, yW (lBt t) S ⟨yk, false⟩ = (i, ⟨k1, b1⟩) → 0 ≤ i → b1 = false ∧ yk < k1 := fun i k1 b1 e hi => yW_hit (wds_lB t).ok e hi
      have hle := ((gd_W (lBt t)).le S ⟨yk, false⟩ HR.out.2.2.2.1).2
      have hlen : (lBt t).length ≤ 3 := by cases t <;> decide
      have hrng := yW_range (S := S) (ws := lBt t) (k := yk) rfl
      generalize hyw : yW (lBt t) S ⟨yk, false⟩ = pw at *
      obtain ⟨i, ⟨k4, b4⟩⟩ := pw
      replace hstep := hstep i k4 b4 rfl
      replace hmiss := fun e : i = -1 => hmiss k4 b4 (by rw [e])
      replace hhit := hhit i k4 b4 rfl
      have hi : i = -1 ∨ i = 0 ∨ i = 1 ∨ i = 2 := by
        rcases hrng with e | ⟨e1, e2⟩
        · exact .inl e
        · have e1 : 0 ≤ i := e1
          have e2 : i < (lBt t).length := e2
          omega
      have hle : k4 ≤ S.size := hle
      have hbl : Below R w wr := by have := hC.bl; rwa [hR] at this
      clear hrng hlen hyw
      rcases hi with rfl | rfl | rfl | rfl
      · skip
        obtain ⟨rfl, hlt⟩ := hmiss rfl
        replace hst := Lib.hid (show Calls Tryz.prog 20 #[sv S yk false, .slice (some ⟨g, 0, none⟩) (lBt t).length (lBt t).length] wr fun e w' => e = .returned (.tuple #[sv S k4 true, .int .i64 (-1)]) ∧ Below wr.heap.size wr w' from hst)
        have hM2 := Lib.hid (show rGo n t ls lf S ⟨k4, true⟩ = M from hstep)
        have hms := Lib.hid (msr_lt (S := S) (k := yk) (b' := true) hlt hle (.inl rfl))
        clear hstep hhit hmiss hlt
        have hx0 := Bt.refl X wr
        have cX0_0 : wr.cell? ⟨X, 0, none⟩ = some (.string S) := by rw [cell_of_row _ X 0 _ _ _ hC.x]; rfl
        have fX0_0 : wr.frozen? ⟨X, 0, none⟩ = false := frozen_of_row _ X 0 _ _ hC.x
        have cX1_0 : wr.cell? ⟨X, 1, none⟩ = some (.int .i64 yk) := by rw [cell_of_row _ X 1 _ _ _ hC.x]; rfl
        have fX1_0 : wr.frozen? ⟨X, 1, none⟩ = false := frozen_of_row _ X 1 _ _ hC.x
        have cX2_0 : wr.cell? ⟨X, 2, none⟩ = some (.bool false) := by rw [cell_of_row _ X 2 _ _ _ hC.x]; rfl
        have fX2_0 : wr.frozen? ⟨X, 2, none⟩ = false := frozen_of_row _ X 2 _ _ hC.x
        go_wp2_with fail
        refine hst.out.mono ?_
        clear cX0_0 fX0_0 cX1_0 fX1_0 cX2_0 fX2_0
        rintro e1 w1 ⟨rfl, g1⟩
        have rR_1 := row_kept hC.r g1
        have rC_1 := row_kept hC.c g1
        have rX_1 := row_kept hC.x g1
        have hb1 : Below R w w1 := hbl.trans (g1.mono (by first | exact hbl.size | (have := hbl.size; omega)))
        have hx1 := hx0.trans (Bt.of_below g1)
        have cX0_1 : w1.cell? ⟨X, 0, none⟩ = some (.string S) := by rw [cell_of_row _ X 0 _ _ _ rX_1]; rfl
        have fX0_1 : w1.frozen? ⟨X, 0, none⟩ = false := frozen_of_row _ X 0 _ _ rX_1
        have cX1_1 : w1.cell? ⟨X, 1, none⟩ = some (.int .i64 yk) := by rw [cell_of_row _ X 1 _ _ _ rX_1]; rfl
        have fX1_1 : w1.frozen? ⟨X, 1, none⟩ = false := frozen_of_row _ X 1 _ _ rX_1
        have cX2_1 : w1.cell? ⟨X, 2, none⟩ = some (.bool false) := by rw [cell_of_row _ X 2 _ _ _ rX_1]; rfl
        have fX2_1 : w1.frozen? ⟨X, 2, none⟩ = false := frozen_of_row _ X 2 _ _ rX_1
        have t1 : Bt X w1 (((w1.setCell ⟨X, 0, none⟩ (.string S)).setCell ⟨X, 1, none⟩ (.int .i64 k4)).setCell ⟨X, 2, none⟩ (.bool true)) := Bt.sets X [(.string S), (.int .i64 k4), (.bool true)] 0 w1
        have pX1 : (((w1.setCell ⟨X, 0, none⟩ (.string S)).setCell ⟨X, 1, none⟩ (.int .i64 k4)).setCell ⟨X, 2, none⟩ (.bool true)).heap[X]? = some (.cells #[.string S, .int .i64 k4, .bool true] 52 (0, 0)) := cat_all (.string S) (.int .i64 k4) (.bool true) rX_1
        have pR1 := t1.row (show R ≠ X by omega) rR_1
        have pC1 := t1.row (show C ≠ X by omega) rC_1
        have hbp1 : Below R w (((w1.setCell ⟨X, 0, none⟩ (.string S)).setCell ⟨X, 1, none⟩ (.int .i64 k4)).setCell ⟨X, 2, none⟩ (.bool true)) := hb1.trans (t1.below (show R ≤ X by omega) (by have := hb1.size; omega))
        have hxp1 := hx1.trans t1
        have cX0_2 : (((w1.setCell ⟨X, 0, none⟩ (.string S)).setCell ⟨X, 1, none⟩ (.int .i64 k4)).setCell ⟨X, 2, none⟩ (.bool true)).cell? ⟨X, 0, none⟩ = some (.string S) := by rw [cell_of_row _ X 0 _ _ _ pX1]; rfl
        have fX0_2 : (((w1.setCell ⟨X, 0, none⟩ (.string S)).setCell ⟨X, 1, none⟩ (.int .i64 k4)).setCell ⟨X, 2, none⟩ (.bool true)).frozen? ⟨X, 0, none⟩ = false := frozen_of_row _ X 0 _ _ pX1
        have cX1_2 : (((w1.setCell ⟨X, 0, none⟩ (.string S)).setCell ⟨X, 1, none⟩ (.int .i64 k4)).setCell ⟨X, 2, none⟩ (.bool true)).cell? ⟨X, 1, none⟩ = some (.int .i64 k4) := by rw [cell_of_row _ X 1 _ _ _ pX1]; rfl
        have fX1_2 : (((w1.setCell ⟨X, 0, none⟩ (.string S)).setCell ⟨X, 1, none⟩ (.int .i64 k4)).setCell ⟨X, 2, none⟩ (.bool true)).frozen? ⟨X, 1, none⟩ = false := frozen_of_row _ X 1 _ _ pX1
        have cX2_2 : (((w1.setCell ⟨X, 0, none⟩ (.string S)).setCell ⟨X, 1, none⟩ (.int .i64 k4)).setCell ⟨X, 2, none⟩ (.bool true)).cell? ⟨X, 2, none⟩ = some (.bool true) := by rw [cell_of_row _ X 2 _ _ _ pX1]; rfl
        have fX2_2 : (((w1.setCell ⟨X, 0, none⟩ (.string S)).setCell ⟨X, 1, none⟩ (.int .i64 k4)).setCell ⟨X, 2, none⟩ (.bool true)).frozen? ⟨X, 2, none⟩ = false := frozen_of_row _ X 2 _ _ pX1
        go_wp2_with fail
        go_roundw
        case rel => exact ⟨t, g, ⟨k4, true⟩, vS, vF, ls, lf, n, rfl, Lib.hid ⟨hC.to hR lR lC pX1 hxp1, hxp1.row (by have := HR.out.2.2.1; omega) HR.out.2.1, HR.out.2.2.1, hle, by have h1 := hms.out; have h2 := HR.out.2.2.2.2.1; omega, by have := HR.out.2.2.2.2.2.1; omega, hM2.out⟩⟩
        case measure => rw [msW_st pX1, msW_st hC.x]; exact hms.out
      · skip
        obtain ⟨rfl, hlt⟩ := hhit (by omega)
        replace hst := Lib.hid (show Calls Tryz.prog 20 #[sv S yk false, .slice (some ⟨g, 0, none⟩) (lBt t).length (lBt t).length] wr fun e w' => e = .returned (.tuple #[sv S k4 false, .int .i64 0]) ∧ Below wr.heap.size wr w' from hst)
        have hE := HE.out
        replace hstep : ((ls, lf), (zE S ⟨k4, false⟩).2) = M := hstep
        have hEk := fun u => hE u k4 false
        generalize (zE S ⟨k4, false⟩).2 = pz at hstep hEk
        obtain ⟨kz, bz⟩ := pz
        have hM2 := Lib.hid hstep
        have hEk := Lib.hid hEk
        clear hstep hhit hmiss hlt hE
        cases bz
        · skip
          have hx0 := Bt.refl X wr
          have cX0_0 : wr.cell? ⟨X, 0, none⟩ = some (.string S) := by rw [cell_of_row _ X 0 _ _ _ hC.x]; rfl
          have fX0_0 : wr.frozen? ⟨X, 0, none⟩ = false := frozen_of_row _ X 0 _ _ hC.x
          have cX1_0 : wr.cell? ⟨X, 1, none⟩ = some (.int .i64 yk) := by rw [cell_of_row _ X 1 _ _ _ hC.x]; rfl
          have fX1_0 : wr.frozen? ⟨X, 1, none⟩ = false := frozen_of_row _ X 1 _ _ hC.x
          have cX2_0 : wr.cell? ⟨X, 2, none⟩ = some (.bool false) := by rw [cell_of_row _ X 2 _ _ _ hC.x]; rfl
          have fX2_0 : wr.frozen? ⟨X, 2, none⟩ = false := frozen_of_row _ X 2 _ _ hC.x
          go_wp2_with fail
          refine hst.out.mono ?_
          clear cX0_0 fX0_0 cX1_0 fX1_0 cX2_0 fX2_0
          rintro e1 w1 ⟨rfl, g1⟩
          have rR_1 := row_kept hC.r g1
          have rC_1 := row_kept hC.c g1
          have rX_1 := row_kept hC.x g1
          have hb1 : Below R w w1 := hbl.trans (g1.mono (by first | exact hbl.size | (have := hbl.size; omega)))
          have hx1 := hx0.trans (Bt.of_below g1)
          have cX0_1 : w1.cell? ⟨X, 0, none⟩ = some (.string S) := by rw [cell_of_row _ X 0 _ _ _ rX_1]; rfl
          have fX0_1 : w1.frozen? ⟨X, 0, none⟩ = false := frozen_of_row _ X 0 _ _ rX_1
          have cX1_1 : w1.cell? ⟨X, 1, none⟩ = some (.int .i64 yk) := by rw [cell_of_row _ X 1 _ _ _ rX_1]; rfl
          have fX1_1 : w1.frozen? ⟨X, 1, none⟩ = false := frozen_of_row _ X 1 _ _ rX_1
          have cX2_1 : w1.cell? ⟨X, 2, none⟩ = some (.bool false) := by rw [cell_of_row _ X 2 _ _ _ rX_1]; rfl
          have fX2_1 : w1.frozen? ⟨X, 2, none⟩ = false := frozen_of_row _ X 2 _ _ rX_1
          have t1 : Bt X w1 (((w1.setCell ⟨X, 0, none⟩ (.string S)).setCell ⟨X, 1, none⟩ (.int .i64 k4)).setCell ⟨X, 2, none⟩ (.bool false)) := Bt.sets X [(.string S), (.int .i64 k4), (.bool false)] 0 w1
          have pX1 : (((w1.setCell ⟨X, 0, none⟩ (.string S)).setCell ⟨X, 1, none⟩ (.int .i64 k4)).setCell ⟨X, 2, none⟩ (.bool false)).heap[X]? = some (.cells #[.string S, .int .i64 k4, .bool false] 52 (0, 0)) := cat_all (.string S) (.int .i64 k4) (.bool false) rX_1
          have pR1 := t1.row (show R ≠ X by omega) rR_1
          have pC1 := t1.row (show C ≠ X by omega) rC_1
          have hbp1 : Below R w (((w1.setCell ⟨X, 0, none⟩ (.string S)).setCell ⟨X, 1, none⟩ (.int .i64 k4)).setCell ⟨X, 2, none⟩ (.bool false)) := hb1.trans (t1.below (show R ≤ X by omega) (by have := hb1.size; omega))
          have hxp1 := hx1.trans t1
          have cX0_2 : (((w1.setCell ⟨X, 0, none⟩ (.string S)).setCell ⟨X, 1, none⟩ (.int .i64 k4)).setCell ⟨X, 2, none⟩ (.bool false)).cell? ⟨X, 0, none⟩ = some (.string S) := by rw [cell_of_row _ X 0 _ _ _ pX1]; rfl
          have fX0_2 : (((w1.setCell ⟨X, 0, none⟩ (.string S)).setCell ⟨X, 1, none⟩ (.int .i64 k4)).setCell ⟨X, 2, none⟩ (.bool false)).frozen? ⟨X, 0, none⟩ = false := frozen_of_row _ X 0 _ _ pX1
          have cX1_2 : (((w1.setCell ⟨X, 0, none⟩ (.string S)).setCell ⟨X, 1, none⟩ (.int .i64 k4)).setCell ⟨X, 2, none⟩ (.bool false)).cell? ⟨X, 1, none⟩ = some (.int .i64 k4) := by rw [cell_of_row _ X 1 _ _ _ pX1]; rfl
          have fX1_2 : (((w1.setCell ⟨X, 0, none⟩ (.string S)).setCell ⟨X, 1, none⟩ (.int .i64 k4)).setCell ⟨X, 2, none⟩ (.bool false)).frozen? ⟨X, 1, none⟩ = false := frozen_of_row _ X 1 _ _ pX1
          have cX2_2 : (((w1.setCell ⟨X, 0, none⟩ (.string S)).setCell ⟨X, 1, none⟩ (.int .i64 k4)).setCell ⟨X, 2, none⟩ (.bool false)).cell? ⟨X, 2, none⟩ = some (.bool false) := by rw [cell_of_row _ X 2 _ _ _ pX1]; rfl
          have fX2_2 : (((w1.setCell ⟨X, 0, none⟩ (.string S)).setCell ⟨X, 1, none⟩ (.int .i64 k4)).setCell ⟨X, 2, none⟩ (.bool false)).frozen? ⟨X, 2, none⟩ = false := frozen_of_row _ X 2 _ _ pX1
          go_wp2_with fail
          refine (hEk.out (((w1.setCell ⟨X, 0, none⟩ (.string S)).setCell ⟨X, 1, none⟩ (.int .i64 k4)).setCell ⟨X, 2, none⟩ (.bool false))).mono ?_
          clear cX0_1 fX0_1 cX1_1 fX1_1 cX2_1 fX2_1 cX0_2 fX0_2 cX1_2 fX1_2 cX2_2 fX2_2
          rintro e3 w3 ⟨rfl, g3⟩
          have rR_3 := row_kept pR1 g3
          have rC_3 := row_kept pC1 g3
          have rX_3 := row_kept pX1 g3
          have hb3 : Below R w w3 := hbp1.trans (g3.mono (by first | exact hbp1.size | (have := hbp1.size; omega)))
          have hx3 := hxp1.trans (Bt.of_below g3)
          have cX0_3 : w3.cell? ⟨X, 0, none⟩ = some (.string S) := by rw [cell_of_row _ X 0 _ _ _ rX_3]; rfl
          have fX0_3 : w3.frozen? ⟨X, 0, none⟩ = false := frozen_of_row _ X 0 _ _ rX_3
          have cX1_3 : w3.cell? ⟨X, 1, none⟩ = some (.int .i64 k4) := by rw [cell_of_row _ X 1 _ _ _ rX_3]; rfl
          have fX1_3 : w3.frozen? ⟨X, 1, none⟩ = false := frozen_of_row _ X 1 _ _ rX_3
          have cX2_3 : w3.cell? ⟨X, 2, none⟩ = some (.bool false) := by rw [cell_of_row _ X 2 _ _ _ rX_3]; rfl
          have fX2_3 : w3.frozen? ⟨X, 2, none⟩ = false := frozen_of_row _ X 2 _ _ rX_3
          have t2 : Bt X w3 (((w3.setCell ⟨X, 0, none⟩ (.string S)).setCell ⟨X, 1, none⟩ (.int .i64 kz)).setCell ⟨X, 2, none⟩ (.bool false)) := Bt.sets X [(.string S), (.int .i64 kz), (.bool false)] 0 w3
          have pX2 : (((w3.setCell ⟨X, 0, none⟩ (.string S)).setCell ⟨X, 1, none⟩ (.int .i64 kz)).setCell ⟨X, 2, none⟩ (.bool false)).heap[X]? = some (.cells #[.string S, .int .i64 kz, .bool false] 52 (0, 0)) := cat_all (.string S) (.int .i64 kz) (.bool false) rX_3
          have pR2 := t2.row (show R ≠ X by omega) rR_3
          have pC2 := t2.row (show C ≠ X by omega) rC_3
          have hbp2 : Below R w (((w3.setCell ⟨X, 0, none⟩ (.string S)).setCell ⟨X, 1, none⟩ (.int .i64 kz)).setCell ⟨X, 2, none⟩ (.bool false)) := hb3.trans (t2.below (show R ≤ X by omega) (by have := hb3.size; omega))
          have hxp2 := hx3.trans t2
          have cX0_4 : (((w3.setCell ⟨X, 0, none⟩ (.string S)).setCell ⟨X, 1, none⟩ (.int .i64 kz)).setCell ⟨X, 2, none⟩ (.bool false)).cell? ⟨X, 0, none⟩ = some (.string S) := by rw [cell_of_row _ X 0 _ _ _ pX2]; rfl
          have fX0_4 : (((w3.setCell ⟨X, 0, none⟩ (.string S)).setCell ⟨X, 1, none⟩ (.int .i64 kz)).setCell ⟨X, 2, none⟩ (.bool false)).frozen? ⟨X, 0, none⟩ = false := frozen_of_row _ X 0 _ _ pX2
          have cX1_4 : (((w3.setCell ⟨X, 0, none⟩ (.string S)).setCell ⟨X, 1, none⟩ (.int .i64 kz)).setCell ⟨X, 2, none⟩ (.bool false)).cell? ⟨X, 1, none⟩ = some (.int .i64 kz) := by rw [cell_of_row _ X 1 _ _ _ pX2]; rfl
          have fX1_4 : (((w3.setCell ⟨X, 0, none⟩ (.string S)).setCell ⟨X, 1, none⟩ (.int .i64 kz)).setCell ⟨X, 2, none⟩ (.bool false)).frozen? ⟨X, 1, none⟩ = false := frozen_of_row _ X 1 _ _ pX2
          have cX2_4 : (((w3.setCell ⟨X, 0, none⟩ (.string S)).setCell ⟨X, 1, none⟩ (.int .i64 kz)).setCell ⟨X, 2, none⟩ (.bool false)).cell? ⟨X, 2, none⟩ = some (.bool false) := by rw [cell_of_row _ X 2 _ _ _ pX2]; rfl
          have fX2_4 : (((w3.setCell ⟨X, 0, none⟩ (.string S)).setCell ⟨X, 1, none⟩ (.int .i64 kz)).setCell ⟨X, 2, none⟩ (.bool false)).frozen? ⟨X, 2, none⟩ = false := frozen_of_row _ X 2 _ _ pX2
          have hC2 : CR S R C X w free vS vF ls lf ⟨kz, false⟩ _ := hC.to hR lR lC pX2 hxp2
          obtain ⟨c1, n1, d1, rfl⟩ := hC2.os.form
          obtain ⟨c2, n2, d2, rfl⟩ := hC2.of.form
          have cC0_4 : (((w3.setCell ⟨X, 0, none⟩ (.string S)).setCell ⟨X, 1, none⟩ (.int .i64 kz)).setCell ⟨X, 2, none⟩ (.bool false)).cell? ⟨C, 0, none⟩ = some (.int .i64 free) := by rw [cell_of_row _ C 0 _ _ _ pC2]; rfl
          have cC1_4 : (((w3.setCell ⟨X, 0, none⟩ (.string S)).setCell ⟨X, 1, none⟩ (.int .i64 kz)).setCell ⟨X, 2, none⟩ (.bool false)).cell? ⟨C, 1, none⟩ = some (.slice c1 n1 d1) := by rw [cell_of_row _ C 1 _ _ _ pC2]; rfl
          have cC2_4 : (((w3.setCell ⟨X, 0, none⟩ (.string S)).setCell ⟨X, 1, none⟩ (.int .i64 kz)).setCell ⟨X, 2, none⟩ (.bool false)).cell? ⟨C, 2, none⟩ = some (.slice c2 n2 d2) := by rw [cell_of_row _ C 2 _ _ _ pC2]; rfl
          have cR0_4 : (((w3.setCell ⟨X, 0, none⟩ (.string S)).setCell ⟨X, 1, none⟩ (.int .i64 kz)).setCell ⟨X, 2, none⟩ (.bool false)).cell? ⟨R, 0, none⟩ = some (.int .i64 0) := by rw [cell_of_row _ R 0 _ _ _ pR2]; rfl
          have fR0_4 : (((w3.setCell ⟨X, 0, none⟩ (.string S)).setCell ⟨X, 1, none⟩ (.int .i64 kz)).setCell ⟨X, 2, none⟩ (.bool false)).frozen? ⟨R, 0, none⟩ = false := frozen_of_row _ R 0 _ _ pR2
          have cR1_4 : (((w3.setCell ⟨X, 0, none⟩ (.string S)).setCell ⟨X, 1, none⟩ (.int .i64 kz)).setCell ⟨X, 2, none⟩ (.bool false)).cell? ⟨R, 1, none⟩ = some (.slice none 0 0) := by rw [cell_of_row _ R 1 _ _ _ pR2]; rfl
          have fR1_4 : (((w3.setCell ⟨X, 0, none⟩ (.string S)).setCell ⟨X, 1, none⟩ (.int .i64 kz)).setCell ⟨X, 2, none⟩ (.bool false)).frozen? ⟨R, 1, none⟩ = false := frozen_of_row _ R 1 _ _ pR2
          have cR2_4 : (((w3.setCell ⟨X, 0, none⟩ (.string S)).setCell ⟨X, 1, none⟩ (.int .i64 kz)).setCell ⟨X, 2, none⟩ (.bool false)).cell? ⟨R, 2, none⟩ = some (.slice none 0 0) := by rw [cell_of_row _ R 2 _ _ _ pR2]; rfl
          have fR2_4 : (((w3.setCell ⟨X, 0, none⟩ (.string S)).setCell ⟨X, 1, none⟩ (.int .i64 kz)).setCell ⟨X, 2, none⟩ (.bool false)).frozen? ⟨R, 2, none⟩ = false := frozen_of_row _ R 2 _ _ pR2
          go_wp2_with fail
          have t3 : Bt R (((w3.setCell ⟨X, 0, none⟩ (.string S)).setCell ⟨X, 1, none⟩ (.int .i64 kz)).setCell ⟨X, 2, none⟩ (.bool false)) ((((((w3.setCell ⟨X, 0, none⟩ (.string S)).setCell ⟨X, 1, none⟩ (.int .i64 kz)).setCell ⟨X, 2, none⟩ (.bool false)).setCell ⟨R, 0, none⟩ (.int .i64 free)).setCell ⟨R, 1, none⟩ (.slice c1 n1 d1)).setCell ⟨R, 2, none⟩ (.slice c2 n2 d2)) := Bt.sets R [(.int .i64 free), (.slice c1 n1 d1), (.slice c2 n2 d2)] 0 (((w3.setCell ⟨X, 0, none⟩ (.string S)).setCell ⟨X, 1, none⟩ (.int .i64 kz)).setCell ⟨X, 2, none⟩ (.bool false))
          have pR3 : ((((((w3.setCell ⟨X, 0, none⟩ (.string S)).setCell ⟨X, 1, none⟩ (.int .i64 kz)).setCell ⟨X, 2, none⟩ (.bool false)).setCell ⟨R, 0, none⟩ (.int .i64 free)).setCell ⟨R, 1, none⟩ (.slice c1 n1 d1)).setCell ⟨R, 2, none⟩ (.slice c2 n2 d2)).heap[R]? = some (.cells #[.int .i64 free, .slice c1 n1 d1, .slice c2 n2 d2] 26 (0, 0)) := cat_all (.int .i64 free) (.slice c1 n1 d1) (.slice c2 n2 d2) pR2
          have pC3 := t3.row (show C ≠ R by omega) pC2
          have pX3 := t3.row (show X ≠ R by omega) pX2
          have hbp3 : Below R w ((((((w3.setCell ⟨X, 0, none⟩ (.string S)).setCell ⟨X, 1, none⟩ (.int .i64 kz)).setCell ⟨X, 2, none⟩ (.bool false)).setCell ⟨R, 0, none⟩ (.int .i64 free)).setCell ⟨R, 1, none⟩ (.slice c1 n1 d1)).setCell ⟨R, 2, none⟩ (.slice c2 n2 d2)) := hbp2.trans (t3.below (show R ≤ R by omega) (by have := hbp2.size; omega))
          obtain ⟨u9, hu9⟩ : ∃ u9, u9 = ((((((w3.setCell ⟨X, 0, none⟩ (.string S)).setCell ⟨X, 1, none⟩ (.int .i64 kz)).setCell ⟨X, 2, none⟩ (.bool false)).setCell ⟨R, 0, none⟩ (.int .i64 free)).setCell ⟨R, 1, none⟩ (.slice c1 n1 d1)).setCell ⟨R, 2, none⟩ (.slice c2 n2 d2)) := ⟨_, rfl⟩
          have sX : ItsAt 41 (X + 1) (.slice c1 n1 d1) ls u9 := hu9 ▸ ((hC2.os.put (p := ⟨R, 0, none⟩) (show R < X + 1 by omega) _).put (p := ⟨R, 1, none⟩) (show R < X + 1 by omega) _).put (p := ⟨R, 2, none⟩) (show R < X + 1 by omega) _
          have fX : ItsAt 43 (X + 1) (.slice c2 n2 d2) lf u9 := hu9 ▸ ((hC2.of.put (p := ⟨R, 0, none⟩) (show R < X + 1 by omega) _).put (p := ⟨R, 1, none⟩) (show R < X + 1 by omega) _).put (p := ⟨R, 2, none⟩) (show R < X + 1 by omega) _
          rw [← hu9] at pR3 hbp3 ⊢
          have kR0 : u9.cell? ⟨R, 0, none⟩ = some (.int .i64 free) := by rw [cell_of_row _ R 0 _ _ _ pR3]; rfl
          have kR1 : u9.cell? ⟨R, 1, none⟩ = some (.slice c1 n1 d1) := by rw [cell_of_row _ R 1 _ _ _ pR3]; rfl
          have kR2 : u9.cell? ⟨R, 2, none⟩ = some (.slice c2 n2 d2) := by rw [cell_of_row _ R 2 _ _ _ pR3]; rfl
          exact bodyPost_ret (v := .tuple #[.agg #[.int .i64 free, .slice c1 n1 d1, .slice c2 n2 d2], .int .i64 0, .bool true]) (by simp [results, Tryz.results10, go_sem, kR0, kR1, kR2]) rfl ⟨fun e => (by rw [← hM2.out] at e; cases e), fun _ => ⟨_, _, rfl, by rw [← hM2.out]; exact sX.sl, by rw [← hM2.out]; exact fX.sl, (by first | exact hbp3 | (rw [hR]; exact hbp3))⟩⟩
        · skip
          have hx0 := Bt.refl X wr
          have cX0_0 : wr.cell? ⟨X, 0, none⟩ = some (.string S) := by rw [cell_of_row _ X 0 _ _ _ hC.x]; rfl
          have fX0_0 : wr.frozen? ⟨X, 0, none⟩ = false := frozen_of_row _ X 0 _ _ hC.x
          have cX1_0 : wr.cell? ⟨X, 1, none⟩ = some (.int .i64 yk) := by rw [cell_of_row _ X 1 _ _ _ hC.x]; rfl
          have fX1_0 : wr.frozen? ⟨X, 1, none⟩ = false := frozen_of_row _ X 1 _ _ hC.x
          have cX2_0 : wr.cell? ⟨X, 2, none⟩ = some (.bool false) := by rw [cell_of_row _ X 2 _ _ _ hC.x]; rfl
          have fX2_0 : wr.frozen? ⟨X, 2, none⟩ = false := frozen_of_row _ X 2 _ _ hC.x
          go_wp2_with fail
          refine hst.out.mono ?_
          clear cX0_0 fX0_0 cX1_0 fX1_0 cX2_0 fX2_0
          rintro e1 w1 ⟨rfl, g1⟩
          have rR_1 := row_kept hC.r g1
          have rC_1 := row_kept hC.c g1
          have rX_1 := row_kept hC.x g1
          have hb1 : Below R w w1 := hbl.trans (g1.mono (by first | exact hbl.size | (have := hbl.size; omega)))
          have hx1 := hx0.trans (Bt.of_below g1)
          have cX0_1 : w1.cell? ⟨X, 0, none⟩ = some (.string S) := by rw [cell_of_row _ X 0 _ _ _ rX_1]; rfl
          have fX0_1 : w1.frozen? ⟨X, 0, none⟩ = false := frozen_of_row _ X 0 _ _ rX_1
          have cX1_1 : w1.cell? ⟨X, 1, none⟩ = some (.int .i64 yk) := by rw [cell_of_row _ X 1 _ _ _ rX_1]; rfl
          have fX1_1 : w1.frozen? ⟨X, 1, none⟩ = false := frozen_of_row _ X 1 _ _ rX_1
          have cX2_1 : w1.cell? ⟨X, 2, none⟩ = some (.bool false) := by rw [cell_of_row _ X 2 _ _ _ rX_1]; rfl
          have fX2_1 : w1.frozen? ⟨X, 2, none⟩ = false := frozen_of_row _ X 2 _ _ rX_1
          have t1 : Bt X w1 (((w1.setCell ⟨X, 0, none⟩ (.string S)).setCell ⟨X, 1, none⟩ (.int .i64 k4)).setCell ⟨X, 2, none⟩ (.bool false)) := Bt.sets X [(.string S), (.int .i64 k4), (.bool false)] 0 w1
          have pX1 : (((w1.setCell ⟨X, 0, none⟩ (.string S)).setCell ⟨X, 1, none⟩ (.int .i64 k4)).setCell ⟨X, 2, none⟩ (.bool false)).heap[X]? = some (.cells #[.string S, .int .i64 k4, .bool false] 52 (0, 0)) := cat_all (.string S) (.int .i64 k4) (.bool false) rX_1
          have pR1 := t1.row (show R ≠ X by omega) rR_1
          have pC1 := t1.row (show C ≠ X by omega) rC_1
          have hbp1 : Below R w (((w1.setCell ⟨X, 0, none⟩ (.string S)).setCell ⟨X, 1, none⟩ (.int .i64 k4)).setCell ⟨X, 2, none⟩ (.bool false)) := hb1.trans (t1.below (show R ≤ X by omega) (by have := hb1.size; omega))
          have hxp1 := hx1.trans t1
          have cX0_2 : (((w1.setCell ⟨X, 0, none⟩ (.string S)).setCell ⟨X, 1, none⟩ (.int .i64 k4)).setCell ⟨X, 2, none⟩ (.bool false)).cell? ⟨X, 0, none⟩ = some (.string S) := by rw [cell_of_row _ X 0 _ _ _ pX1]; rfl
          have fX0_2 : (((w1.setCell ⟨X, 0, none⟩ (.string S)).setCell ⟨X, 1, none⟩ (.int .i64 k4)).setCell ⟨X, 2, none⟩ (.bool false)).frozen? ⟨X, 0, none⟩ = false := frozen_of_row _ X 0 _ _ pX1
          have cX1_2 : (((w1.setCell ⟨X, 0, none⟩ (.string S)).setCell ⟨X, 1, none⟩ (.int .i64 k4)).setCell ⟨X, 2, none⟩ (.bool false)).cell? ⟨X, 1, none⟩ = some (.int .i64 k4) := by rw [cell_of_row _ X 1 _ _ _ pX1]; rfl
          have fX1_2 : (((w1.setCell ⟨X, 0, none⟩ (.string S)).setCell ⟨X, 1, none⟩ (.int .i64 k4)).setCell ⟨X, 2, none⟩ (.bool false)).frozen? ⟨X, 1, none⟩ = false := frozen_of_row _ X 1 _ _ pX1
          have cX2_2 : (((w1.setCell ⟨X, 0, none⟩ (.string S)).setCell ⟨X, 1, none⟩ (.int .i64 k4)).setCell ⟨X, 2, none⟩ (.bool false)).cell? ⟨X, 2, none⟩ = some (.bool false) := by rw [cell_of_row _ X 2 _ _ _ pX1]; rfl
          have fX2_2 : (((w1.setCell ⟨X, 0, none⟩ (.string S)).setCell ⟨X, 1, none⟩ (.int .i64 k4)).setCell ⟨X, 2, none⟩ (.bool false)).frozen? ⟨X, 2, none⟩ = false := frozen_of_row _ X 2 _ _ pX1
          go_wp2_with fail
          refine (hEk.out (((w1.setCell ⟨X, 0, none⟩ (.string S)).setCell ⟨X, 1, none⟩ (.int .i64 k4)).setCell ⟨X, 2, none⟩ (.bool false))).mono ?_
          clear cX0_1 fX0_1 cX1_1 fX1_1 cX2_1 fX2_1 cX0_2 fX0_2 cX1_2 fX1_2 cX2_2 fX2_2
          rintro e3 w3 ⟨rfl, g3⟩
          have rR_3 := row_kept pR1 g3
          have rC_3 := row_kept pC1 g3
          have rX_3 := row_kept pX1 g3
          have hb3 : Below R w w3 := hbp1.trans (g3.mono (by first | exact hbp1.size | (have := hbp1.size; omega)))
          have hx3 := hxp1.trans (Bt.of_below g3)
          have cX0_3 : w3.cell? ⟨X, 0, none⟩ = some (.string S) := by rw [cell_of_row _ X 0 _ _ _ rX_3]; rfl
          have fX0_3 : w3.frozen? ⟨X, 0, none⟩ = false := frozen_of_row _ X 0 _ _ rX_3
          have cX1_3 : w3.cell? ⟨X, 1, none⟩ = some (.int .i64 k4) := by rw [cell_of_row _ X 1 _ _ _ rX_3]; rfl
          have fX1_3 : w3.frozen? ⟨X, 1, none⟩ = false := frozen_of_row _ X 1 _ _ rX_3
          have cX2_3 : w3.cell? ⟨X, 2, none⟩ = some (.bool false) := by rw [cell_of_row _ X 2 _ _ _ rX_3]; rfl
          have fX2_3 : w3.frozen? ⟨X, 2, none⟩ = false := frozen_of_row _ X 2 _ _ rX_3
          have t2 : Bt X w3 (((w3.setCell ⟨X, 0, none⟩ (.string S)).setCell ⟨X, 1, none⟩ (.int .i64 kz)).setCell ⟨X, 2, none⟩ (.bool true)) := Bt.sets X [(.string S), (.int .i64 kz), (.bool true)] 0 w3
          have pX2 : (((w3.setCell ⟨X, 0, none⟩ (.string S)).setCell ⟨X, 1, none⟩ (.int .i64 kz)).setCell ⟨X, 2, none⟩ (.bool true)).heap[X]? = some (.cells #[.string S, .int .i64 kz, .bool true] 52 (0, 0)) := cat_all (.string S) (.int .i64 kz) (.bool true) rX_3
          have pR2 := t2.row (show R ≠ X by omega) rR_3
          have pC2 := t2.row (show C ≠ X by omega) rC_3
          have hbp2 : Below R w (((w3.setCell ⟨X, 0, none⟩ (.string S)).setCell ⟨X, 1, none⟩ (.int .i64 kz)).setCell ⟨X, 2, none⟩ (.bool true)) := hb3.trans (t2.below (show R ≤ X by omega) (by have := hb3.size; omega))
          have hxp2 := hx3.trans t2
          have cX0_4 : (((w3.setCell ⟨X, 0, none⟩ (.string S)).setCell ⟨X, 1, none⟩ (.int .i64 kz)).setCell ⟨X, 2, none⟩ (.bool true)).cell? ⟨X, 0, none⟩ = some (.string S) := by rw [cell_of_row _ X 0 _ _ _ pX2]; rfl
          have fX0_4 : (((w3.setCell ⟨X, 0, none⟩ (.string S)).setCell ⟨X, 1, none⟩ (.int .i64 kz)).setCell ⟨X, 2, none⟩ (.bool true)).frozen? ⟨X, 0, none⟩ = false := frozen_of_row _ X 0 _ _ pX2
          have cX1_4 : (((w3.setCell ⟨X, 0, none⟩ (.string S)).setCell ⟨X, 1, none⟩ (.int .i64 kz)).setCell ⟨X, 2, none⟩ (.bool true)).cell? ⟨X, 1, none⟩ = some (.int .i64 kz) := by rw [cell_of_row _ X 1 _ _ _ pX2]; rfl
          have fX1_4 : (((w3.setCell ⟨X, 0, none⟩ (.string S)).setCell ⟨X, 1, none⟩ (.int .i64 kz)).setCell ⟨X, 2, none⟩ (.bool true)).frozen? ⟨X, 1, none⟩ = false := frozen_of_row _ X 1 _ _ pX2
          have cX2_4 : (((w3.setCell ⟨X, 0, none⟩ (.string S)).setCell ⟨X, 1, none⟩ (.int .i64 kz)).setCell ⟨X, 2, none⟩ (.bool true)).cell? ⟨X, 2, none⟩ = some (.bool true) := by rw [cell_of_row _ X 2 _ _ _ pX2]; rfl
          have fX2_4 : (((w3.setCell ⟨X, 0, none⟩ (.string S)).setCell ⟨X, 1, none⟩ (.int .i64 kz)).setCell ⟨X, 2, none⟩ (.bool true)).frozen? ⟨X, 2, none⟩ = false := frozen_of_row _ X 2 _ _ pX2
          have cR0_4 : (((w3.setCell ⟨X, 0, none⟩ (.string S)).setCell ⟨X, 1, none⟩ (.int .i64 kz)).setCell ⟨X, 2, none⟩ (.bool true)).cell? ⟨R, 0, none⟩ = some (.int .i64 0) := by rw [cell_of_row _ R 0 _ _ _ pR2]; rfl
          have fR0_4 : (((w3.setCell ⟨X, 0, none⟩ (.string S)).setCell ⟨X, 1, none⟩ (.int .i64 kz)).setCell ⟨X, 2, none⟩ (.bool true)).frozen? ⟨R, 0, none⟩ = false := frozen_of_row _ R 0 _ _ pR2
          have cR1_4 : (((w3.setCell ⟨X, 0, none⟩ (.string S)).setCell ⟨X, 1, none⟩ (.int .i64 kz)).setCell ⟨X, 2, none⟩ (.bool true)).cell? ⟨R, 1, none⟩ = some (.slice none 0 0) := by rw [cell_of_row _ R 1 _ _ _ pR2]; rfl
          have fR1_4 : (((w3.setCell ⟨X, 0, none⟩ (.string S)).setCell ⟨X, 1, none⟩ (.int .i64 kz)).setCell ⟨X, 2, none⟩ (.bool true)).frozen? ⟨R, 1, none⟩ = false := frozen_of_row _ R 1 _ _ pR2
          have cR2_4 : (((w3.setCell ⟨X, 0, none⟩ (.string S)).setCell ⟨X, 1, none⟩ (.int .i64 kz)).setCell ⟨X, 2, none⟩ (.bool true)).cell? ⟨R, 2, none⟩ = some (.slice none 0 0) := by rw [cell_of_row _ R 2 _ _ _ pR2]; rfl
          have fR2_4 : (((w3.setCell ⟨X, 0, none⟩ (.string S)).setCell ⟨X, 1, none⟩ (.int .i64 kz)).setCell ⟨X, 2, none⟩ (.bool true)).frozen? ⟨R, 2, none⟩ = false := frozen_of_row _ R 2 _ _ pR2
          go_wp2_with fail
          go_region
          have t3 : Bt R (((w3.setCell ⟨X, 0, none⟩ (.string S)).setCell ⟨X, 1, none⟩ (.int .i64 kz)).setCell ⟨X, 2, none⟩ (.bool true)) ((((((w3.setCell ⟨X, 0, none⟩ (.string S)).setCell ⟨X, 1, none⟩ (.int .i64 kz)).setCell ⟨X, 2, none⟩ (.bool true)).setCell ⟨R, 0, none⟩ (.int .i64 0)).setCell ⟨R, 1, none⟩ (.slice none 0 0)).setCell ⟨R, 2, none⟩ (.slice none 0 0)) := Bt.sets R [(.int .i64 0), (.slice none 0 0), (.slice none 0 0)] 0 (((w3.setCell ⟨X, 0, none⟩ (.string S)).setCell ⟨X, 1, none⟩ (.int .i64 kz)).setCell ⟨X, 2, none⟩ (.bool true))
          have pR3 : ((((((w3.setCell ⟨X, 0, none⟩ (.string S)).setCell ⟨X, 1, none⟩ (.int .i64 kz)).setCell ⟨X, 2, none⟩ (.bool true)).setCell ⟨R, 0, none⟩ (.int .i64 0)).setCell ⟨R, 1, none⟩ (.slice none 0 0)).setCell ⟨R, 2, none⟩ (.slice none 0 0)).heap[R]? = some (.cells #[.int .i64 0, .slice none 0 0, .slice none 0 0] 26 (0, 0)) := cat_all (.int .i64 0) (.slice none 0 0) (.slice none 0 0) pR2
          have pC3 := t3.row (show C ≠ R by omega) pC2
          have pX3 := t3.row (show X ≠ R by omega) pX2
          have hbp3 : Below R w ((((((w3.setCell ⟨X, 0, none⟩ (.string S)).setCell ⟨X, 1, none⟩ (.int .i64 kz)).setCell ⟨X, 2, none⟩ (.bool true)).setCell ⟨R, 0, none⟩ (.int .i64 0)).setCell ⟨R, 1, none⟩ (.slice none 0 0)).setCell ⟨R, 2, none⟩ (.slice none 0 0)) := hbp2.trans (t3.below (show R ≤ R by omega) (by have := hbp2.size; omega))
          go_wp2_with fail
          obtain ⟨u9, hu9⟩ : ∃ u9, u9 = ((((((w3.setCell ⟨X, 0, none⟩ (.string S)).setCell ⟨X, 1, none⟩ (.int .i64 kz)).setCell ⟨X, 2, none⟩ (.bool true)).setCell ⟨R, 0, none⟩ (.int .i64 0)).setCell ⟨R, 1, none⟩ (.slice none 0 0)).setCell ⟨R, 2, none⟩ (.slice none 0 0)) := ⟨_, rfl⟩
          rw [← hu9] at pR3 hbp3 ⊢
          have kR0 : u9.cell? ⟨R, 0, none⟩ = some (.int .i64 0) := by rw [cell_of_row _ R 0 _ _ _ pR3]; rfl
          have kR1 : u9.cell? ⟨R, 1, none⟩ = some (.slice none 0 0) := by rw [cell_of_row _ R 1 _ _ _ pR3]; rfl
          have kR2 : u9.cell? ⟨R, 2, none⟩ = some (.slice none 0 0) := by rw [cell_of_row _ R 2 _ _ _ pR3]; rfl
          exact bodyPost_ret (v := .tuple #[.agg #[.int .i64 0, .slice none 0 0, .slice none 0 0], .int .i64 kz, .bool false]) (by simp [results, Tryz.results10, go_sem, kR0, kR1, kR2]) rfl ⟨fun _ => ⟨by rw [← hM2.out], (by first | exact below_dn hbp3 1 | (rw [hR]; exact below_dn hbp3 1))⟩, fun e => (by rw [← hM2.out] at e; cases e)⟩
      · skip
        obtain ⟨rfl, hlt⟩ := hhit (by omega)
        replace hst := Lib.hid (show Calls Tryz.prog 20 #[sv S yk false, .slice (some ⟨g, 0, none⟩) (lBt t).length (lBt t).length] wr fun e w' => e = .returned (.tuple #[sv S k4 false, .int .i64 1]) ∧ Below wr.heap.size wr w' from hst)
        replace hstep : rGo n false ls (lf ++ [(rFea S ⟨k4, false⟩).1]) S (rFea S ⟨k4, false⟩).2 = M := hstep
        have hc0 := fun (u : World) => HI.out u ⟨k4, false⟩ hle
        have hl0 := (gd_rId).le S ⟨k4, false⟩ hle |>.2
        have hu0 := (gd_rId).le S ⟨k4, false⟩ hle |>.1
        generalize hq0 : rId S ⟨k4, false⟩ = q0 at *
        obtain ⟨s, ⟨m0, d0⟩⟩ := q0
        have hc1 := fun (u : World) => HN.out u ⟨m0, d0⟩ hl0
        have hl1 := (gd_rNu).le S ⟨m0, d0⟩ hl0 |>.2
        have hu1 := (gd_rNu).le S ⟨m0, d0⟩ hl0 |>.1
        generalize hq1 : rNu S ⟨m0, d0⟩ = q1 at *
        obtain ⟨n1, ⟨m1, d1⟩⟩ := q1
        have hc2 := fun (u : World) => HP.out u ⟨m1, d1⟩ hl1
        have hl2 := (gd_rCh lPo).le S ⟨m1, d1⟩ hl1 |>.2
        have hu2 := (gd_rCh lPo).le S ⟨m1, d1⟩ hl1 |>.1
        have hr2 := rCh_cases (S := S) (x := ⟨m1, d1⟩) lPo
        generalize hq2 : (rCh lPo) S ⟨m1, d1⟩ = q2 at *
        obtain ⟨n2, ⟨m2, d2⟩⟩ := q2
        have hc3 := fun (u : World) => HA.out u ⟨m2, d2⟩ hl2
        have hl3 := (gd_rAn).le S ⟨m2, d2⟩ hl2 |>.2
        have hu3 := (gd_rAn).le S ⟨m2, d2⟩ hl2 |>.1
        generalize hq3 : rAn S ⟨m2, d2⟩ = q3 at *
        obtain ⟨an, ⟨m3, d3⟩⟩ := q3
        obtain ⟨a1, a2, a3, a4, a5, a6⟩ := an
        have hpf : rFea S ⟨k4, false⟩ = (mkI s n1 (n2 + 1) ⟨a1, a2, a3, a4, a5, a6⟩, ⟨m3, d3⟩) := by
          unfold rFea yB
          simp only [hq0, hq1, hq2, hq3]
          rfl
        rw [hpf] at hstep
        have hM2 := Lib.hid (show rGo n false ls (lf ++ [⟨s, n1, (n2 + 1), a1, a2, a3, a4, a5, a6⟩]) S ⟨m3, d3⟩ = M from hstep)
        have hw2 : IntKind.i64.wrap (n2 + 1) = n2 + 1 := by
          rw [IntKind.wrap_i64]
          rcases hr2 with e | ⟨e1, e2⟩
          · have e : n2 = -1 := e
            omega
          · have e1 : 0 ≤ n2 := e1
            have e2 : n2 < 3 := e2
            omega
        have hms := Lib.hid (msr_lt (S := S) (k := yk) (b' := d3) (show yk ≤ m3 from by have h0 : k4 ≤ m0 := hu0; have h1 : m0 ≤ m1 := hu1; have h2 : m1 ≤ m2 := hu2; have h3 : m2 ≤ m3 := hu3; omega) hl3 (.inr (by have h0 : k4 ≤ m0 := hu0; have h1 : m0 ≤ m1 := hu1; have h2 : m1 ≤ m2 := hu2; have h3 : m2 ≤ m3 := hu3; omega)))
        have hkk := Lib.hid hl3
        have hc0 := Lib.hid hc0
        have hc1 := Lib.hid hc1
        have hc2 := Lib.hid hc2
        have hc3 := Lib.hid hc3
        have lz := hC.z
        have hgX := HR.out.2.2.1
        have hgl2 := row_lt HR.out.2.1
        clear hpf hstep hhit hmiss hlt hu0 hu1 hu2 hu3 hl0 hl1 hl2 hl3 hle hq0 hq1 hq2 hq3 hr2
        have hx0 := Bt.refl X wr
        have cX0_0 : wr.cell? ⟨X, 0, none⟩ = some (.string S) := by rw [cell_of_row _ X 0 _ _ _ hC.x]; rfl
        have fX0_0 : wr.frozen? ⟨X, 0, none⟩ = false := frozen_of_row _ X 0 _ _ hC.x
        have cX1_0 : wr.cell? ⟨X, 1, none⟩ = some (.int .i64 yk) := by rw [cell_of_row _ X 1 _ _ _ hC.x]; rfl
        have fX1_0 : wr.frozen? ⟨X, 1, none⟩ = false := frozen_of_row _ X 1 _ _ hC.x
        have cX2_0 : wr.cell? ⟨X, 2, none⟩ = some (.bool false) := by rw [cell_of_row _ X 2 _ _ _ hC.x]; rfl
        have fX2_0 : wr.frozen? ⟨X, 2, none⟩ = false := frozen_of_row _ X 2 _ _ hC.x
        go_wp2_with fail
        refine hst.out.mono ?_
        clear cX0_0 fX0_0 cX1_0 fX1_0 cX2_0 fX2_0
        rintro e1 w1 ⟨rfl, g1⟩
        have rR_1 := row_kept hC.r g1
        have rC_1 := row_kept hC.c g1
        have rX_1 := row_kept hC.x g1
        have hb1 : Below R w w1 := hbl.trans (g1.mono (by first | exact hbl.size | (have := hbl.size; omega)))
        have hx1 := hx0.trans (Bt.of_below g1)
        have cX0_1 : w1.cell? ⟨X, 0, none⟩ = some (.string S) := by rw [cell_of_row _ X 0 _ _ _ rX_1]; rfl
        have fX0_1 : w1.frozen? ⟨X, 0, none⟩ = false := frozen_of_row _ X 0 _ _ rX_1
        have cX1_1 : w1.cell? ⟨X, 1, none⟩ = some (.int .i64 yk) := by rw [cell_of_row _ X 1 _ _ _ rX_1]; rfl
        have fX1_1 : w1.frozen? ⟨X, 1, none⟩ = false := frozen_of_row _ X 1 _ _ rX_1
        have cX2_1 : w1.cell? ⟨X, 2, none⟩ = some (.bool false) := by rw [cell_of_row _ X 2 _ _ _ rX_1]; rfl
        have fX2_1 : w1.frozen? ⟨X, 2, none⟩ = false := frozen_of_row _ X 2 _ _ rX_1
        have t1 : Bt X w1 (((w1.setCell ⟨X, 0, none⟩ (.string S)).setCell ⟨X, 1, none⟩ (.int .i64 k4)).setCell ⟨X, 2, none⟩ (.bool false)) := Bt.sets X [(.string S), (.int .i64 k4), (.bool false)] 0 w1
        have pX1 : (((w1.setCell ⟨X, 0, none⟩ (.string S)).setCell ⟨X, 1, none⟩ (.int .i64 k4)).setCell ⟨X, 2, none⟩ (.bool false)).heap[X]? = some (.cells #[.string S, .int .i64 k4, .bool false] 52 (0, 0)) := cat_all (.string S) (.int .i64 k4) (.bool false) rX_1
        have pR1 := t1.row (show R ≠ X by omega) rR_1
        have pC1 := t1.row (show C ≠ X by omega) rC_1
        have hbp1 : Below R w (((w1.setCell ⟨X, 0, none⟩ (.string S)).setCell ⟨X, 1, none⟩ (.int .i64 k4)).setCell ⟨X, 2, none⟩ (.bool false)) := hb1.trans (t1.below (show R ≤ X by omega) (by have := hb1.size; omega))
        have hxp1 := hx1.trans t1
        have cX0_2 : (((w1.setCell ⟨X, 0, none⟩ (.string S)).setCell ⟨X, 1, none⟩ (.int .i64 k4)).setCell ⟨X, 2, none⟩ (.bool false)).cell? ⟨X, 0, none⟩ = some (.string S) := by rw [cell_of_row _ X 0 _ _ _ pX1]; rfl
        have fX0_2 : (((w1.setCell ⟨X, 0, none⟩ (.string S)).setCell ⟨X, 1, none⟩ (.int .i64 k4)).setCell ⟨X, 2, none⟩ (.bool false)).frozen? ⟨X, 0, none⟩ = false := frozen_of_row _ X 0 _ _ pX1
        have cX1_2 : (((w1.setCell ⟨X, 0, none⟩ (.string S)).setCell ⟨X, 1, none⟩ (.int .i64 k4)).setCell ⟨X, 2, none⟩ (.bool false)).cell? ⟨X, 1, none⟩ = some (.int .i64 k4) := by rw [cell_of_row _ X 1 _ _ _ pX1]; rfl
        have fX1_2 : (((w1.setCell ⟨X, 0, none⟩ (.string S)).setCell ⟨X, 1, none⟩ (.int .i64 k4)).setCell ⟨X, 2, none⟩ (.bool false)).frozen? ⟨X, 1, none⟩ = false := frozen_of_row _ X 1 _ _ pX1
        have cX2_2 : (((w1.setCell ⟨X, 0, none⟩ (.string S)).setCell ⟨X, 1, none⟩ (.int .i64 k4)).setCell ⟨X, 2, none⟩ (.bool false)).cell? ⟨X, 2, none⟩ = some (.bool false) := by rw [cell_of_row _ X 2 _ _ _ pX1]; rfl
        have fX2_2 : (((w1.setCell ⟨X, 0, none⟩ (.string S)).setCell ⟨X, 1, none⟩ (.int .i64 k4)).setCell ⟨X, 2, none⟩ (.bool false)).frozen? ⟨X, 2, none⟩ = false := frozen_of_row _ X 2 _ _ pX1
        have cy0 : (((((w1.setCell ⟨X, 0, none⟩ (.string S)).setCell ⟨X, 1, none⟩ (.int .i64 k4)).setCell ⟨X, 2, none⟩ (.bool false)).alloc (.cells #[.string ⟨#[]⟩, .int .i64 0, .int .i64 0, .int .i64 0, .int .i64 0, .int .i64 0, .int .i64 0, .int .i64 0, .int .i64 0] 43)).alloc (.cells #[.string ⟨#[101, 110, 100, 10]⟩, .string ⟨#[102, 101, 97, 115, 116]⟩] 9)).cell? ⟨X, 0, none⟩ = some (.string S) := by rw [cell_of_row _ X 0 _ _ _ (row_kept (row_kept pX1 (al1 _ _)) (al1 _ _))]; rfl
        have cy1 : (((((w1.setCell ⟨X, 0, none⟩ (.string S)).setCell ⟨X, 1, none⟩ (.int .i64 k4)).setCell ⟨X, 2, none⟩ (.bool false)).alloc (.cells #[.string ⟨#[]⟩, .int .i64 0, .int .i64 0, .int .i64 0, .int .i64 0, .int .i64 0, .int .i64 0, .int .i64 0, .int .i64 0] 43)).alloc (.cells #[.string ⟨#[101, 110, 100, 10]⟩, .string ⟨#[102, 101, 97, 115, 116]⟩] 9)).cell? ⟨X, 1, none⟩ = some (.int .i64 k4) := by rw [cell_of_row _ X 1 _ _ _ (row_kept (row_kept pX1 (al1 _ _)) (al1 _ _))]; rfl
        have cy2 : (((((w1.setCell ⟨X, 0, none⟩ (.string S)).setCell ⟨X, 1, none⟩ (.int .i64 k4)).setCell ⟨X, 2, none⟩ (.bool false)).alloc (.cells #[.string ⟨#[]⟩, .int .i64 0, .int .i64 0, .int .i64 0, .int .i64 0, .int .i64 0, .int .i64 0, .int .i64 0, .int .i64 0] 43)).alloc (.cells #[.string ⟨#[101, 110, 100, 10]⟩, .string ⟨#[102, 101, 97, 115, 116]⟩] 9)).cell? ⟨X, 2, none⟩ = some (.bool false) := by rw [cell_of_row _ X 2 _ _ _ (row_kept (row_kept pX1 (al1 _ _)) (al1 _ _))]; rfl
        go_wp2_with fail
        clear cX0_1 fX0_1 cX1_1 fX1_1 cX2_1 fX2_1 cX0_2 fX0_2 cX1_2 fX1_2 cX2_2 fX2_2 cy0 cy1 cy2
        obtain ⟨v2, hv2⟩ : ∃ v, v = (((w1.setCell ⟨X, 0, none⟩ (.string S)).setCell ⟨X, 1, none⟩ (.int .i64 k4)).setCell ⟨X, 2, none⟩ (.bool false)) := ⟨_, rfl⟩
        have hz2 : w1.heap.size = v2.heap.size := by rw [hv2]; simp
        rw [← hv2, hz2]
        rw [← hv2] at pR1 pC1 pX1 hbp1 hxp1
        clear hz2 hv2
        have lF : wr.heap.size ≤ v2.heap.size := hxp1.size
        have aR3 := row_kept pR1 (al1 (v2) (.cells #[.string ⟨#[]⟩, .int .i64 0, .int .i64 0, .int .i64 0, .int .i64 0, .int .i64 0, .int .i64 0, .int .i64 0, .int .i64 0] 43))
        have aC3 := row_kept pC1 (al1 (v2) (.cells #[.string ⟨#[]⟩, .int .i64 0, .int .i64 0, .int .i64 0, .int .i64 0, .int .i64 0, .int .i64 0, .int .i64 0, .int .i64 0] 43))
        have aX3 := row_kept pX1 (al1 (v2) (.cells #[.string ⟨#[]⟩, .int .i64 0, .int .i64 0, .int .i64 0, .int .i64 0, .int .i64 0, .int .i64 0, .int .i64 0, .int .i64 0] 43))
        have aF3 : (v2.alloc (.cells #[.string ⟨#[]⟩, .int .i64 0, .int .i64 0, .int .i64 0, .int .i64 0, .int .i64 0, .int .i64 0, .int .i64 0, .int .i64 0] 43)).heap[v2.heap.size]? = some (.cells #[.string ⟨#[]⟩, .int .i64 0, .int .i64 0, .int .i64 0, .int .i64 0, .int .i64 0, .int .i64 0, .int .i64 0, .int .i64 0] 43 (0, 0)) := heap_alloc_new _ _
        have hba3 := hbp1.alloc (by have := hbp1.size; omega) (.cells #[.string ⟨#[]⟩, .int .i64 0, .int .i64 0, .int .i64 0, .int .i64 0, .int .i64 0, .int .i64 0, .int .i64 0, .int .i64 0] 43)
        have hxa3 := hxp1.trans (Bt.al X v2 (.cells #[.string ⟨#[]⟩, .int .i64 0, .int .i64 0, .int .i64 0, .int .i64 0, .int .i64 0, .int .i64 0, .int .i64 0, .int .i64 0] 43))
        have aR4 := row_kept aR3 (al1 ((v2.alloc (.cells #[.string ⟨#[]⟩, .int .i64 0, .int .i64 0, .int .i64 0, .int .i64 0, .int .i64 0, .int .i64 0, .int .i64 0, .int .i64 0] 43))) (.cells #[.string ⟨#[101, 110, 100, 10]⟩, .string ⟨#[102, 101, 97, 115, 116]⟩] 9))
        have aC4 := row_kept aC3 (al1 ((v2.alloc (.cells #[.string ⟨#[]⟩, .int .i64 0, .int .i64 0, .int .i64 0, .int .i64 0, .int .i64 0, .int .i64 0, .int .i64 0, .int .i64 0] 43))) (.cells #[.string ⟨#[101, 110, 100, 10]⟩, .string ⟨#[102, 101, 97, 115, 116]⟩] 9))
        have aX4 := row_kept aX3 (al1 ((v2.alloc (.cells #[.string ⟨#[]⟩, .int .i64 0, .int .i64 0, .int .i64 0, .int .i64 0, .int .i64 0, .int .i64 0, .int .i64 0, .int .i64 0] 43))) (.cells #[.string ⟨#[101, 110, 100, 10]⟩, .string ⟨#[102, 101, 97, 115, 116]⟩] 9))
        have aF4 := row_kept aF3 (al1 ((v2.alloc (.cells #[.string ⟨#[]⟩, .int .i64 0, .int .i64 0, .int .i64 0, .int .i64 0, .int .i64 0, .int .i64 0, .int .i64 0, .int .i64 0] 43))) (.cells #[.string ⟨#[101, 110, 100, 10]⟩, .string ⟨#[102, 101, 97, 115, 116]⟩] 9))
        have hba4 := hba3.alloc (by have := hba3.size; omega) (.cells #[.string ⟨#[101, 110, 100, 10]⟩, .string ⟨#[102, 101, 97, 115, 116]⟩] 9)
        have hxa4 := hxa3.trans (Bt.al X (v2.alloc (.cells #[.string ⟨#[]⟩, .int .i64 0, .int .i64 0, .int .i64 0, .int .i64 0, .int .i64 0, .int .i64 0, .int .i64 0, .int .i64 0] 43)) (.cells #[.string ⟨#[101, 110, 100, 10]⟩, .string ⟨#[102, 101, 97, 115, 116]⟩] 9))
        have aL : ((v2.alloc (.cells #[.string ⟨#[]⟩, .int .i64 0, .int .i64 0, .int .i64 0, .int .i64 0, .int .i64 0, .int .i64 0, .int .i64 0, .int .i64 0] 43)).alloc (.cells #[.string ⟨#[101, 110, 100, 10]⟩, .string ⟨#[102, 101, 97, 115, 116]⟩] 9)).heap[(v2.alloc (.cells #[.string ⟨#[]⟩, .int .i64 0, .int .i64 0, .int .i64 0, .int .i64 0, .int .i64 0, .int .i64 0, .int .i64 0, .int .i64 0] 43)).heap.size]? = some (.cells #[.string ⟨#[101, 110, 100, 10]⟩, .string ⟨#[102, 101, 97, 115, 116]⟩] 9 (0, 0)) := heap_alloc_new _ _
        have zL : (v2.alloc (.cells #[.string ⟨#[]⟩, .int .i64 0, .int .i64 0, .int .i64 0, .int .i64 0, .int .i64 0, .int .i64 0, .int .i64 0, .int .i64 0] 43)).heap.size = v2.heap.size + 1 := by simp
        rw [zL] at aL
        clear zL
        obtain ⟨uu, huu⟩ : ∃ z, z = ((v2.alloc (.cells #[.string ⟨#[]⟩, .int .i64 0, .int .i64 0, .int .i64 0, .int .i64 0, .int .i64 0, .int .i64 0, .int .i64 0, .int .i64 0] 43)).alloc (.cells #[.string ⟨#[101, 110, 100, 10]⟩, .string ⟨#[102, 101, 97, 115, 116]⟩] 9)) := ⟨_, rfl⟩
        rw [← huu] at aR4 aC4 aX4 aF4 aL hba4 hxa4 ⊢
        clear huu
        generalize hF : v2.heap.size = F at *
        generalize hLL : F + 1 = L at *
        refine (hc0.out uu).mono ?_
        rintro e3 w3 ⟨rfl, g3⟩
        have rR_3 := row_kept aR4 g3
        have rC_3 := row_kept aC4 g3
        have rX_3 := row_kept aX4 g3
        have rF_3 := row_kept aF4 g3
        have rL_3 := row_kept aL g3
        have hb3 : Below R w w3 := hba4.trans (g3.mono (by first | exact hba4.size | (have := hba4.size; omega)))
        have hx3 := hxa4.trans (Bt.of_below g3)
        have cX0_3 : w3.cell? ⟨X, 0, none⟩ = some (.string S) := by rw [cell_of_row _ X 0 _ _ _ rX_3]; rfl
        have fX0_3 : w3.frozen? ⟨X, 0, none⟩ = false := frozen_of_row _ X 0 _ _ rX_3
        have cX1_3 : w3.cell? ⟨X, 1, none⟩ = some (.int .i64 k4) := by rw [cell_of_row _ X 1 _ _ _ rX_3]; rfl
        have fX1_3 : w3.frozen? ⟨X, 1, none⟩ = false := frozen_of_row _ X 1 _ _ rX_3
        have cX2_3 : w3.cell? ⟨X, 2, none⟩ = some (.bool false) := by rw [cell_of_row _ X 2 _ _ _ rX_3]; rfl
        have fX2_3 : w3.frozen? ⟨X, 2, none⟩ = false := frozen_of_row _ X 2 _ _ rX_3
        have cF0_3 : w3.cell? ⟨F, 0, none⟩ = some (.string ⟨#[]⟩) := by rw [cell_of_row _ F 0 _ _ _ rF_3]; rfl
        have fF0_3 : w3.frozen? ⟨F, 0, none⟩ = false := frozen_of_row _ F 0 _ _ rF_3
        have t5 : Bt X w3 (((w3.setCell ⟨X, 0, none⟩ (.string S)).setCell ⟨X, 1, none⟩ (.int .i64 m0)).setCell ⟨X, 2, none⟩ (.bool d0)) := Bt.sets X [(.string S), (.int .i64 m0), (.bool d0)] 0 w3
        have pX5 : (((w3.setCell ⟨X, 0, none⟩ (.string S)).setCell ⟨X, 1, none⟩ (.int .i64 m0)).setCell ⟨X, 2, none⟩ (.bool d0)).heap[X]? = some (.cells #[.string S, .int .i64 m0, .bool d0] 52 (0, 0)) := cat_all (.string S) (.int .i64 m0) (.bool d0) rX_3
        have pR5 := t5.row (show R ≠ X by omega) rR_3
        have pC5 := t5.row (show C ≠ X by omega) rC_3
        have pF5 := t5.row (show F ≠ X by omega) rF_3
        have pL5 := t5.row (show L ≠ X by omega) rL_3
        have hbp5 : Below R w (((w3.setCell ⟨X, 0, none⟩ (.string S)).setCell ⟨X, 1, none⟩ (.int .i64 m0)).setCell ⟨X, 2, none⟩ (.bool d0)) := hb3.trans (t5.below (show R ≤ X by omega) (by have := hb3.size; omega))
        have hxp5 := hx3.trans t5
        have cX0_4 : (((w3.setCell ⟨X, 0, none⟩ (.string S)).setCell ⟨X, 1, none⟩ (.int .i64 m0)).setCell ⟨X, 2, none⟩ (.bool d0)).cell? ⟨X, 0, none⟩ = some (.string S) := by rw [cell_of_row _ X 0 _ _ _ pX5]; rfl
        have cX1_4 : (((w3.setCell ⟨X, 0, none⟩ (.string S)).setCell ⟨X, 1, none⟩ (.int .i64 m0)).setCell ⟨X, 2, none⟩ (.bool d0)).cell? ⟨X, 1, none⟩ = some (.int .i64 m0) := by rw [cell_of_row _ X 1 _ _ _ pX5]; rfl
        have cX2_4 : (((w3.setCell ⟨X, 0, none⟩ (.string S)).setCell ⟨X, 1, none⟩ (.int .i64 m0)).setCell ⟨X, 2, none⟩ (.bool d0)).cell? ⟨X, 2, none⟩ = some (.bool d0) := by rw [cell_of_row _ X 2 _ _ _ pX5]; rfl
        have cF0_4 : (((w3.setCell ⟨X, 0, none⟩ (.string S)).setCell ⟨X, 1, none⟩ (.int .i64 m0)).setCell ⟨X, 2, none⟩ (.bool d0)).cell? ⟨F, 0, none⟩ = some (.string ⟨#[]⟩) := by rw [cell_of_row _ F 0 _ _ _ pF5]; rfl
        have fF0_4 : (((w3.setCell ⟨X, 0, none⟩ (.string S)).setCell ⟨X, 1, none⟩ (.int .i64 m0)).setCell ⟨X, 2, none⟩ (.bool d0)).frozen? ⟨F, 0, none⟩ = false := frozen_of_row _ F 0 _ _ pF5
        have t6 : Bt F (((w3.setCell ⟨X, 0, none⟩ (.string S)).setCell ⟨X, 1, none⟩ (.int .i64 m0)).setCell ⟨X, 2, none⟩ (.bool d0)) ((((w3.setCell ⟨X, 0, none⟩ (.string S)).setCell ⟨X, 1, none⟩ (.int .i64 m0)).setCell ⟨X, 2, none⟩ (.bool d0)).setCell ⟨F, 0, none⟩ (.string s)) := Bt.sets F [(.string s)] 0 (((w3.setCell ⟨X, 0, none⟩ (.string S)).setCell ⟨X, 1, none⟩ (.int .i64 m0)).setCell ⟨X, 2, none⟩ (.bool d0))
        have pF6 : ((((w3.setCell ⟨X, 0, none⟩ (.string S)).setCell ⟨X, 1, none⟩ (.int .i64 m0)).setCell ⟨X, 2, none⟩ (.bool d0)).setCell ⟨F, 0, none⟩ (.string s)).heap[F]? = some (.cells #[.string s, .int .i64 0, .int .i64 0, .int .i64 0, .int .i64 0, .int .i64 0, .int .i64 0, .int .i64 0, .int .i64 0] 43 (0, 0)) := heap_setCell_same _ F 0 _ _ _ pF5
        have pR6 := t6.row (show R ≠ F by omega) pR5
        have pC6 := t6.row (show C ≠ F by omega) pC5
        have pX6 := t6.row (show X ≠ F by omega) pX5
        have pL6 := t6.row (show L ≠ F by omega) pL5
        have hbp6 : Below R w ((((w3.setCell ⟨X, 0, none⟩ (.string S)).setCell ⟨X, 1, none⟩ (.int .i64 m0)).setCell ⟨X, 2, none⟩ (.bool d0)).setCell ⟨F, 0, none⟩ (.string s)) := hbp5.trans (t6.below (show R ≤ F by omega) (by have := hbp5.size; omega))
        have hxp6 := hxp5.over t6 (show wr.heap.size ≤ F by omega)
        have cX0_5 : ((((w3.setCell ⟨X, 0, none⟩ (.string S)).setCell ⟨X, 1, none⟩ (.int .i64 m0)).setCell ⟨X, 2, none⟩ (.bool d0)).setCell ⟨F, 0, none⟩ (.string s)).cell? ⟨X, 0, none⟩ = some (.string S) := by rw [cell_of_row _ X 0 _ _ _ pX6]; rfl
        have fX0_5 : ((((w3.setCell ⟨X, 0, none⟩ (.string S)).setCell ⟨X, 1, none⟩ (.int .i64 m0)).setCell ⟨X, 2, none⟩ (.bool d0)).setCell ⟨F, 0, none⟩ (.string s)).frozen? ⟨X, 0, none⟩ = false := frozen_of_row _ X 0 _ _ pX6
        have cX1_5 : ((((w3.setCell ⟨X, 0, none⟩ (.string S)).setCell ⟨X, 1, none⟩ (.int .i64 m0)).setCell ⟨X, 2, none⟩ (.bool d0)).setCell ⟨F, 0, none⟩ (.string s)).cell? ⟨X, 1, none⟩ = some (.int .i64 m0) := by rw [cell_of_row _ X 1 _ _ _ pX6]; rfl
        have fX1_5 : ((((w3.setCell ⟨X, 0, none⟩ (.string S)).setCell ⟨X, 1, none⟩ (.int .i64 m0)).setCell ⟨X, 2, none⟩ (.bool d0)).setCell ⟨F, 0, none⟩ (.string s)).frozen? ⟨X, 1, none⟩ = false := frozen_of_row _ X 1 _ _ pX6
        have cX2_5 : ((((w3.setCell ⟨X, 0, none⟩ (.string S)).setCell ⟨X, 1, none⟩ (.int .i64 m0)).setCell ⟨X, 2, none⟩ (.bool d0)).setCell ⟨F, 0, none⟩ (.string s)).cell? ⟨X, 2, none⟩ = some (.bool d0) := by rw [cell_of_row _ X 2 _ _ _ pX6]; rfl
        have fX2_5 : ((((w3.setCell ⟨X, 0, none⟩ (.string S)).setCell ⟨X, 1, none⟩ (.int .i64 m0)).setCell ⟨X, 2, none⟩ (.bool d0)).setCell ⟨F, 0, none⟩ (.string s)).frozen? ⟨X, 2, none⟩ = false := frozen_of_row _ X 2 _ _ pX6
        go_wp2_with fail
        refine (hc1.out ((((w3.setCell ⟨X, 0, none⟩ (.string S)).setCell ⟨X, 1, none⟩ (.int .i64 m0)).setCell ⟨X, 2, none⟩ (.bool d0)).setCell ⟨F, 0, none⟩ (.string s))).mono ?_
        clear cX0_3 fX0_3 cX1_3 fX1_3 cX2_3 fX2_3 cF0_3 fF0_3 cX0_4 cX1_4 cX2_4 cF0_4 fF0_4 cX0_5 fX0_5 cX1_5 fX1_5 cX2_5 fX2_5
        rintro e6 w6 ⟨rfl, g6⟩
        have rR_6 := row_kept pR6 g6
        have rC_6 := row_kept pC6 g6
        have rX_6 := row_kept pX6 g6
        have rF_6 := row_kept pF6 g6
        have rL_6 := row_kept pL6 g6
        have hb6 : Below R w w6 := hbp6.trans (g6.mono (by first | exact hbp6.size | (have := hbp6.size; omega)))
        have hx6 := hxp6.trans (Bt.of_below g6)
        have cX0_6 : w6.cell? ⟨X, 0, none⟩ = some (.string S) := by rw [cell_of_row _ X 0 _ _ _ rX_6]; rfl
        have fX0_6 : w6.frozen? ⟨X, 0, none⟩ = false := frozen_of_row _ X 0 _ _ rX_6
        have cX1_6 : w6.cell? ⟨X, 1, none⟩ = some (.int .i64 m0) := by rw [cell_of_row _ X 1 _ _ _ rX_6]; rfl
        have fX1_6 : w6.frozen? ⟨X, 1, none⟩ = false := frozen_of_row _ X 1 _ _ rX_6
        have cX2_6 : w6.cell? ⟨X, 2, none⟩ = some (.bool d0) := by rw [cell_of_row _ X 2 _ _ _ rX_6]; rfl
        have fX2_6 : w6.frozen? ⟨X, 2, none⟩ = false := frozen_of_row _ X 2 _ _ rX_6
        have cF1_6 : w6.cell? ⟨F, 1, none⟩ = some (.int .i64 0) := by rw [cell_of_row _ F 1 _ _ _ rF_6]; rfl
        have fF1_6 : w6.frozen? ⟨F, 1, none⟩ = false := frozen_of_row _ F 1 _ _ rF_6
        have t7 : Bt X w6 (((w6.setCell ⟨X, 0, none⟩ (.string S)).setCell ⟨X, 1, none⟩ (.int .i64 m1)).setCell ⟨X, 2, none⟩ (.bool d1)) := Bt.sets X [(.string S), (.int .i64 m1), (.bool d1)] 0 w6
        have pX7 : (((w6.setCell ⟨X, 0, none⟩ (.string S)).setCell ⟨X, 1, none⟩ (.int .i64 m1)).setCell ⟨X, 2, none⟩ (.bool d1)).heap[X]? = some (.cells #[.string S, .int .i64 m1, .bool d1] 52 (0, 0)) := cat_all (.string S) (.int .i64 m1) (.bool d1) rX_6
        have pR7 := t7.row (show R ≠ X by omega) rR_6
        have pC7 := t7.row (show C ≠ X by omega) rC_6
        have pF7 := t7.row (show F ≠ X by omega) rF_6
        have pL7 := t7.row (show L ≠ X by omega) rL_6
        have hbp7 : Below R w (((w6.setCell ⟨X, 0, none⟩ (.string S)).setCell ⟨X, 1, none⟩ (.int .i64 m1)).setCell ⟨X, 2, none⟩ (.bool d1)) := hb6.trans (t7.below (show R ≤ X by omega) (by have := hb6.size; omega))
        have hxp7 := hx6.trans t7
        have cX0_7 : (((w6.setCell ⟨X, 0, none⟩ (.string S)).setCell ⟨X, 1, none⟩ (.int .i64 m1)).setCell ⟨X, 2, none⟩ (.bool d1)).cell? ⟨X, 0, none⟩ = some (.string S) := by rw [cell_of_row _ X 0 _ _ _ pX7]; rfl
        have cX1_7 : (((w6.setCell ⟨X, 0, none⟩ (.string S)).setCell ⟨X, 1, none⟩ (.int .i64 m1)).setCell ⟨X, 2, none⟩ (.bool d1)).cell? ⟨X, 1, none⟩ = some (.int .i64 m1) := by rw [cell_of_row _ X 1 _ _ _ pX7]; rfl
        have cX2_7 : (((w6.setCell ⟨X, 0, none⟩ (.string S)).setCell ⟨X, 1, none⟩ (.int .i64 m1)).setCell ⟨X, 2, none⟩ (.bool d1)).cell? ⟨X, 2, none⟩ = some (.bool d1) := by rw [cell_of_row _ X 2 _ _ _ pX7]; rfl
        have cF1_7 : (((w6.setCell ⟨X, 0, none⟩ (.string S)).setCell ⟨X, 1, none⟩ (.int .i64 m1)).setCell ⟨X, 2, none⟩ (.bool d1)).cell? ⟨F, 1, none⟩ = some (.int .i64 0) := by rw [cell_of_row _ F 1 _ _ _ pF7]; rfl
        have fF1_7 : (((w6.setCell ⟨X, 0, none⟩ (.string S)).setCell ⟨X, 1, none⟩ (.int .i64 m1)).setCell ⟨X, 2, none⟩ (.bool d1)).frozen? ⟨F, 1, none⟩ = false := frozen_of_row _ F 1 _ _ pF7
        have t8 : Bt F (((w6.setCell ⟨X, 0, none⟩ (.string S)).setCell ⟨X, 1, none⟩ (.int .i64 m1)).setCell ⟨X, 2, none⟩ (.bool d1)) ((((w6.setCell ⟨X, 0, none⟩ (.string S)).setCell ⟨X, 1, none⟩ (.int .i64 m1)).setCell ⟨X, 2, none⟩ (.bool d1)).setCell ⟨F, 1, none⟩ (.int .i64 n1)) := Bt.sets F [(.int .i64 n1)] 1 (((w6.setCell ⟨X, 0, none⟩ (.string S)).setCell ⟨X, 1, none⟩ (.int .i64 m1)).setCell ⟨X, 2, none⟩ (.bool d1))
        have pF8 : ((((w6.setCell ⟨X, 0, none⟩ (.string S)).setCell ⟨X, 1, none⟩ (.int .i64 m1)).setCell ⟨X, 2, none⟩ (.bool d1)).setCell ⟨F, 1, none⟩ (.int .i64 n1)).heap[F]? = some (.cells #[.string s, .int .i64 n1, .int .i64 0, .int .i64 0, .int .i64 0, .int .i64 0, .int .i64 0, .int .i64 0, .int .i64 0] 43 (0, 0)) := heap_setCell_same _ F 1 _ _ _ pF7
        have pR8 := t8.row (show R ≠ F by omega) pR7
        have pC8 := t8.row (show C ≠ F by omega) pC7
        have pX8 := t8.row (show X ≠ F by omega) pX7
        have pL8 := t8.row (show L ≠ F by omega) pL7
        have hbp8 : Below R w ((((w6.setCell ⟨X, 0, none⟩ (.string S)).setCell ⟨X, 1, none⟩ (.int .i64 m1)).setCell ⟨X, 2, none⟩ (.bool d1)).setCell ⟨F, 1, none⟩ (.int .i64 n1)) := hbp7.trans (t8.below (show R ≤ F by omega) (by have := hbp7.size; omega))
        have hxp8 := hxp7.over t8 (show wr.heap.size ≤ F by omega)
        have cX0_8 : ((((w6.setCell ⟨X, 0, none⟩ (.string S)).setCell ⟨X, 1, none⟩ (.int .i64 m1)).setCell ⟨X, 2, none⟩ (.bool d1)).setCell ⟨F, 1, none⟩ (.int .i64 n1)).cell? ⟨X, 0, none⟩ = some (.string S) := by rw [cell_of_row _ X 0 _ _ _ pX8]; rfl
        have fX0_8 : ((((w6.setCell ⟨X, 0, none⟩ (.string S)).setCell ⟨X, 1, none⟩ (.int .i64 m1)).setCell ⟨X, 2, none⟩ (.bool d1)).setCell ⟨F, 1, none⟩ (.int .i64 n1)).frozen? ⟨X, 0, none⟩ = false := frozen_of_row _ X 0 _ _ pX8
        have cX1_8 : ((((w6.setCell ⟨X, 0, none⟩ (.string S)).setCell ⟨X, 1, none⟩ (.int .i64 m1)).setCell ⟨X, 2, none⟩ (.bool d1)).setCell ⟨F, 1, none⟩ (.int .i64 n1)).cell? ⟨X, 1, none⟩ = some (.int .i64 m1) := by rw [cell_of_row _ X 1 _ _ _ pX8]; rfl
        have fX1_8 : ((((w6.setCell ⟨X, 0, none⟩ (.string S)).setCell ⟨X, 1, none⟩ (.int .i64 m1)).setCell ⟨X, 2, none⟩ (.bool d1)).setCell ⟨F, 1, none⟩ (.int .i64 n1)).frozen? ⟨X, 1, none⟩ = false := frozen_of_row _ X 1 _ _ pX8
        have cX2_8 : ((((w6.setCell ⟨X, 0, none⟩ (.string S)).setCell ⟨X, 1, none⟩ (.int .i64 m1)).setCell ⟨X, 2, none⟩ (.bool d1)).setCell ⟨F, 1, none⟩ (.int .i64 n1)).cell? ⟨X, 2, none⟩ = some (.bool d1) := by rw [cell_of_row _ X 2 _ _ _ pX8]; rfl
        have fX2_8 : ((((w6.setCell ⟨X, 0, none⟩ (.string S)).setCell ⟨X, 1, none⟩ (.int .i64 m1)).setCell ⟨X, 2, none⟩ (.bool d1)).setCell ⟨F, 1, none⟩ (.int .i64 n1)).frozen? ⟨X, 2, none⟩ = false := frozen_of_row _ X 2 _ _ pX8
        go_wp2_with fail
        clear cX0_6 fX0_6 cX1_6 fX1_6 cX2_6 fX2_6 cF1_6 fF1_6 cX0_7 cX1_7 cX2_7 cF1_7 fF1_7 cX0_8 fX0_8 cX1_8 fX1_8 cX2_8 fX2_8
        obtain ⟨v9, hv9⟩ : ∃ v, v = ((((w6.setCell ⟨X, 0, none⟩ (.string S)).setCell ⟨X, 1, none⟩ (.int .i64 m1)).setCell ⟨X, 2, none⟩ (.bool d1)).setCell ⟨F, 1, none⟩ (.int .i64 n1)) := ⟨_, rfl⟩
        have hz9 : w6.heap.size = v9.heap.size := by rw [hv9]; simp
        rw [← hv9, hz9]
        rw [← hv9] at pR8 pC8 pX8 pF8 pL8 hbp8 hxp8
        clear hz9 hv9
        refine (hc2.out v9).mono ?_
        rintro e9 w9 ⟨rfl, g9⟩
        have rR_9 := row_kept pR8 g9
        have rC_9 := row_kept pC8 g9
        have rX_9 := row_kept pX8 g9
        have rF_9 := row_kept pF8 g9
        have rL_9 := row_kept pL8 g9
        have hb9 : Below R w w9 := hbp8.trans (g9.mono (by first | exact hbp8.size | (have := hbp8.size; omega)))
        have hx9 := hxp8.trans (Bt.of_below g9)
        have cX0_9 : w9.cell? ⟨X, 0, none⟩ = some (.string S) := by rw [cell_of_row _ X 0 _ _ _ rX_9]; rfl
        have fX0_9 : w9.frozen? ⟨X, 0, none⟩ = false := frozen_of_row _ X 0 _ _ rX_9
        have cX1_9 : w9.cell? ⟨X, 1, none⟩ = some (.int .i64 m1) := by rw [cell_of_row _ X 1 _ _ _ rX_9]; rfl
        have fX1_9 : w9.frozen? ⟨X, 1, none⟩ = false := frozen_of_row _ X 1 _ _ rX_9
        have cX2_9 : w9.cell? ⟨X, 2, none⟩ = some (.bool d1) := by rw [cell_of_row _ X 2 _ _ _ rX_9]; rfl
        have fX2_9 : w9.frozen? ⟨X, 2, none⟩ = false := frozen_of_row _ X 2 _ _ rX_9
        have cF2_9 : w9.cell? ⟨F, 2, none⟩ = some (.int .i64 0) := by rw [cell_of_row _ F 2 _ _ _ rF_9]; rfl
        have fF2_9 : w9.frozen? ⟨F, 2, none⟩ = false := frozen_of_row _ F 2 _ _ rF_9
        have t10 : Bt X w9 (((w9.setCell ⟨X, 0, none⟩ (.string S)).setCell ⟨X, 1, none⟩ (.int .i64 m2)).setCell ⟨X, 2, none⟩ (.bool d2)) := Bt.sets X [(.string S), (.int .i64 m2), (.bool d2)] 0 w9
        have pX10 : (((w9.setCell ⟨X, 0, none⟩ (.string S)).setCell ⟨X, 1, none⟩ (.int .i64 m2)).setCell ⟨X, 2, none⟩ (.bool d2)).heap[X]? = some (.cells #[.string S, .int .i64 m2, .bool d2] 52 (0, 0)) := cat_all (.string S) (.int .i64 m2) (.bool d2) rX_9
        have pR10 := t10.row (show R ≠ X by omega) rR_9
        have pC10 := t10.row (show C ≠ X by omega) rC_9
        have pF10 := t10.row (show F ≠ X by omega) rF_9
        have pL10 := t10.row (show L ≠ X by omega) rL_9
        have hbp10 : Below R w (((w9.setCell ⟨X, 0, none⟩ (.string S)).setCell ⟨X, 1, none⟩ (.int .i64 m2)).setCell ⟨X, 2, none⟩ (.bool d2)) := hb9.trans (t10.below (show R ≤ X by omega) (by have := hb9.size; omega))
        have hxp10 := hx9.trans t10
        have cX0_10 : (((w9.setCell ⟨X, 0, none⟩ (.string S)).setCell ⟨X, 1, none⟩ (.int .i64 m2)).setCell ⟨X, 2, none⟩ (.bool d2)).cell? ⟨X, 0, none⟩ = some (.string S) := by rw [cell_of_row _ X 0 _ _ _ pX10]; rfl
        have cX1_10 : (((w9.setCell ⟨X, 0, none⟩ (.string S)).setCell ⟨X, 1, none⟩ (.int .i64 m2)).setCell ⟨X, 2, none⟩ (.bool d2)).cell? ⟨X, 1, none⟩ = some (.int .i64 m2) := by rw [cell_of_row _ X 1 _ _ _ pX10]; rfl
        have cX2_10 : (((w9.setCell ⟨X, 0, none⟩ (.string S)).setCell ⟨X, 1, none⟩ (.int .i64 m2)).setCell ⟨X, 2, none⟩ (.bool d2)).cell? ⟨X, 2, none⟩ = some (.bool d2) := by rw [cell_of_row _ X 2 _ _ _ pX10]; rfl
        have cF2_10 : (((w9.setCell ⟨X, 0, none⟩ (.string S)).setCell ⟨X, 1, none⟩ (.int .i64 m2)).setCell ⟨X, 2, none⟩ (.bool d2)).cell? ⟨F, 2, none⟩ = some (.int .i64 0) := by rw [cell_of_row _ F 2 _ _ _ pF10]; rfl
        have fF2_10 : (((w9.setCell ⟨X, 0, none⟩ (.string S)).setCell ⟨X, 1, none⟩ (.int .i64 m2)).setCell ⟨X, 2, none⟩ (.bool d2)).frozen? ⟨F, 2, none⟩ = false := frozen_of_row _ F 2 _ _ pF10
        have t11 : Bt F (((w9.setCell ⟨X, 0, none⟩ (.string S)).setCell ⟨X, 1, none⟩ (.int .i64 m2)).setCell ⟨X, 2, none⟩ (.bool d2)) ((((w9.setCell ⟨X, 0, none⟩ (.string S)).setCell ⟨X, 1, none⟩ (.int .i64 m2)).setCell ⟨X, 2, none⟩ (.bool d2)).setCell ⟨F, 2, none⟩ (.int .i64 n2)) := Bt.sets F [(.int .i64 n2)] 2 (((w9.setCell ⟨X, 0, none⟩ (.string S)).setCell ⟨X, 1, none⟩ (.int .i64 m2)).setCell ⟨X, 2, none⟩ (.bool d2))
        have pF11 : ((((w9.setCell ⟨X, 0, none⟩ (.string S)).setCell ⟨X, 1, none⟩ (.int .i64 m2)).setCell ⟨X, 2, none⟩ (.bool d2)).setCell ⟨F, 2, none⟩ (.int .i64 n2)).heap[F]? = some (.cells #[.string s, .int .i64 n1, .int .i64 n2, .int .i64 0, .int .i64 0, .int .i64 0, .int .i64 0, .int .i64 0, .int .i64 0] 43 (0, 0)) := heap_setCell_same _ F 2 _ _ _ pF10
        have pR11 := t11.row (show R ≠ F by omega) pR10
        have pC11 := t11.row (show C ≠ F by omega) pC10
        have pX11 := t11.row (show X ≠ F by omega) pX10
        have pL11 := t11.row (show L ≠ F by omega) pL10
        have hbp11 : Below R w ((((w9.setCell ⟨X, 0, none⟩ (.string S)).setCell ⟨X, 1, none⟩ (.int .i64 m2)).setCell ⟨X, 2, none⟩ (.bool d2)).setCell ⟨F, 2, none⟩ (.int .i64 n2)) := hbp10.trans (t11.below (show R ≤ F by omega) (by have := hbp10.size; omega))
        have hxp11 := hxp10.over t11 (show wr.heap.size ≤ F by omega)
        have cX0_11 : ((((w9.setCell ⟨X, 0, none⟩ (.string S)).setCell ⟨X, 1, none⟩ (.int .i64 m2)).setCell ⟨X, 2, none⟩ (.bool d2)).setCell ⟨F, 2, none⟩ (.int .i64 n2)).cell? ⟨X, 0, none⟩ = some (.string S) := by rw [cell_of_row _ X 0 _ _ _ pX11]; rfl
        have fX0_11 : ((((w9.setCell ⟨X, 0, none⟩ (.string S)).setCell ⟨X, 1, none⟩ (.int .i64 m2)).setCell ⟨X, 2, none⟩ (.bool d2)).setCell ⟨F, 2, none⟩ (.int .i64 n2)).frozen? ⟨X, 0, none⟩ = false := frozen_of_row _ X 0 _ _ pX11
        have cX1_11 : ((((w9.setCell ⟨X, 0, none⟩ (.string S)).setCell ⟨X, 1, none⟩ (.int .i64 m2)).setCell ⟨X, 2, none⟩ (.bool d2)).setCell ⟨F, 2, none⟩ (.int .i64 n2)).cell? ⟨X, 1, none⟩ = some (.int .i64 m2) := by rw [cell_of_row _ X 1 _ _ _ pX11]; rfl
        have fX1_11 : ((((w9.setCell ⟨X, 0, none⟩ (.string S)).setCell ⟨X, 1, none⟩ (.int .i64 m2)).setCell ⟨X, 2, none⟩ (.bool d2)).setCell ⟨F, 2, none⟩ (.int .i64 n2)).frozen? ⟨X, 1, none⟩ = false := frozen_of_row _ X 1 _ _ pX11
        have cX2_11 : ((((w9.setCell ⟨X, 0, none⟩ (.string S)).setCell ⟨X, 1, none⟩ (.int .i64 m2)).setCell ⟨X, 2, none⟩ (.bool d2)).setCell ⟨F, 2, none⟩ (.int .i64 n2)).cell? ⟨X, 2, none⟩ = some (.bool d2) := by rw [cell_of_row _ X 2 _ _ _ pX11]; rfl
        have fX2_11 : ((((w9.setCell ⟨X, 0, none⟩ (.string S)).setCell ⟨X, 1, none⟩ (.int .i64 m2)).setCell ⟨X, 2, none⟩ (.bool d2)).setCell ⟨F, 2, none⟩ (.int .i64 n2)).frozen? ⟨X, 2, none⟩ = false := frozen_of_row _ X 2 _ _ pX11
        have cF2_11 : ((((w9.setCell ⟨X, 0, none⟩ (.string S)).setCell ⟨X, 1, none⟩ (.int .i64 m2)).setCell ⟨X, 2, none⟩ (.bool d2)).setCell ⟨F, 2, none⟩ (.int .i64 n2)).cell? ⟨F, 2, none⟩ = some (.int .i64 n2) := by rw [cell_of_row _ F 2 _ _ _ pF11]; rfl
        have fF2_11 : ((((w9.setCell ⟨X, 0, none⟩ (.string S)).setCell ⟨X, 1, none⟩ (.int .i64 m2)).setCell ⟨X, 2, none⟩ (.bool d2)).setCell ⟨F, 2, none⟩ (.int .i64 n2)).frozen? ⟨F, 2, none⟩ = false := frozen_of_row _ F 2 _ _ pF11
        have t12 : Bt F ((((w9.setCell ⟨X, 0, none⟩ (.string S)).setCell ⟨X, 1, none⟩ (.int .i64 m2)).setCell ⟨X, 2, none⟩ (.bool d2)).setCell ⟨F, 2, none⟩ (.int .i64 n2)) (((((w9.setCell ⟨X, 0, none⟩ (.string S)).setCell ⟨X, 1, none⟩ (.int .i64 m2)).setCell ⟨X, 2, none⟩ (.bool d2)).setCell ⟨F, 2, none⟩ (.int .i64 n2)).setCell ⟨F, 2, none⟩ (.int .i64 (n2 + 1))) := Bt.sets F [(.int .i64 (n2 + 1))] 2 ((((w9.setCell ⟨X, 0, none⟩ (.string S)).setCell ⟨X, 1, none⟩ (.int .i64 m2)).setCell ⟨X, 2, none⟩ (.bool d2)).setCell ⟨F, 2, none⟩ (.int .i64 n2))
        have pF12 : (((((w9.setCell ⟨X, 0, none⟩ (.string S)).setCell ⟨X, 1, none⟩ (.int .i64 m2)).setCell ⟨X, 2, none⟩ (.bool d2)).setCell ⟨F, 2, none⟩ (.int .i64 n2)).setCell ⟨F, 2, none⟩ (.int .i64 (n2 + 1))).heap[F]? = some (.cells #[.string s, .int .i64 n1, .int .i64 (n2 + 1), .int .i64 0, .int .i64 0, .int .i64 0, .int .i64 0, .int .i64 0, .int .i64 0] 43 (0, 0)) := heap_setCell_same _ F 2 _ _ _ pF11
        have pR12 := t12.row (show R ≠ F by omega) pR11
        have pC12 := t12.row (show C ≠ F by omega) pC11
        have pX12 := t12.row (show X ≠ F by omega) pX11
        have pL12 := t12.row (show L ≠ F by omega) pL11
        have hbp12 : Below R w (((((w9.setCell ⟨X, 0, none⟩ (.string S)).setCell ⟨X, 1, none⟩ (.int .i64 m2)).setCell ⟨X, 2, none⟩ (.bool d2)).setCell ⟨F, 2, none⟩ (.int .i64 n2)).setCell ⟨F, 2, none⟩ (.int .i64 (n2 + 1))) := hbp11.trans (t12.below (show R ≤ F by omega) (by have := hbp11.size; omega))
        have hxp12 := hxp11.over t12 (show wr.heap.size ≤ F by omega)
        have cX0_12 : (((((w9.setCell ⟨X, 0, none⟩ (.string S)).setCell ⟨X, 1, none⟩ (.int .i64 m2)).setCell ⟨X, 2, none⟩ (.bool d2)).setCell ⟨F, 2, none⟩ (.int .i64 n2)).setCell ⟨F, 2, none⟩ (.int .i64 (n2 + 1))).cell? ⟨X, 0, none⟩ = some (.string S) := by rw [cell_of_row _ X 0 _ _ _ pX12]; rfl
        have fX0_12 : (((((w9.setCell ⟨X, 0, none⟩ (.string S)).setCell ⟨X, 1, none⟩ (.int .i64 m2)).setCell ⟨X, 2, none⟩ (.bool d2)).setCell ⟨F, 2, none⟩ (.int .i64 n2)).setCell ⟨F, 2, none⟩ (.int .i64 (n2 + 1))).frozen? ⟨X, 0, none⟩ = false := frozen_of_row _ X 0 _ _ pX12
        have cX1_12 : (((((w9.setCell ⟨X, 0, none⟩ (.string S)).setCell ⟨X, 1, none⟩ (.int .i64 m2)).setCell ⟨X, 2, none⟩ (.bool d2)).setCell ⟨F, 2, none⟩ (.int .i64 n2)).setCell ⟨F, 2, none⟩ (.int .i64 (n2 + 1))).cell? ⟨X, 1, none⟩ = some (.int .i64 m2) := by rw [cell_of_row _ X 1 _ _ _ pX12]; rfl
        have fX1_12 : (((((w9.setCell ⟨X, 0, none⟩ (.string S)).setCell ⟨X, 1, none⟩ (.int .i64 m2)).setCell ⟨X, 2, none⟩ (.bool d2)).setCell ⟨F, 2, none⟩ (.int .i64 n2)).setCell ⟨F, 2, none⟩ (.int .i64 (n2 + 1))).frozen? ⟨X, 1, none⟩ = false := frozen_of_row _ X 1 _ _ pX12
        have cX2_12 : (((((w9.setCell ⟨X, 0, none⟩ (.string S)).setCell ⟨X, 1, none⟩ (.int .i64 m2)).setCell ⟨X, 2, none⟩ (.bool d2)).setCell ⟨F, 2, none⟩ (.int .i64 n2)).setCell ⟨F, 2, none⟩ (.int .i64 (n2 + 1))).cell? ⟨X, 2, none⟩ = some (.bool d2) := by rw [cell_of_row _ X 2 _ _ _ pX12]; rfl
        have fX2_12 : (((((w9.setCell ⟨X, 0, none⟩ (.string S)).setCell ⟨X, 1, none⟩ (.int .i64 m2)).setCell ⟨X, 2, none⟩ (.bool d2)).setCell ⟨F, 2, none⟩ (.int .i64 n2)).setCell ⟨F, 2, none⟩ (.int .i64 (n2 + 1))).frozen? ⟨X, 2, none⟩ = false := frozen_of_row _ X 2 _ _ pX12
        go_wp2_with fail
        refine (hc3.out (((((w9.setCell ⟨X, 0, none⟩ (.string S)).setCell ⟨X, 1, none⟩ (.int .i64 m2)).setCell ⟨X, 2, none⟩ (.bool d2)).setCell ⟨F, 2, none⟩ (.int .i64 n2)).setCell ⟨F, 2, none⟩ (.int .i64 (n2 + 1)))).mono ?_
        clear cX0_9 fX0_9 cX1_9 fX1_9 cX2_9 fX2_9 cF2_9 fF2_9 cX0_10 cX1_10 cX2_10 cF2_10 fF2_10 cX0_11 fX0_11 cX1_11 fX1_11 cX2_11 fX2_11 cF2_11 fF2_11 cX0_12 fX0_12 cX1_12 fX1_12 cX2_12 fX2_12
        rintro e13 w13 ⟨rfl, g13⟩
        have rR_13 := row_kept pR12 g13
        have rC_13 := row_kept pC12 g13
        have rX_13 := row_kept pX12 g13
        have rF_13 := row_kept pF12 g13
        have rL_13 := row_kept pL12 g13
        have hb13 : Below R w w13 := hbp12.trans (g13.mono (by first | exact hbp12.size | (have := hbp12.size; omega)))
        have hx13 := hxp12.trans (Bt.of_below g13)
        have cX0_13 : w13.cell? ⟨X, 0, none⟩ = some (.string S) := by rw [cell_of_row _ X 0 _ _ _ rX_13]; rfl
        have fX0_13 : w13.frozen? ⟨X, 0, none⟩ = false := frozen_of_row _ X 0 _ _ rX_13
        have cX1_13 : w13.cell? ⟨X, 1, none⟩ = some (.int .i64 m2) := by rw [cell_of_row _ X 1 _ _ _ rX_13]; rfl
        have fX1_13 : w13.frozen? ⟨X, 1, none⟩ = false := frozen_of_row _ X 1 _ _ rX_13
        have cX2_13 : w13.cell? ⟨X, 2, none⟩ = some (.bool d2) := by rw [cell_of_row _ X 2 _ _ _ rX_13]; rfl
        have fX2_13 : w13.frozen? ⟨X, 2, none⟩ = false := frozen_of_row _ X 2 _ _ rX_13
        have cF3_13 : w13.cell? ⟨F, 3, none⟩ = some (.int .i64 0) := by rw [cell_of_row _ F 3 _ _ _ rF_13]; rfl
        have fF3_13 : w13.frozen? ⟨F, 3, none⟩ = false := frozen_of_row _ F 3 _ _ rF_13
        have cF4_13 : w13.cell? ⟨F, 4, none⟩ = some (.int .i64 0) := by rw [cell_of_row _ F 4 _ _ _ rF_13]; rfl
        have fF4_13 : w13.frozen? ⟨F, 4, none⟩ = false := frozen_of_row _ F 4 _ _ rF_13
        have cF5_13 : w13.cell? ⟨F, 5, none⟩ = some (.int .i64 0) := by rw [cell_of_row _ F 5 _ _ _ rF_13]; rfl
        have fF5_13 : w13.frozen? ⟨F, 5, none⟩ = false := frozen_of_row _ F 5 _ _ rF_13
        have cF6_13 : w13.cell? ⟨F, 6, none⟩ = some (.int .i64 0) := by rw [cell_of_row _ F 6 _ _ _ rF_13]; rfl
        have fF6_13 : w13.frozen? ⟨F, 6, none⟩ = false := frozen_of_row _ F 6 _ _ rF_13
        have cF7_13 : w13.cell? ⟨F, 7, none⟩ = some (.int .i64 0) := by rw [cell_of_row _ F 7 _ _ _ rF_13]; rfl
        have fF7_13 : w13.frozen? ⟨F, 7, none⟩ = false := frozen_of_row _ F 7 _ _ rF_13
        have cF8_13 : w13.cell? ⟨F, 8, none⟩ = some (.int .i64 0) := by rw [cell_of_row _ F 8 _ _ _ rF_13]; rfl
        have fF8_13 : w13.frozen? ⟨F, 8, none⟩ = false := frozen_of_row _ F 8 _ _ rF_13
        have t13 : Bt X w13 (((w13.setCell ⟨X, 0, none⟩ (.string S)).setCell ⟨X, 1, none⟩ (.int .i64 m3)).setCell ⟨X, 2, none⟩ (.bool d3)) := Bt.sets X [(.string S), (.int .i64 m3), (.bool d3)] 0 w13
        have pX13 : (((w13.setCell ⟨X, 0, none⟩ (.string S)).setCell ⟨X, 1, none⟩ (.int .i64 m3)).setCell ⟨X, 2, none⟩ (.bool d3)).heap[X]? = some (.cells #[.string S, .int .i64 m3, .bool d3] 52 (0, 0)) := cat_all (.string S) (.int .i64 m3) (.bool d3) rX_13
        have pR13 := t13.row (show R ≠ X by omega) rR_13
        have pC13 := t13.row (show C ≠ X by omega) rC_13
        have pF13 := t13.row (show F ≠ X by omega) rF_13
        have pL13 := t13.row (show L ≠ X by omega) rL_13
        have hbp13 : Below R w (((w13.setCell ⟨X, 0, none⟩ (.string S)).setCell ⟨X, 1, none⟩ (.int .i64 m3)).setCell ⟨X, 2, none⟩ (.bool d3)) := hb13.trans (t13.below (show R ≤ X by omega) (by have := hb13.size; omega))
        have hxp13 := hx13.trans t13
        have cF3_14 : (((w13.setCell ⟨X, 0, none⟩ (.string S)).setCell ⟨X, 1, none⟩ (.int .i64 m3)).setCell ⟨X, 2, none⟩ (.bool d3)).cell? ⟨F, 3, none⟩ = some (.int .i64 0) := by rw [cell_of_row _ F 3 _ _ _ pF13]; rfl
        have fF3_14 : (((w13.setCell ⟨X, 0, none⟩ (.string S)).setCell ⟨X, 1, none⟩ (.int .i64 m3)).setCell ⟨X, 2, none⟩ (.bool d3)).frozen? ⟨F, 3, none⟩ = false := frozen_of_row _ F 3 _ _ pF13
        have cF4_14 : (((w13.setCell ⟨X, 0, none⟩ (.string S)).setCell ⟨X, 1, none⟩ (.int .i64 m3)).setCell ⟨X, 2, none⟩ (.bool d3)).cell? ⟨F, 4, none⟩ = some (.int .i64 0) := by rw [cell_of_row _ F 4 _ _ _ pF13]; rfl
        have fF4_14 : (((w13.setCell ⟨X, 0, none⟩ (.string S)).setCell ⟨X, 1, none⟩ (.int .i64 m3)).setCell ⟨X, 2, none⟩ (.bool d3)).frozen? ⟨F, 4, none⟩ = false := frozen_of_row _ F 4 _ _ pF13
        have cF5_14 : (((w13.setCell ⟨X, 0, none⟩ (.string S)).setCell ⟨X, 1, none⟩ (.int .i64 m3)).setCell ⟨X, 2, none⟩ (.bool d3)).cell? ⟨F, 5, none⟩ = some (.int .i64 0) := by rw [cell_of_row _ F 5 _ _ _ pF13]; rfl
        have fF5_14 : (((w13.setCell ⟨X, 0, none⟩ (.string S)).setCell ⟨X, 1, none⟩ (.int .i64 m3)).setCell ⟨X, 2, none⟩ (.bool d3)).frozen? ⟨F, 5, none⟩ = false := frozen_of_row _ F 5 _ _ pF13
        have cF6_14 : (((w13.setCell ⟨X, 0, none⟩ (.string S)).setCell ⟨X, 1, none⟩ (.int .i64 m3)).setCell ⟨X, 2, none⟩ (.bool d3)).cell? ⟨F, 6, none⟩ = some (.int .i64 0) := by rw [cell_of_row _ F 6 _ _ _ pF13]; rfl
        have fF6_14 : (((w13.setCell ⟨X, 0, none⟩ (.string S)).setCell ⟨X, 1, none⟩ (.int .i64 m3)).setCell ⟨X, 2, none⟩ (.bool d3)).frozen? ⟨F, 6, none⟩ = false := frozen_of_row _ F 6 _ _ pF13
        have cF7_14 : (((w13.setCell ⟨X, 0, none⟩ (.string S)).setCell ⟨X, 1, none⟩ (.int .i64 m3)).setCell ⟨X, 2, none⟩ (.bool d3)).cell? ⟨F, 7, none⟩ = some (.int .i64 0) := by rw [cell_of_row _ F 7 _ _ _ pF13]; rfl
        have fF7_14 : (((w13.setCell ⟨X, 0, none⟩ (.string S)).setCell ⟨X, 1, none⟩ (.int .i64 m3)).setCell ⟨X, 2, none⟩ (.bool d3)).frozen? ⟨F, 7, none⟩ = false := frozen_of_row _ F 7 _ _ pF13
        have cF8_14 : (((w13.setCell ⟨X, 0, none⟩ (.string S)).setCell ⟨X, 1, none⟩ (.int .i64 m3)).setCell ⟨X, 2, none⟩ (.bool d3)).cell? ⟨F, 8, none⟩ = some (.int .i64 0) := by rw [cell_of_row _ F 8 _ _ _ pF13]; rfl
        have fF8_14 : (((w13.setCell ⟨X, 0, none⟩ (.string S)).setCell ⟨X, 1, none⟩ (.int .i64 m3)).setCell ⟨X, 2, none⟩ (.bool d3)).frozen? ⟨F, 8, none⟩ = false := frozen_of_row _ F 8 _ _ pF13
        have t14 : Bt F (((w13.setCell ⟨X, 0, none⟩ (.string S)).setCell ⟨X, 1, none⟩ (.int .i64 m3)).setCell ⟨X, 2, none⟩ (.bool d3)) (((((((((w13.setCell ⟨X, 0, none⟩ (.string S)).setCell ⟨X, 1, none⟩ (.int .i64 m3)).setCell ⟨X, 2, none⟩ (.bool d3)).setCell ⟨F, 3, none⟩ (.int .i64 a1)).setCell ⟨F, 4, none⟩ (.int .i64 a2)).setCell ⟨F, 5, none⟩ (.int .i64 a3)).setCell ⟨F, 6, none⟩ (.int .i64 a4)).setCell ⟨F, 7, none⟩ (.int .i64 a5)).setCell ⟨F, 8, none⟩ (.int .i64 a6)) := Bt.sets F [(.int .i64 a1), (.int .i64 a2), (.int .i64 a3), (.int .i64 a4), (.int .i64 a5), (.int .i64 a6)] 3 (((w13.setCell ⟨X, 0, none⟩ (.string S)).setCell ⟨X, 1, none⟩ (.int .i64 m3)).setCell ⟨X, 2, none⟩ (.bool d3))
        have pF14 : (((((((((w13.setCell ⟨X, 0, none⟩ (.string S)).setCell ⟨X, 1, none⟩ (.int .i64 m3)).setCell ⟨X, 2, none⟩ (.bool d3)).setCell ⟨F, 3, none⟩ (.int .i64 a1)).setCell ⟨F, 4, none⟩ (.int .i64 a2)).setCell ⟨F, 5, none⟩ (.int .i64 a3)).setCell ⟨F, 6, none⟩ (.int .i64 a4)).setCell ⟨F, 7, none⟩ (.int .i64 a5)).setCell ⟨F, 8, none⟩ (.int .i64 a6)).heap[F]? = some (.cells #[.string s, .int .i64 n1, .int .i64 (n2 + 1), .int .i64 a1, .int .i64 a2, .int .i64 a3, .int .i64 a4, .int .i64 a5, .int .i64 a6] 43 (0, 0)) := itm_anc (.int .i64 a1) (.int .i64 a2) (.int .i64 a3) (.int .i64 a4) (.int .i64 a5) (.int .i64 a6) pF13
        have pR14 := t14.row (show R ≠ F by omega) pR13
        have pC14 := t14.row (show C ≠ F by omega) pC13
        have pX14 := t14.row (show X ≠ F by omega) pX13
        have pL14 := t14.row (show L ≠ F by omega) pL13
        have hbp14 : Below R w (((((((((w13.setCell ⟨X, 0, none⟩ (.string S)).setCell ⟨X, 1, none⟩ (.int .i64 m3)).setCell ⟨X, 2, none⟩ (.bool d3)).setCell ⟨F, 3, none⟩ (.int .i64 a1)).setCell ⟨F, 4, none⟩ (.int .i64 a2)).setCell ⟨F, 5, none⟩ (.int .i64 a3)).setCell ⟨F, 6, none⟩ (.int .i64 a4)).setCell ⟨F, 7, none⟩ (.int .i64 a5)).setCell ⟨F, 8, none⟩ (.int .i64 a6)) := hbp13.trans (t14.below (show R ≤ F by omega) (by have := hbp13.size; omega))
        have hxp14 := hxp13.over t14 (show wr.heap.size ≤ F by omega)
        have hCe : CR S R C X w free vS vF ls lf ⟨m3, d3⟩ _ := hC.to hR lR lC pX14 hxp14
        have cF0_15 : (((((((((w13.setCell ⟨X, 0, none⟩ (.string S)).setCell ⟨X, 1, none⟩ (.int .i64 m3)).setCell ⟨X, 2, none⟩ (.bool d3)).setCell ⟨F, 3, none⟩ (.int .i64 a1)).setCell ⟨F, 4, none⟩ (.int .i64 a2)).setCell ⟨F, 5, none⟩ (.int .i64 a3)).setCell ⟨F, 6, none⟩ (.int .i64 a4)).setCell ⟨F, 7, none⟩ (.int .i64 a5)).setCell ⟨F, 8, none⟩ (.int .i64 a6)).cell? ⟨F, 0, none⟩ = some (.string s) := by rw [cell_of_row _ F 0 _ _ _ pF14]; rfl
        have cF1_15 : (((((((((w13.setCell ⟨X, 0, none⟩ (.string S)).setCell ⟨X, 1, none⟩ (.int .i64 m3)).setCell ⟨X, 2, none⟩ (.bool d3)).setCell ⟨F, 3, none⟩ (.int .i64 a1)).setCell ⟨F, 4, none⟩ (.int .i64 a2)).setCell ⟨F, 5, none⟩ (.int .i64 a3)).setCell ⟨F, 6, none⟩ (.int .i64 a4)).setCell ⟨F, 7, none⟩ (.int .i64 a5)).setCell ⟨F, 8, none⟩ (.int .i64 a6)).cell? ⟨F, 1, none⟩ = some (.int .i64 n1) := by rw [cell_of_row _ F 1 _ _ _ pF14]; rfl
        have cF2_15 : (((((((((w13.setCell ⟨X, 0, none⟩ (.string S)).setCell ⟨X, 1, none⟩ (.int .i64 m3)).setCell ⟨X, 2, none⟩ (.bool d3)).setCell ⟨F, 3, none⟩ (.int .i64 a1)).setCell ⟨F, 4, none⟩ (.int .i64 a2)).setCell ⟨F, 5, none⟩ (.int .i64 a3)).setCell ⟨F, 6, none⟩ (.int .i64 a4)).setCell ⟨F, 7, none⟩ (.int .i64 a5)).setCell ⟨F, 8, none⟩ (.int .i64 a6)).cell? ⟨F, 2, none⟩ = some (.int .i64 (n2 + 1)) := by rw [cell_of_row _ F 2 _ _ _ pF14]; rfl
        have cF3_15 : (((((((((w13.setCell ⟨X, 0, none⟩ (.string S)).setCell ⟨X, 1, none⟩ (.int .i64 m3)).setCell ⟨X, 2, none⟩ (.bool d3)).setCell ⟨F, 3, none⟩ (.int .i64 a1)).setCell ⟨F, 4, none⟩ (.int .i64 a2)).setCell ⟨F, 5, none⟩ (.int .i64 a3)).setCell ⟨F, 6, none⟩ (.int .i64 a4)).setCell ⟨F, 7, none⟩ (.int .i64 a5)).setCell ⟨F, 8, none⟩ (.int .i64 a6)).cell? ⟨F, 3, none⟩ = some (.int .i64 a1) := by rw [cell_of_row _ F 3 _ _ _ pF14]; rfl
        have cF4_15 : (((((((((w13.setCell ⟨X, 0, none⟩ (.string S)).setCell ⟨X, 1, none⟩ (.int .i64 m3)).setCell ⟨X, 2, none⟩ (.bool d3)).setCell ⟨F, 3, none⟩ (.int .i64 a1)).setCell ⟨F, 4, none⟩ (.int .i64 a2)).setCell ⟨F, 5, none⟩ (.int .i64 a3)).setCell ⟨F, 6, none⟩ (.int .i64 a4)).setCell ⟨F, 7, none⟩ (.int .i64 a5)).setCell ⟨F, 8, none⟩ (.int .i64 a6)).cell? ⟨F, 4, none⟩ = some (.int .i64 a2) := by rw [cell_of_row _ F 4 _ _ _ pF14]; rfl
        have cF5_15 : (((((((((w13.setCell ⟨X, 0, none⟩ (.string S)).setCell ⟨X, 1, none⟩ (.int .i64 m3)).setCell ⟨X, 2, none⟩ (.bool d3)).setCell ⟨F, 3, none⟩ (.int .i64 a1)).setCell ⟨F, 4, none⟩ (.int .i64 a2)).setCell ⟨F, 5, none⟩ (.int .i64 a3)).setCell ⟨F, 6, none⟩ (.int .i64 a4)).setCell ⟨F, 7, none⟩ (.int .i64 a5)).setCell ⟨F, 8, none⟩ (.int .i64 a6)).cell? ⟨F, 5, none⟩ = some (.int .i64 a3) := by rw [cell_of_row _ F 5 _ _ _ pF14]; rfl
        have cF6_15 : (((((((((w13.setCell ⟨X, 0, none⟩ (.string S)).setCell ⟨X, 1, none⟩ (.int .i64 m3)).setCell ⟨X, 2, none⟩ (.bool d3)).setCell ⟨F, 3, none⟩ (.int .i64 a1)).setCell ⟨F, 4, none⟩ (.int .i64 a2)).setCell ⟨F, 5, none⟩ (.int .i64 a3)).setCell ⟨F, 6, none⟩ (.int .i64 a4)).setCell ⟨F, 7, none⟩ (.int .i64 a5)).setCell ⟨F, 8, none⟩ (.int .i64 a6)).cell? ⟨F, 6, none⟩ = some (.int .i64 a4) := by rw [cell_of_row _ F 6 _ _ _ pF14]; rfl
        have cF7_15 : (((((((((w13.setCell ⟨X, 0, none⟩ (.string S)).setCell ⟨X, 1, none⟩ (.int .i64 m3)).setCell ⟨X, 2, none⟩ (.bool d3)).setCell ⟨F, 3, none⟩ (.int .i64 a1)).setCell ⟨F, 4, none⟩ (.int .i64 a2)).setCell ⟨F, 5, none⟩ (.int .i64 a3)).setCell ⟨F, 6, none⟩ (.int .i64 a4)).setCell ⟨F, 7, none⟩ (.int .i64 a5)).setCell ⟨F, 8, none⟩ (.int .i64 a6)).cell? ⟨F, 7, none⟩ = some (.int .i64 a5) := by rw [cell_of_row _ F 7 _ _ _ pF14]; rfl
        have cF8_15 : (((((((((w13.setCell ⟨X, 0, none⟩ (.string S)).setCell ⟨X, 1, none⟩ (.int .i64 m3)).setCell ⟨X, 2, none⟩ (.bool d3)).setCell ⟨F, 3, none⟩ (.int .i64 a1)).setCell ⟨F, 4, none⟩ (.int .i64 a2)).setCell ⟨F, 5, none⟩ (.int .i64 a3)).setCell ⟨F, 6, none⟩ (.int .i64 a4)).setCell ⟨F, 7, none⟩ (.int .i64 a5)).setCell ⟨F, 8, none⟩ (.int .i64 a6)).cell? ⟨F, 8, none⟩ = some (.int .i64 a6) := by rw [cell_of_row _ F 8 _ _ _ pF14]; rfl
        have cC0_15 : (((((((((w13.setCell ⟨X, 0, none⟩ (.string S)).setCell ⟨X, 1, none⟩ (.int .i64 m3)).setCell ⟨X, 2, none⟩ (.bool d3)).setCell ⟨F, 3, none⟩ (.int .i64 a1)).setCell ⟨F, 4, none⟩ (.int .i64 a2)).setCell ⟨F, 5, none⟩ (.int .i64 a3)).setCell ⟨F, 6, none⟩ (.int .i64 a4)).setCell ⟨F, 7, none⟩ (.int .i64 a5)).setCell ⟨F, 8, none⟩ (.int .i64 a6)).cell? ⟨C, 0, none⟩ = some (.int .i64 free) := by rw [cell_of_row _ C 0 _ _ _ pC14]; rfl
        have fC0_15 : (((((((((w13.setCell ⟨X, 0, none⟩ (.string S)).setCell ⟨X, 1, none⟩ (.int .i64 m3)).setCell ⟨X, 2, none⟩ (.bool d3)).setCell ⟨F, 3, none⟩ (.int .i64 a1)).setCell ⟨F, 4, none⟩ (.int .i64 a2)).setCell ⟨F, 5, none⟩ (.int .i64 a3)).setCell ⟨F, 6, none⟩ (.int .i64 a4)).setCell ⟨F, 7, none⟩ (.int .i64 a5)).setCell ⟨F, 8, none⟩ (.int .i64 a6)).frozen? ⟨C, 0, none⟩ = false := frozen_of_row _ C 0 _ _ pC14
        have cC1_15 : (((((((((w13.setCell ⟨X, 0, none⟩ (.string S)).setCell ⟨X, 1, none⟩ (.int .i64 m3)).setCell ⟨X, 2, none⟩ (.bool d3)).setCell ⟨F, 3, none⟩ (.int .i64 a1)).setCell ⟨F, 4, none⟩ (.int .i64 a2)).setCell ⟨F, 5, none⟩ (.int .i64 a3)).setCell ⟨F, 6, none⟩ (.int .i64 a4)).setCell ⟨F, 7, none⟩ (.int .i64 a5)).setCell ⟨F, 8, none⟩ (.int .i64 a6)).cell? ⟨C, 1, none⟩ = some (vS) := by rw [cell_of_row _ C 1 _ _ _ pC14]; rfl
        have fC1_15 : (((((((((w13.setCell ⟨X, 0, none⟩ (.string S)).setCell ⟨X, 1, none⟩ (.int .i64 m3)).setCell ⟨X, 2, none⟩ (.bool d3)).setCell ⟨F, 3, none⟩ (.int .i64 a1)).setCell ⟨F, 4, none⟩ (.int .i64 a2)).setCell ⟨F, 5, none⟩ (.int .i64 a3)).setCell ⟨F, 6, none⟩ (.int .i64 a4)).setCell ⟨F, 7, none⟩ (.int .i64 a5)).setCell ⟨F, 8, none⟩ (.int .i64 a6)).frozen? ⟨C, 1, none⟩ = false := frozen_of_row _ C 1 _ _ pC14
        have cC2_15 : (((((((((w13.setCell ⟨X, 0, none⟩ (.string S)).setCell ⟨X, 1, none⟩ (.int .i64 m3)).setCell ⟨X, 2, none⟩ (.bool d3)).setCell ⟨F, 3, none⟩ (.int .i64 a1)).setCell ⟨F, 4, none⟩ (.int .i64 a2)).setCell ⟨F, 5, none⟩ (.int .i64 a3)).setCell ⟨F, 6, none⟩ (.int .i64 a4)).setCell ⟨F, 7, none⟩ (.int .i64 a5)).setCell ⟨F, 8, none⟩ (.int .i64 a6)).cell? ⟨C, 2, none⟩ = some (vF) := by rw [cell_of_row _ C 2 _ _ _ pC14]; rfl
        have fC2_15 : (((((((((w13.setCell ⟨X, 0, none⟩ (.string S)).setCell ⟨X, 1, none⟩ (.int .i64 m3)).setCell ⟨X, 2, none⟩ (.bool d3)).setCell ⟨F, 3, none⟩ (.int .i64 a1)).setCell ⟨F, 4, none⟩ (.int .i64 a2)).setCell ⟨F, 5, none⟩ (.int .i64 a3)).setCell ⟨F, 6, none⟩ (.int .i64 a4)).setCell ⟨F, 7, none⟩ (.int .i64 a5)).setCell ⟨F, 8, none⟩ (.int .i64 a6)).frozen? ⟨C, 2, none⟩ = false := frozen_of_row _ C 2 _ _ pC14
        have hLr : ((((((((((w13.setCell ⟨X, 0, none⟩ (.string S)).setCell ⟨X, 1, none⟩ (.int .i64 m3)).setCell ⟨X, 2, none⟩ (.bool d3)).setCell ⟨F, 3, none⟩ (.int .i64 a1)).setCell ⟨F, 4, none⟩ (.int .i64 a2)).setCell ⟨F, 5, none⟩ (.int .i64 a3)).setCell ⟨F, 6, none⟩ (.int .i64 a4)).setCell ⟨F, 7, none⟩ (.int .i64 a5)).setCell ⟨F, 8, none⟩ (.int .i64 a6))).heap[L]? = some (lRow false) := pL14
        have C3 := Lib.hid (hCe.below (al1 _ (.cells #[.string s, .int .i64 n1, .int .i64 (n2 + 1), .int .i64 a1, .int .i64 a2, .int .i64 a3, .int .i64 a4, .int .i64 a5, .int .i64 a6] 43)))
        have L3 := Lib.hid (row_kept hLr (al1 _ (.cells #[.string s, .int .i64 n1, .int .i64 (n2 + 1), .int .i64 a1, .int .i64 a2, .int .i64 a3, .int .i64 a4, .int .i64 a5, .int .i64 a6] 43)))
        have NW := Lib.hid (World.news_of_block (show ((((((((((w13.setCell ⟨X, 0, none⟩ (.string S)).setCell ⟨X, 1, none⟩ (.int .i64 m3)).setCell ⟨X, 2, none⟩ (.bool d3)).setCell ⟨F, 3, none⟩ (.int .i64 a1)).setCell ⟨F, 4, none⟩ (.int .i64 a2)).setCell ⟨F, 5, none⟩ (.int .i64 a3)).setCell ⟨F, 6, none⟩ (.int .i64 a4)).setCell ⟨F, 7, none⟩ (.int .i64 a5)).setCell ⟨F, 8, none⟩ (.int .i64 a6)).alloc (.cells #[.string s, .int .i64 n1, .int .i64 (n2 + 1), .int .i64 a1, .int .i64 a2, .int .i64 a3, .int .i64 a4, .int .i64 a5, .int .i64 a6] 43)).heap[w13.heap.size]? = some (.cells #[.string s, .int .i64 n1, .int .i64 (n2 + 1), .int .i64 a1, .int .i64 a2, .int .i64 a3, .int .i64 a4, .int .i64 a5, .int .i64 a6] 43 (0, 0)) by have h := heap_alloc_new (((((((((w13.setCell ⟨X, 0, none⟩ (.string S)).setCell ⟨X, 1, none⟩ (.int .i64 m3)).setCell ⟨X, 2, none⟩ (.bool d3)).setCell ⟨F, 3, none⟩ (.int .i64 a1)).setCell ⟨F, 4, none⟩ (.int .i64 a2)).setCell ⟨F, 5, none⟩ (.int .i64 a3)).setCell ⟨F, 6, none⟩ (.int .i64 a4)).setCell ⟨F, 7, none⟩ (.int .i64 a5)).setCell ⟨F, 8, none⟩ (.int .i64 a6)) (.cells #[.string s, .int .i64 n1, .int .i64 (n2 + 1), .int .i64 a1, .int .i64 a2, .int .i64 a3, .int .i64 a4, .int .i64 a5, .int .i64 a6] 43); rwa [show (((((((((w13.setCell ⟨X, 0, none⟩ (.string S)).setCell ⟨X, 1, none⟩ (.int .i64 m3)).setCell ⟨X, 2, none⟩ (.bool d3)).setCell ⟨F, 3, none⟩ (.int .i64 a1)).setCell ⟨F, 4, none⟩ (.int .i64 a2)).setCell ⟨F, 5, none⟩ (.int .i64 a3)).setCell ⟨F, 6, none⟩ (.int .i64 a4)).setCell ⟨F, 7, none⟩ (.int .i64 a5)).setCell ⟨F, 8, none⟩ (.int .i64 a6)).heap.size = w13.heap.size by simp] at h))
        have hgLx : X + 1 ≤ L := by omega
        have ADD := Lib.hid (fun (wz : World) (vN : Value) (hown : wz.ownsRow (X + 1) 43 9 vN (lf.length + 1) (flat9 lf ++ flat9 [⟨s, n1, (n2 + 1), a1, a2, a3, a4, a5, a6⟩])) (hg : _ ) => C3.out.addf (wz := wz) (vN := vN) (t := ⟨s, n1, (n2 + 1), a1, a2, a3, a4, a5, a6⟩) hR lR lC hown hg)
        go_wp2_with (at_builtin; refine wpList_append_lies _ rfl _ _ 24 rfl (X + 1) 43 iF (.agg #[.string ⟨#[]⟩, .int .i64 0, .int .i64 0, .int .i64 0, .int .i64 0, .int .i64 0, .int .i64 0, .int .i64 0, .int .i64 0]) 9 80 Tryz.underlying24 hiF hF0 hF1 hF2 rfl (by decide) vF lf.length (flat9 lf) rfl C3.out.of ⟨w13.heap.size, 0, none⟩ 1 1 (flat9 [⟨s, n1, (n2 + 1), a1, a2, a3, a4, a5, a6⟩]) rfl rfl NW.out (flat9_one [⟨s, n1, (n2 + 1), a1, a2, a3, a4, a5, a6⟩]) (by decide) (by have := HR.out.2.2.2.2.2.1; have := hN; unfold maxLen; omega) (by have := HR.out.2.2.2.2.2.1; have := hN; omega) C3.out.z _ rfl ?_; intro gg cc wz hown hgrow _ _; have L4 := Lib.hid (lrow_grown L3.out C3.out.of (by decide) hgrow); obtain ⟨C4, zq⟩ := ADD.out _ _ hown hgrow; obtain ⟨r0, r1, r2, f0, f1, f2, rz⟩ := row3 zq; have C5 := Lib.hid C4; clear hown hgrow C4 zq)
        go_roundw
        case rel => exact ⟨false, L, ⟨m3, d3⟩, vS, _, ls, lf ++ [⟨s, n1, (n2 + 1), a1, a2, a3, a4, a5, a6⟩], n, rfl, Lib.hid ⟨C5.out, (Bt.set C _ 2 _).row (by omega) L4.out, hgLx, hkk.out, by have h1 := hms.out; have h2 := HR.out.2.2.2.2.1; omega, by have := HR.out.2.2.2.2.2.1; rw [List.length_append]; simp only [List.length_cons, List.length_nil]; omega, hM2.out⟩⟩
        case measure => rw [msW_st C5.out.x, msW_st hC.x]; exact hms.out
      · skip
        obtain ⟨rfl, hlt⟩ := hhit (by omega)
        replace hst := Lib.hid (show Calls Tryz.prog 20 #[sv S yk false, .slice (some ⟨g, 0, none⟩) (lBt t).length (lBt t).length] wr fun e w' => e = .returned (.tuple #[sv S k4 false, .int .i64 2]) ∧ Below wr.heap.size wr w' from hst)
        replace hstep : rGo n t (ls ++ [(rSea S ⟨k4, false⟩).1]) lf S (rSea S ⟨k4, false⟩).2 = M := hstep
        have hc0 := fun (u : World) => HI.out u ⟨k4, false⟩ hle
        have hl0 := (gd_rId).le S ⟨k4, false⟩ hle |>.2
        have hu0 := (gd_rId).le S ⟨k4, false⟩ hle |>.1
        generalize hq0 : rId S ⟨k4, false⟩ = q0 at *
        obtain ⟨s, ⟨m0, d0⟩⟩ := q0
        have hc1 := fun (u : World) => HN.out u ⟨m0, d0⟩ hl0
        have hl1 := (gd_rNu).le S ⟨m0, d0⟩ hl0 |>.2
        have hu1 := (gd_rNu).le S ⟨m0, d0⟩ hl0 |>.1
        generalize hq1 : rNu S ⟨m0, d0⟩ = q1 at *
        obtain ⟨n1, ⟨m1, d1⟩⟩ := q1
        have hc2 := fun (u : World) => HN.out u ⟨m1, d1⟩ hl1
        have hl2 := (gd_rNu).le S ⟨m1, d1⟩ hl1 |>.2
        have hu2 := (gd_rNu).le S ⟨m1, d1⟩ hl1 |>.1
        generalize hq2 : rNu S ⟨m1, d1⟩ = q2 at *
        obtain ⟨n2, ⟨m2, d2⟩⟩ := q2
        have hc3 := fun (u : World) => HA.out u ⟨m2, d2⟩ hl2
        have hl3 := (gd_rAn).le S ⟨m2, d2⟩ hl2 |>.2
        have hu3 := (gd_rAn).le S ⟨m2, d2⟩ hl2 |>.1
        generalize hq3 : rAn S ⟨m2, d2⟩ = q3 at *
        obtain ⟨an, ⟨m3, d3⟩⟩ := q3
        obtain ⟨a1, a2, a3, a4, a5, a6⟩ := an
        have hpf : rSea S ⟨k4, false⟩ = (mkI s n1 n2 ⟨a1, a2, a3, a4, a5, a6⟩, ⟨m3, d3⟩) := by
          unfold rSea yB
          simp only [hq0, hq1, hq2, hq3]
          rfl
        rw [hpf] at hstep
        have hM2 := Lib.hid (show rGo n t (ls ++ [⟨s, n1, n2, a1, a2, a3, a4, a5, a6⟩]) lf S ⟨m3, d3⟩ = M from hstep)
        have hms := Lib.hid (msr_lt (S := S) (k := yk) (b' := d3) (show yk ≤ m3 from by have h0 : k4 ≤ m0 := hu0; have h1 : m0 ≤ m1 := hu1; have h2 : m1 ≤ m2 := hu2; have h3 : m2 ≤ m3 := hu3; omega) hl3 (.inr (by have h0 : k4 ≤ m0 := hu0; have h1 : m0 ≤ m1 := hu1; have h2 : m1 ≤ m2 := hu2; have h3 : m2 ≤ m3 := hu3; omega)))
        have hkk := Lib.hid hl3
        have hc0 := Lib.hid hc0
        have hc1 := Lib.hid hc1
        have hc2 := Lib.hid hc2
        have hc3 := Lib.hid hc3
        have lz := hC.z
        have hgX := HR.out.2.2.1
        have hgl2 := row_lt HR.out.2.1
        clear hpf hstep hhit hmiss hlt hu0 hu1 hu2 hu3 hl0 hl1 hl2 hl3 hle hq0 hq1 hq2 hq3
        have hx0 := Bt.refl X wr
        have cX0_0 : wr.cell? ⟨X, 0, none⟩ = some (.string S) := by rw [cell_of_row _ X 0 _ _ _ hC.x]; rfl
        have fX0_0 : wr.frozen? ⟨X, 0, none⟩ = false := frozen_of_row _ X 0 _ _ hC.x
        have cX1_0 : wr.cell? ⟨X, 1, none⟩ = some (.int .i64 yk) := by rw [cell_of_row _ X 1 _ _ _ hC.x]; rfl
        have fX1_0 : wr.frozen? ⟨X, 1, none⟩ = false := frozen_of_row _ X 1 _ _ hC.x
        have cX2_0 : wr.cell? ⟨X, 2, none⟩ = some (.bool false) := by rw [cell_of_row _ X 2 _ _ _ hC.x]; rfl
        have fX2_0 : wr.frozen? ⟨X, 2, none⟩ = false := frozen_of_row _ X 2 _ _ hC.x
        go_wp2_with fail
        refine hst.out.mono ?_
        clear cX0_0 fX0_0 cX1_0 fX1_0 cX2_0 fX2_0
        rintro e1 w1 ⟨rfl, g1⟩
        have rR_1 := row_kept hC.r g1
        have rC_1 := row_kept hC.c g1
        have rX_1 := row_kept hC.x g1
        have rg_1 := row_kept HR.out.2.1 g1
        have hb1 : Below R w w1 := hbl.trans (g1.mono (by first | exact hbl.size | (have := hbl.size; omega)))
        have hx1 := hx0.trans (Bt.of_below g1)
        have cX0_1 : w1.cell? ⟨X, 0, none⟩ = some (.string S) := by rw [cell_of_row _ X 0 _ _ _ rX_1]; rfl
        have fX0_1 : w1.frozen? ⟨X, 0, none⟩ = false := frozen_of_row _ X 0 _ _ rX_1
        have cX1_1 : w1.cell? ⟨X, 1, none⟩ = some (.int .i64 yk) := by rw [cell_of_row _ X 1 _ _ _ rX_1]; rfl
        have fX1_1 : w1.frozen? ⟨X, 1, none⟩ = false := frozen_of_row _ X 1 _ _ rX_1
        have cX2_1 : w1.cell? ⟨X, 2, none⟩ = some (.bool false) := by rw [cell_of_row _ X 2 _ _ _ rX_1]; rfl
        have fX2_1 : w1.frozen? ⟨X, 2, none⟩ = false := frozen_of_row _ X 2 _ _ rX_1
        have t1 : Bt X w1 (((w1.setCell ⟨X, 0, none⟩ (.string S)).setCell ⟨X, 1, none⟩ (.int .i64 k4)).setCell ⟨X, 2, none⟩ (.bool false)) := Bt.sets X [(.string S), (.int .i64 k4), (.bool false)] 0 w1
        have pX1 : (((w1.setCell ⟨X, 0, none⟩ (.string S)).setCell ⟨X, 1, none⟩ (.int .i64 k4)).setCell ⟨X, 2, none⟩ (.bool false)).heap[X]? = some (.cells #[.string S, .int .i64 k4, .bool false] 52 (0, 0)) := cat_all (.string S) (.int .i64 k4) (.bool false) rX_1
        have pR1 := t1.row (show R ≠ X by omega) rR_1
        have pC1 := t1.row (show C ≠ X by omega) rC_1
        have pg1 := t1.row (show g ≠ X by omega) rg_1
        have hbp1 : Below R w (((w1.setCell ⟨X, 0, none⟩ (.string S)).setCell ⟨X, 1, none⟩ (.int .i64 k4)).setCell ⟨X, 2, none⟩ (.bool false)) := hb1.trans (t1.below (show R ≤ X by omega) (by have := hb1.size; omega))
        have hxp1 := hx1.trans t1
        have cX0_2 : (((w1.setCell ⟨X, 0, none⟩ (.string S)).setCell ⟨X, 1, none⟩ (.int .i64 k4)).setCell ⟨X, 2, none⟩ (.bool false)).cell? ⟨X, 0, none⟩ = some (.string S) := by rw [cell_of_row _ X 0 _ _ _ pX1]; rfl
        have fX0_2 : (((w1.setCell ⟨X, 0, none⟩ (.string S)).setCell ⟨X, 1, none⟩ (.int .i64 k4)).setCell ⟨X, 2, none⟩ (.bool false)).frozen? ⟨X, 0, none⟩ = false := frozen_of_row _ X 0 _ _ pX1
        have cX1_2 : (((w1.setCell ⟨X, 0, none⟩ (.string S)).setCell ⟨X, 1, none⟩ (.int .i64 k4)).setCell ⟨X, 2, none⟩ (.bool false)).cell? ⟨X, 1, none⟩ = some (.int .i64 k4) := by rw [cell_of_row _ X 1 _ _ _ pX1]; rfl
        have fX1_2 : (((w1.setCell ⟨X, 0, none⟩ (.string S)).setCell ⟨X, 1, none⟩ (.int .i64 k4)).setCell ⟨X, 2, none⟩ (.bool false)).frozen? ⟨X, 1, none⟩ = false := frozen_of_row _ X 1 _ _ pX1
        have cX2_2 : (((w1.setCell ⟨X, 0, none⟩ (.string S)).setCell ⟨X, 1, none⟩ (.int .i64 k4)).setCell ⟨X, 2, none⟩ (.bool false)).cell? ⟨X, 2, none⟩ = some (.bool false) := by rw [cell_of_row _ X 2 _ _ _ pX1]; rfl
        have fX2_2 : (((w1.setCell ⟨X, 0, none⟩ (.string S)).setCell ⟨X, 1, none⟩ (.int .i64 k4)).setCell ⟨X, 2, none⟩ (.bool false)).frozen? ⟨X, 2, none⟩ = false := frozen_of_row _ X 2 _ _ pX1
        have cy0 : ((((w1.setCell ⟨X, 0, none⟩ (.string S)).setCell ⟨X, 1, none⟩ (.int .i64 k4)).setCell ⟨X, 2, none⟩ (.bool false)).alloc (.cells #[.string ⟨#[]⟩, .int .i64 0, .int .i64 0, .int .i64 0, .int .i64 0, .int .i64 0, .int .i64 0, .int .i64 0, .int .i64 0] 41)).cell? ⟨X, 0, none⟩ = some (.string S) := by rw [cell_of_row _ X 0 _ _ _ (row_kept pX1 (al1 _ _))]; rfl
        have cy1 : ((((w1.setCell ⟨X, 0, none⟩ (.string S)).setCell ⟨X, 1, none⟩ (.int .i64 k4)).setCell ⟨X, 2, none⟩ (.bool false)).alloc (.cells #[.string ⟨#[]⟩, .int .i64 0, .int .i64 0, .int .i64 0, .int .i64 0, .int .i64 0, .int .i64 0, .int .i64 0, .int .i64 0] 41)).cell? ⟨X, 1, none⟩ = some (.int .i64 k4) := by rw [cell_of_row _ X 1 _ _ _ (row_kept pX1 (al1 _ _))]; rfl
        have cy2 : ((((w1.setCell ⟨X, 0, none⟩ (.string S)).setCell ⟨X, 1, none⟩ (.int .i64 k4)).setCell ⟨X, 2, none⟩ (.bool false)).alloc (.cells #[.string ⟨#[]⟩, .int .i64 0, .int .i64 0, .int .i64 0, .int .i64 0, .int .i64 0, .int .i64 0, .int .i64 0, .int .i64 0] 41)).cell? ⟨X, 2, none⟩ = some (.bool false) := by rw [cell_of_row _ X 2 _ _ _ (row_kept pX1 (al1 _ _))]; rfl
        go_wp2_with fail
        clear cX0_1 fX0_1 cX1_1 fX1_1 cX2_1 fX2_1 cX0_2 fX0_2 cX1_2 fX1_2 cX2_2 fX2_2 cy0 cy1 cy2
        obtain ⟨v2, hv2⟩ : ∃ v, v = (((w1.setCell ⟨X, 0, none⟩ (.string S)).setCell ⟨X, 1, none⟩ (.int .i64 k4)).setCell ⟨X, 2, none⟩ (.bool false)) := ⟨_, rfl⟩
        have hz2 : w1.heap.size = v2.heap.size := by rw [hv2]; simp
        rw [← hv2, hz2]
        rw [← hv2] at pR1 pC1 pX1 pg1 hbp1 hxp1
        clear hz2 hv2
        have lF : wr.heap.size ≤ v2.heap.size := hxp1.size
        have aR3 := row_kept pR1 (al1 (v2) (.cells #[.string ⟨#[]⟩, .int .i64 0, .int .i64 0, .int .i64 0, .int .i64 0, .int .i64 0, .int .i64 0, .int .i64 0, .int .i64 0] 41))
        have aC3 := row_kept pC1 (al1 (v2) (.cells #[.string ⟨#[]⟩, .int .i64 0, .int .i64 0, .int .i64 0, .int .i64 0, .int .i64 0, .int .i64 0, .int .i64 0, .int .i64 0] 41))
        have aX3 := row_kept pX1 (al1 (v2) (.cells #[.string ⟨#[]⟩, .int .i64 0, .int .i64 0, .int .i64 0, .int .i64 0, .int .i64 0, .int .i64 0, .int .i64 0, .int .i64 0] 41))
        have ag3 := row_kept pg1 (al1 (v2) (.cells #[.string ⟨#[]⟩, .int .i64 0, .int .i64 0, .int .i64 0, .int .i64 0, .int .i64 0, .int .i64 0, .int .i64 0, .int .i64 0] 41))
        have aF3 : (v2.alloc (.cells #[.string ⟨#[]⟩, .int .i64 0, .int .i64 0, .int .i64 0, .int .i64 0, .int .i64 0, .int .i64 0, .int .i64 0, .int .i64 0] 41)).heap[v2.heap.size]? = some (.cells #[.string ⟨#[]⟩, .int .i64 0, .int .i64 0, .int .i64 0, .int .i64 0, .int .i64 0, .int .i64 0, .int .i64 0, .int .i64 0] 41 (0, 0)) := heap_alloc_new _ _
        have hba3 := hbp1.alloc (by have := hbp1.size; omega) (.cells #[.string ⟨#[]⟩, .int .i64 0, .int .i64 0, .int .i64 0, .int .i64 0, .int .i64 0, .int .i64 0, .int .i64 0, .int .i64 0] 41)
        have hxa3 := hxp1.trans (Bt.al X v2 (.cells #[.string ⟨#[]⟩, .int .i64 0, .int .i64 0, .int .i64 0, .int .i64 0, .int .i64 0, .int .i64 0, .int .i64 0, .int .i64 0] 41))
        obtain ⟨uu, huu⟩ : ∃ z, z = (v2.alloc (.cells #[.string ⟨#[]⟩, .int .i64 0, .int .i64 0, .int .i64 0, .int .i64 0, .int .i64 0, .int .i64 0, .int .i64 0, .int .i64 0] 41)) := ⟨_, rfl⟩
        rw [← huu] at aR3 aC3 aX3 ag3 aF3 hba3 hxa3 ⊢
        clear huu
        generalize hF : v2.heap.size = F at *
        refine (hc0.out uu).mono ?_
        rintro e3 w3 ⟨rfl, g3⟩
        have rR_3 := row_kept aR3 g3
        have rC_3 := row_kept aC3 g3
        have rX_3 := row_kept aX3 g3
        have rg_3 := row_kept ag3 g3
        have rF_3 := row_kept aF3 g3
        have hb3 : Below R w w3 := hba3.trans (g3.mono (by first | exact hba3.size | (have := hba3.size; omega)))
        have hx3 := hxa3.trans (Bt.of_below g3)
        have cX0_3 : w3.cell? ⟨X, 0, none⟩ = some (.string S) := by rw [cell_of_row _ X 0 _ _ _ rX_3]; rfl
        have fX0_3 : w3.frozen? ⟨X, 0, none⟩ = false := frozen_of_row _ X 0 _ _ rX_3
        have cX1_3 : w3.cell? ⟨X, 1, none⟩ = some (.int .i64 k4) := by rw [cell_of_row _ X 1 _ _ _ rX_3]; rfl
        have fX1_3 : w3.frozen? ⟨X, 1, none⟩ = false := frozen_of_row _ X 1 _ _ rX_3
        have cX2_3 : w3.cell? ⟨X, 2, none⟩ = some (.bool false) := by rw [cell_of_row _ X 2 _ _ _ rX_3]; rfl
        have fX2_3 : w3.frozen? ⟨X, 2, none⟩ = false := frozen_of_row _ X 2 _ _ rX_3
        have cF0_3 : w3.cell? ⟨F, 0, none⟩ = some (.string ⟨#[]⟩) := by rw [cell_of_row _ F 0 _ _ _ rF_3]; rfl
        have fF0_3 : w3.frozen? ⟨F, 0, none⟩ = false := frozen_of_row _ F 0 _ _ rF_3
        have t4 : Bt X w3 (((w3.setCell ⟨X, 0, none⟩ (.string S)).setCell ⟨X, 1, none⟩ (.int .i64 m0)).setCell ⟨X, 2, none⟩ (.bool d0)) := Bt.sets X [(.string S), (.int .i64 m0), (.bool d0)] 0 w3
        have pX4 : (((w3.setCell ⟨X, 0, none⟩ (.string S)).setCell ⟨X, 1, none⟩ (.int .i64 m0)).setCell ⟨X, 2, none⟩ (.bool d0)).heap[X]? = some (.cells #[.string S, .int .i64 m0, .bool d0] 52 (0, 0)) := cat_all (.string S) (.int .i64 m0) (.bool d0) rX_3
        have pR4 := t4.row (show R ≠ X by omega) rR_3
        have pC4 := t4.row (show C ≠ X by omega) rC_3
        have pg4 := t4.row (show g ≠ X by omega) rg_3
        have pF4 := t4.row (show F ≠ X by omega) rF_3
        have hbp4 : Below R w (((w3.setCell ⟨X, 0, none⟩ (.string S)).setCell ⟨X, 1, none⟩ (.int .i64 m0)).setCell ⟨X, 2, none⟩ (.bool d0)) := hb3.trans (t4.below (show R ≤ X by omega) (by have := hb3.size; omega))
        have hxp4 := hx3.trans t4
        have cX0_4 : (((w3.setCell ⟨X, 0, none⟩ (.string S)).setCell ⟨X, 1, none⟩ (.int .i64 m0)).setCell ⟨X, 2, none⟩ (.bool d0)).cell? ⟨X, 0, none⟩ = some (.string S) := by rw [cell_of_row _ X 0 _ _ _ pX4]; rfl
        have cX1_4 : (((w3.setCell ⟨X, 0, none⟩ (.string S)).setCell ⟨X, 1, none⟩ (.int .i64 m0)).setCell ⟨X, 2, none⟩ (.bool d0)).cell? ⟨X, 1, none⟩ = some (.int .i64 m0) := by rw [cell_of_row _ X 1 _ _ _ pX4]; rfl
        have cX2_4 : (((w3.setCell ⟨X, 0, none⟩ (.string S)).setCell ⟨X, 1, none⟩ (.int .i64 m0)).setCell ⟨X, 2, none⟩ (.bool d0)).cell? ⟨X, 2, none⟩ = some (.bool d0) := by rw [cell_of_row _ X 2 _ _ _ pX4]; rfl
        have cF0_4 : (((w3.setCell ⟨X, 0, none⟩ (.string S)).setCell ⟨X, 1, none⟩ (.int .i64 m0)).setCell ⟨X, 2, none⟩ (.bool d0)).cell? ⟨F, 0, none⟩ = some (.string ⟨#[]⟩) := by rw [cell_of_row _ F 0 _ _ _ pF4]; rfl
        have fF0_4 : (((w3.setCell ⟨X, 0, none⟩ (.string S)).setCell ⟨X, 1, none⟩ (.int .i64 m0)).setCell ⟨X, 2, none⟩ (.bool d0)).frozen? ⟨F, 0, none⟩ = false := frozen_of_row _ F 0 _ _ pF4
        have t5 : Bt F (((w3.setCell ⟨X, 0, none⟩ (.string S)).setCell ⟨X, 1, none⟩ (.int .i64 m0)).setCell ⟨X, 2, none⟩ (.bool d0)) ((((w3.setCell ⟨X, 0, none⟩ (.string S)).setCell ⟨X, 1, none⟩ (.int .i64 m0)).setCell ⟨X, 2, none⟩ (.bool d0)).setCell ⟨F, 0, none⟩ (.string s)) := Bt.sets F [(.string s)] 0 (((w3.setCell ⟨X, 0, none⟩ (.string S)).setCell ⟨X, 1, none⟩ (.int .i64 m0)).setCell ⟨X, 2, none⟩ (.bool d0))
        have pF5 : ((((w3.setCell ⟨X, 0, none⟩ (.string S)).setCell ⟨X, 1, none⟩ (.int .i64 m0)).setCell ⟨X, 2, none⟩ (.bool d0)).setCell ⟨F, 0, none⟩ (.string s)).heap[F]? = some (.cells #[.string s, .int .i64 0, .int .i64 0, .int .i64 0, .int .i64 0, .int .i64 0, .int .i64 0, .int .i64 0, .int .i64 0] 41 (0, 0)) := heap_setCell_same _ F 0 _ _ _ pF4
        have pR5 := t5.row (show R ≠ F by omega) pR4
        have pC5 := t5.row (show C ≠ F by omega) pC4
        have pX5 := t5.row (show X ≠ F by omega) pX4
        have pg5 := t5.row (show g ≠ F by omega) pg4
        have hbp5 : Below R w ((((w3.setCell ⟨X, 0, none⟩ (.string S)).setCell ⟨X, 1, none⟩ (.int .i64 m0)).setCell ⟨X, 2, none⟩ (.bool d0)).setCell ⟨F, 0, none⟩ (.string s)) := hbp4.trans (t5.below (show R ≤ F by omega) (by have := hbp4.size; omega))
        have hxp5 := hxp4.over t5 (show wr.heap.size ≤ F by omega)
        have cX0_5 : ((((w3.setCell ⟨X, 0, none⟩ (.string S)).setCell ⟨X, 1, none⟩ (.int .i64 m0)).setCell ⟨X, 2, none⟩ (.bool d0)).setCell ⟨F, 0, none⟩ (.string s)).cell? ⟨X, 0, none⟩ = some (.string S) := by rw [cell_of_row _ X 0 _ _ _ pX5]; rfl
        have fX0_5 : ((((w3.setCell ⟨X, 0, none⟩ (.string S)).setCell ⟨X, 1, none⟩ (.int .i64 m0)).setCell ⟨X, 2, none⟩ (.bool d0)).setCell ⟨F, 0, none⟩ (.string s)).frozen? ⟨X, 0, none⟩ = false := frozen_of_row _ X 0 _ _ pX5
        have cX1_5 : ((((w3.setCell ⟨X, 0, none⟩ (.string S)).setCell ⟨X, 1, none⟩ (.int .i64 m0)).setCell ⟨X, 2, none⟩ (.bool d0)).setCell ⟨F, 0, none⟩ (.string s)).cell? ⟨X, 1, none⟩ = some (.int .i64 m0) := by rw [cell_of_row _ X 1 _ _ _ pX5]; rfl
        have fX1_5 : ((((w3.setCell ⟨X, 0, none⟩ (.string S)).setCell ⟨X, 1, none⟩ (.int .i64 m0)).setCell ⟨X, 2, none⟩ (.bool d0)).setCell ⟨F, 0, none⟩ (.string s)).frozen? ⟨X, 1, none⟩ = false := frozen_of_row _ X 1 _ _ pX5
        have cX2_5 : ((((w3.setCell ⟨X, 0, none⟩ (.string S)).setCell ⟨X, 1, none⟩ (.int .i64 m0)).setCell ⟨X, 2, none⟩ (.bool d0)).setCell ⟨F, 0, none⟩ (.string s)).cell? ⟨X, 2, none⟩ = some (.bool d0) := by rw [cell_of_row _ X 2 _ _ _ pX5]; rfl
        have fX2_5 : ((((w3.setCell ⟨X, 0, none⟩ (.string S)).setCell ⟨X, 1, none⟩ (.int .i64 m0)).setCell ⟨X, 2, none⟩ (.bool d0)).setCell ⟨F, 0, none⟩ (.string s)).frozen? ⟨X, 2, none⟩ = false := frozen_of_row _ X 2 _ _ pX5
        go_wp2_with fail
        refine (hc1.out ((((w3.setCell ⟨X, 0, none⟩ (.string S)).setCell ⟨X, 1, none⟩ (.int .i64 m0)).setCell ⟨X, 2, none⟩ (.bool d0)).setCell ⟨F, 0, none⟩ (.string s))).mono ?_
        clear cX0_3 fX0_3 cX1_3 fX1_3 cX2_3 fX2_3 cF0_3 fF0_3 cX0_4 cX1_4 cX2_4 cF0_4 fF0_4 cX0_5 fX0_5 cX1_5 fX1_5 cX2_5 fX2_5
        rintro e6 w6 ⟨rfl, g6⟩
        have rR_6 := row_kept pR5 g6
        have rC_6 := row_kept pC5 g6
        have rX_6 := row_kept pX5 g6
        have rg_6 := row_kept pg5 g6
        have rF_6 := row_kept pF5 g6
        have hb6 : Below R w w6 := hbp5.trans (g6.mono (by first | exact hbp5.size | (have := hbp5.size; omega)))
        have hx6 := hxp5.trans (Bt.of_below g6)
        have cX0_6 : w6.cell? ⟨X, 0, none⟩ = some (.string S) := by rw [cell_of_row _ X 0 _ _ _ rX_6]; rfl
        have fX0_6 : w6.frozen? ⟨X, 0, none⟩ = false := frozen_of_row _ X 0 _ _ rX_6
        have cX1_6 : w6.cell? ⟨X, 1, none⟩ = some (.int .i64 m0) := by rw [cell_of_row _ X 1 _ _ _ rX_6]; rfl
        have fX1_6 : w6.frozen? ⟨X, 1, none⟩ = false := frozen_of_row _ X 1 _ _ rX_6
        have cX2_6 : w6.cell? ⟨X, 2, none⟩ = some (.bool d0) := by rw [cell_of_row _ X 2 _ _ _ rX_6]; rfl
        have fX2_6 : w6.frozen? ⟨X, 2, none⟩ = false := frozen_of_row _ X 2 _ _ rX_6
        have cF1_6 : w6.cell? ⟨F, 1, none⟩ = some (.int .i64 0) := by rw [cell_of_row _ F 1 _ _ _ rF_6]; rfl
        have fF1_6 : w6.frozen? ⟨F, 1, none⟩ = false := frozen_of_row _ F 1 _ _ rF_6
        have t6 : Bt X w6 (((w6.setCell ⟨X, 0, none⟩ (.string S)).setCell ⟨X, 1, none⟩ (.int .i64 m1)).setCell ⟨X, 2, none⟩ (.bool d1)) := Bt.sets X [(.string S), (.int .i64 m1), (.bool d1)] 0 w6
        have pX6 : (((w6.setCell ⟨X, 0, none⟩ (.string S)).setCell ⟨X, 1, none⟩ (.int .i64 m1)).setCell ⟨X, 2, none⟩ (.bool d1)).heap[X]? = some (.cells #[.string S, .int .i64 m1, .bool d1] 52 (0, 0)) := cat_all (.string S) (.int .i64 m1) (.bool d1) rX_6
        have pR6 := t6.row (show R ≠ X by omega) rR_6
        have pC6 := t6.row (show C ≠ X by omega) rC_6
        have pg6 := t6.row (show g ≠ X by omega) rg_6
        have pF6 := t6.row (show F ≠ X by omega) rF_6
        have hbp6 : Below R w (((w6.setCell ⟨X, 0, none⟩ (.string S)).setCell ⟨X, 1, none⟩ (.int .i64 m1)).setCell ⟨X, 2, none⟩ (.bool d1)) := hb6.trans (t6.below (show R ≤ X by omega) (by have := hb6.size; omega))
        have hxp6 := hx6.trans t6
        have cX0_7 : (((w6.setCell ⟨X, 0, none⟩ (.string S)).setCell ⟨X, 1, none⟩ (.int .i64 m1)).setCell ⟨X, 2, none⟩ (.bool d1)).cell? ⟨X, 0, none⟩ = some (.string S) := by rw [cell_of_row _ X 0 _ _ _ pX6]; rfl
        have cX1_7 : (((w6.setCell ⟨X, 0, none⟩ (.string S)).setCell ⟨X, 1, none⟩ (.int .i64 m1)).setCell ⟨X, 2, none⟩ (.bool d1)).cell? ⟨X, 1, none⟩ = some (.int .i64 m1) := by rw [cell_of_row _ X 1 _ _ _ pX6]; rfl
        have cX2_7 : (((w6.setCell ⟨X, 0, none⟩ (.string S)).setCell ⟨X, 1, none⟩ (.int .i64 m1)).setCell ⟨X, 2, none⟩ (.bool d1)).cell? ⟨X, 2, none⟩ = some (.bool d1) := by rw [cell_of_row _ X 2 _ _ _ pX6]; rfl
        have cF1_7 : (((w6.setCell ⟨X, 0, none⟩ (.string S)).setCell ⟨X, 1, none⟩ (.int .i64 m1)).setCell ⟨X, 2, none⟩ (.bool d1)).cell? ⟨F, 1, none⟩ = some (.int .i64 0) := by rw [cell_of_row _ F 1 _ _ _ pF6]; rfl
        have fF1_7 : (((w6.setCell ⟨X, 0, none⟩ (.string S)).setCell ⟨X, 1, none⟩ (.int .i64 m1)).setCell ⟨X, 2, none⟩ (.bool d1)).frozen? ⟨F, 1, none⟩ = false := frozen_of_row _ F 1 _ _ pF6
        have t7 : Bt F (((w6.setCell ⟨X, 0, none⟩ (.string S)).setCell ⟨X, 1, none⟩ (.int .i64 m1)).setCell ⟨X, 2, none⟩ (.bool d1)) ((((w6.setCell ⟨X, 0, none⟩ (.string S)).setCell ⟨X, 1, none⟩ (.int .i64 m1)).setCell ⟨X, 2, none⟩ (.bool d1)).setCell ⟨F, 1, none⟩ (.int .i64 n1)) := Bt.sets F [(.int .i64 n1)] 1 (((w6.setCell ⟨X, 0, none⟩ (.string S)).setCell ⟨X, 1, none⟩ (.int .i64 m1)).setCell ⟨X, 2, none⟩ (.bool d1))
        have pF7 : ((((w6.setCell ⟨X, 0, none⟩ (.string S)).setCell ⟨X, 1, none⟩ (.int .i64 m1)).setCell ⟨X, 2, none⟩ (.bool d1)).setCell ⟨F, 1, none⟩ (.int .i64 n1)).heap[F]? = some (.cells #[.string s, .int .i64 n1, .int .i64 0, .int .i64 0, .int .i64 0, .int .i64 0, .int .i64 0, .int .i64 0, .int .i64 0] 41 (0, 0)) := heap_setCell_same _ F 1 _ _ _ pF6
        have pR7 := t7.row (show R ≠ F by omega) pR6
        have pC7 := t7.row (show C ≠ F by omega) pC6
        have pX7 := t7.row (show X ≠ F by omega) pX6
        have pg7 := t7.row (show g ≠ F by omega) pg6
        have hbp7 : Below R w ((((w6.setCell ⟨X, 0, none⟩ (.string S)).setCell ⟨X, 1, none⟩ (.int .i64 m1)).setCell ⟨X, 2, none⟩ (.bool d1)).setCell ⟨F, 1, none⟩ (.int .i64 n1)) := hbp6.trans (t7.below (show R ≤ F by omega) (by have := hbp6.size; omega))
        have hxp7 := hxp6.over t7 (show wr.heap.size ≤ F by omega)
        have cX0_8 : ((((w6.setCell ⟨X, 0, none⟩ (.string S)).setCell ⟨X, 1, none⟩ (.int .i64 m1)).setCell ⟨X, 2, none⟩ (.bool d1)).setCell ⟨F, 1, none⟩ (.int .i64 n1)).cell? ⟨X, 0, none⟩ = some (.string S) := by rw [cell_of_row _ X 0 _ _ _ pX7]; rfl
        have fX0_8 : ((((w6.setCell ⟨X, 0, none⟩ (.string S)).setCell ⟨X, 1, none⟩ (.int .i64 m1)).setCell ⟨X, 2, none⟩ (.bool d1)).setCell ⟨F, 1, none⟩ (.int .i64 n1)).frozen? ⟨X, 0, none⟩ = false := frozen_of_row _ X 0 _ _ pX7
        have cX1_8 : ((((w6.setCell ⟨X, 0, none⟩ (.string S)).setCell ⟨X, 1, none⟩ (.int .i64 m1)).setCell ⟨X, 2, none⟩ (.bool d1)).setCell ⟨F, 1, none⟩ (.int .i64 n1)).cell? ⟨X, 1, none⟩ = some (.int .i64 m1) := by rw [cell_of_row _ X 1 _ _ _ pX7]; rfl
        have fX1_8 : ((((w6.setCell ⟨X, 0, none⟩ (.string S)).setCell ⟨X, 1, none⟩ (.int .i64 m1)).setCell ⟨X, 2, none⟩ (.bool d1)).setCell ⟨F, 1, none⟩ (.int .i64 n1)).frozen? ⟨X, 1, none⟩ = false := frozen_of_row _ X 1 _ _ pX7
        have cX2_8 : ((((w6.setCell ⟨X, 0, none⟩ (.string S)).setCell ⟨X, 1, none⟩ (.int .i64 m1)).setCell ⟨X, 2, none⟩ (.bool d1)).setCell ⟨F, 1, none⟩ (.int .i64 n1)).cell? ⟨X, 2, none⟩ = some (.bool d1) := by rw [cell_of_row _ X 2 _ _ _ pX7]; rfl
        have fX2_8 : ((((w6.setCell ⟨X, 0, none⟩ (.string S)).setCell ⟨X, 1, none⟩ (.int .i64 m1)).setCell ⟨X, 2, none⟩ (.bool d1)).setCell ⟨F, 1, none⟩ (.int .i64 n1)).frozen? ⟨X, 2, none⟩ = false := frozen_of_row _ X 2 _ _ pX7
        go_wp2_with fail
        refine (hc2.out ((((w6.setCell ⟨X, 0, none⟩ (.string S)).setCell ⟨X, 1, none⟩ (.int .i64 m1)).setCell ⟨X, 2, none⟩ (.bool d1)).setCell ⟨F, 1, none⟩ (.int .i64 n1))).mono ?_
        clear cX0_6 fX0_6 cX1_6 fX1_6 cX2_6 fX2_6 cF1_6 fF1_6 cX0_7 cX1_7 cX2_7 cF1_7 fF1_7 cX0_8 fX0_8 cX1_8 fX1_8 cX2_8 fX2_8
        rintro e9 w9 ⟨rfl, g9⟩
        have rR_9 := row_kept pR7 g9
        have rC_9 := row_kept pC7 g9
        have rX_9 := row_kept pX7 g9
        have rg_9 := row_kept pg7 g9
        have rF_9 := row_kept pF7 g9
        have hb9 : Below R w w9 := hbp7.trans (g9.mono (by first | exact hbp7.size | (have := hbp7.size; omega)))
        have hx9 := hxp7.trans (Bt.of_below g9)
        have cX0_9 : w9.cell? ⟨X, 0, none⟩ = some (.string S) := by rw [cell_of_row _ X 0 _ _ _ rX_9]; rfl
        have fX0_9 : w9.frozen? ⟨X, 0, none⟩ = false := frozen_of_row _ X 0 _ _ rX_9
        have cX1_9 : w9.cell? ⟨X, 1, none⟩ = some (.int .i64 m1) := by rw [cell_of_row _ X 1 _ _ _ rX_9]; rfl
        have fX1_9 : w9.frozen? ⟨X, 1, none⟩ = false := frozen_of_row _ X 1 _ _ rX_9
        have cX2_9 : w9.cell? ⟨X, 2, none⟩ = some (.bool d1) := by rw [cell_of_row _ X 2 _ _ _ rX_9]; rfl
        have fX2_9 : w9.frozen? ⟨X, 2, none⟩ = false := frozen_of_row _ X 2 _ _ rX_9
        have cF2_9 : w9.cell? ⟨F, 2, none⟩ = some (.int .i64 0) := by rw [cell_of_row _ F 2 _ _ _ rF_9]; rfl
        have fF2_9 : w9.frozen? ⟨F, 2, none⟩ = false := frozen_of_row _ F 2 _ _ rF_9
        have t8 : Bt X w9 (((w9.setCell ⟨X, 0, none⟩ (.string S)).setCell ⟨X, 1, none⟩ (.int .i64 m2)).setCell ⟨X, 2, none⟩ (.bool d2)) := Bt.sets X [(.string S), (.int .i64 m2), (.bool d2)] 0 w9
        have pX8 : (((w9.setCell ⟨X, 0, none⟩ (.string S)).setCell ⟨X, 1, none⟩ (.int .i64 m2)).setCell ⟨X, 2, none⟩ (.bool d2)).heap[X]? = some (.cells #[.string S, .int .i64 m2, .bool d2] 52 (0, 0)) := cat_all (.string S) (.int .i64 m2) (.bool d2) rX_9
        have pR8 := t8.row (show R ≠ X by omega) rR_9
        have pC8 := t8.row (show C ≠ X by omega) rC_9
        have pg8 := t8.row (show g ≠ X by omega) rg_9
        have pF8 := t8.row (show F ≠ X by omega) rF_9
        have hbp8 : Below R w (((w9.setCell ⟨X, 0, none⟩ (.string S)).setCell ⟨X, 1, none⟩ (.int .i64 m2)).setCell ⟨X, 2, none⟩ (.bool d2)) := hb9.trans (t8.below (show R ≤ X by omega) (by have := hb9.size; omega))
        have hxp8 := hx9.trans t8
        have cX0_10 : (((w9.setCell ⟨X, 0, none⟩ (.string S)).setCell ⟨X, 1, none⟩ (.int .i64 m2)).setCell ⟨X, 2, none⟩ (.bool d2)).cell? ⟨X, 0, none⟩ = some (.string S) := by rw [cell_of_row _ X 0 _ _ _ pX8]; rfl
        have cX1_10 : (((w9.setCell ⟨X, 0, none⟩ (.string S)).setCell ⟨X, 1, none⟩ (.int .i64 m2)).setCell ⟨X, 2, none⟩ (.bool d2)).cell? ⟨X, 1, none⟩ = some (.int .i64 m2) := by rw [cell_of_row _ X 1 _ _ _ pX8]; rfl
        have cX2_10 : (((w9.setCell ⟨X, 0, none⟩ (.string S)).setCell ⟨X, 1, none⟩ (.int .i64 m2)).setCell ⟨X, 2, none⟩ (.bool d2)).cell? ⟨X, 2, none⟩ = some (.bool d2) := by rw [cell_of_row _ X 2 _ _ _ pX8]; rfl
        have cF2_10 : (((w9.setCell ⟨X, 0, none⟩ (.string S)).setCell ⟨X, 1, none⟩ (.int .i64 m2)).setCell ⟨X, 2, none⟩ (.bool d2)).cell? ⟨F, 2, none⟩ = some (.int .i64 0) := by rw [cell_of_row _ F 2 _ _ _ pF8]; rfl
        have fF2_10 : (((w9.setCell ⟨X, 0, none⟩ (.string S)).setCell ⟨X, 1, none⟩ (.int .i64 m2)).setCell ⟨X, 2, none⟩ (.bool d2)).frozen? ⟨F, 2, none⟩ = false := frozen_of_row _ F 2 _ _ pF8
        have t9 : Bt F (((w9.setCell ⟨X, 0, none⟩ (.string S)).setCell ⟨X, 1, none⟩ (.int .i64 m2)).setCell ⟨X, 2, none⟩ (.bool d2)) ((((w9.setCell ⟨X, 0, none⟩ (.string S)).setCell ⟨X, 1, none⟩ (.int .i64 m2)).setCell ⟨X, 2, none⟩ (.bool d2)).setCell ⟨F, 2, none⟩ (.int .i64 n2)) := Bt.sets F [(.int .i64 n2)] 2 (((w9.setCell ⟨X, 0, none⟩ (.string S)).setCell ⟨X, 1, none⟩ (.int .i64 m2)).setCell ⟨X, 2, none⟩ (.bool d2))
        have pF9 : ((((w9.setCell ⟨X, 0, none⟩ (.string S)).setCell ⟨X, 1, none⟩ (.int .i64 m2)).setCell ⟨X, 2, none⟩ (.bool d2)).setCell ⟨F, 2, none⟩ (.int .i64 n2)).heap[F]? = some (.cells #[.string s, .int .i64 n1, .int .i64 n2, .int .i64 0, .int .i64 0, .int .i64 0, .int .i64 0, .int .i64 0, .int .i64 0] 41 (0, 0)) := heap_setCell_same _ F 2 _ _ _ pF8
        have pR9 := t9.row (show R ≠ F by omega) pR8
        have pC9 := t9.row (show C ≠ F by omega) pC8
        have pX9 := t9.row (show X ≠ F by omega) pX8
        have pg9 := t9.row (show g ≠ F by omega) pg8
        have hbp9 : Below R w ((((w9.setCell ⟨X, 0, none⟩ (.string S)).setCell ⟨X, 1, none⟩ (.int .i64 m2)).setCell ⟨X, 2, none⟩ (.bool d2)).setCell ⟨F, 2, none⟩ (.int .i64 n2)) := hbp8.trans (t9.below (show R ≤ F by omega) (by have := hbp8.size; omega))
        have hxp9 := hxp8.over t9 (show wr.heap.size ≤ F by omega)
        have cX0_11 : ((((w9.setCell ⟨X, 0, none⟩ (.string S)).setCell ⟨X, 1, none⟩ (.int .i64 m2)).setCell ⟨X, 2, none⟩ (.bool d2)).setCell ⟨F, 2, none⟩ (.int .i64 n2)).cell? ⟨X, 0, none⟩ = some (.string S) := by rw [cell_of_row _ X 0 _ _ _ pX9]; rfl
        have fX0_11 : ((((w9.setCell ⟨X, 0, none⟩ (.string S)).setCell ⟨X, 1, none⟩ (.int .i64 m2)).setCell ⟨X, 2, none⟩ (.bool d2)).setCell ⟨F, 2, none⟩ (.int .i64 n2)).frozen? ⟨X, 0, none⟩ = false := frozen_of_row _ X 0 _ _ pX9
        have cX1_11 : ((((w9.setCell ⟨X, 0, none⟩ (.string S)).setCell ⟨X, 1, none⟩ (.int .i64 m2)).setCell ⟨X, 2, none⟩ (.bool d2)).setCell ⟨F, 2, none⟩ (.int .i64 n2)).cell? ⟨X, 1, none⟩ = some (.int .i64 m2) := by rw [cell_of_row _ X 1 _ _ _ pX9]; rfl
        have fX1_11 : ((((w9.setCell ⟨X, 0, none⟩ (.string S)).setCell ⟨X, 1, none⟩ (.int .i64 m2)).setCell ⟨X, 2, none⟩ (.bool d2)).setCell ⟨F, 2, none⟩ (.int .i64 n2)).frozen? ⟨X, 1, none⟩ = false := frozen_of_row _ X 1 _ _ pX9
        have cX2_11 : ((((w9.setCell ⟨X, 0, none⟩ (.string S)).setCell ⟨X, 1, none⟩ (.int .i64 m2)).setCell ⟨X, 2, none⟩ (.bool d2)).setCell ⟨F, 2, none⟩ (.int .i64 n2)).cell? ⟨X, 2, none⟩ = some (.bool d2) := by rw [cell_of_row _ X 2 _ _ _ pX9]; rfl
        have fX2_11 : ((((w9.setCell ⟨X, 0, none⟩ (.string S)).setCell ⟨X, 1, none⟩ (.int .i64 m2)).setCell ⟨X, 2, none⟩ (.bool d2)).setCell ⟨F, 2, none⟩ (.int .i64 n2)).frozen? ⟨X, 2, none⟩ = false := frozen_of_row _ X 2 _ _ pX9
        go_wp2_with fail
        refine (hc3.out ((((w9.setCell ⟨X, 0, none⟩ (.string S)).setCell ⟨X, 1, none⟩ (.int .i64 m2)).setCell ⟨X, 2, none⟩ (.bool d2)).setCell ⟨F, 2, none⟩ (.int .i64 n2))).mono ?_
        clear cX0_9 fX0_9 cX1_9 fX1_9 cX2_9 fX2_9 cF2_9 fF2_9 cX0_10 cX1_10 cX2_10 cF2_10 fF2_10 cX0_11 fX0_11 cX1_11 fX1_11 cX2_11 fX2_11
        rintro e12 w12 ⟨rfl, g12⟩
        have rR_12 := row_kept pR9 g12
        have rC_12 := row_kept pC9 g12
        have rX_12 := row_kept pX9 g12
        have rg_12 := row_kept pg9 g12
        have rF_12 := row_kept pF9 g12
        have hb12 : Below R w w12 := hbp9.trans (g12.mono (by first | exact hbp9.size | (have := hbp9.size; omega)))
        have hx12 := hxp9.trans (Bt.of_below g12)
        have cX0_12 : w12.cell? ⟨X, 0, none⟩ = some (.string S) := by rw [cell_of_row _ X 0 _ _ _ rX_12]; rfl
        have fX0_12 : w12.frozen? ⟨X, 0, none⟩ = false := frozen_of_row _ X 0 _ _ rX_12
        have cX1_12 : w12.cell? ⟨X, 1, none⟩ = some (.int .i64 m2) := by rw [cell_of_row _ X 1 _ _ _ rX_12]; rfl
        have fX1_12 : w12.frozen? ⟨X, 1, none⟩ = false := frozen_of_row _ X 1 _ _ rX_12
        have cX2_12 : w12.cell? ⟨X, 2, none⟩ = some (.bool d2) := by rw [cell_of_row _ X 2 _ _ _ rX_12]; rfl
        have fX2_12 : w12.frozen? ⟨X, 2, none⟩ = false := frozen_of_row _ X 2 _ _ rX_12
        have cF3_12 : w12.cell? ⟨F, 3, none⟩ = some (.int .i64 0) := by rw [cell_of_row _ F 3 _ _ _ rF_12]; rfl
        have fF3_12 : w12.frozen? ⟨F, 3, none⟩ = false := frozen_of_row _ F 3 _ _ rF_12
        have cF4_12 : w12.cell? ⟨F, 4, none⟩ = some (.int .i64 0) := by rw [cell_of_row _ F 4 _ _ _ rF_12]; rfl
        have fF4_12 : w12.frozen? ⟨F, 4, none⟩ = false := frozen_of_row _ F 4 _ _ rF_12
        have cF5_12 : w12.cell? ⟨F, 5, none⟩ = some (.int .i64 0) := by rw [cell_of_row _ F 5 _ _ _ rF_12]; rfl
        have fF5_12 : w12.frozen? ⟨F, 5, none⟩ = false := frozen_of_row _ F 5 _ _ rF_12
        have cF6_12 : w12.cell? ⟨F, 6, none⟩ = some (.int .i64 0) := by rw [cell_of_row _ F 6 _ _ _ rF_12]; rfl
        have fF6_12 : w12.frozen? ⟨F, 6, none⟩ = false := frozen_of_row _ F 6 _ _ rF_12
        have cF7_12 : w12.cell? ⟨F, 7, none⟩ = some (.int .i64 0) := by rw [cell_of_row _ F 7 _ _ _ rF_12]; rfl
        have fF7_12 : w12.frozen? ⟨F, 7, none⟩ = false := frozen_of_row _ F 7 _ _ rF_12
        have cF8_12 : w12.cell? ⟨F, 8, none⟩ = some (.int .i64 0) := by rw [cell_of_row _ F 8 _ _ _ rF_12]; rfl
        have fF8_12 : w12.frozen? ⟨F, 8, none⟩ = false := frozen_of_row _ F 8 _ _ rF_12
        have t10 : Bt X w12 (((w12.setCell ⟨X, 0, none⟩ (.string S)).setCell ⟨X, 1, none⟩ (.int .i64 m3)).setCell ⟨X, 2, none⟩ (.bool d3)) := Bt.sets X [(.string S), (.int .i64 m3), (.bool d3)] 0 w12
        have pX10 : (((w12.setCell ⟨X, 0, none⟩ (.string S)).setCell ⟨X, 1, none⟩ (.int .i64 m3)).setCell ⟨X, 2, none⟩ (.bool d3)).heap[X]? = some (.cells #[.string S, .int .i64 m3, .bool d3] 52 (0, 0)) := cat_all (.string S) (.int .i64 m3) (.bool d3) rX_12
        have pR10 := t10.row (show R ≠ X by omega) rR_12
        have pC10 := t10.row (show C ≠ X by omega) rC_12
        have pg10 := t10.row (show g ≠ X by omega) rg_12
        have pF10 := t10.row (show F ≠ X by omega) rF_12
        have hbp10 : Below R w (((w12.setCell ⟨X, 0, none⟩ (.string S)).setCell ⟨X, 1, none⟩ (.int .i64 m3)).setCell ⟨X, 2, none⟩ (.bool d3)) := hb12.trans (t10.below (show R ≤ X by omega) (by have := hb12.size; omega))
        have hxp10 := hx12.trans t10
        have cF3_13 : (((w12.setCell ⟨X, 0, none⟩ (.string S)).setCell ⟨X, 1, none⟩ (.int .i64 m3)).setCell ⟨X, 2, none⟩ (.bool d3)).cell? ⟨F, 3, none⟩ = some (.int .i64 0) := by rw [cell_of_row _ F 3 _ _ _ pF10]; rfl
        have fF3_13 : (((w12.setCell ⟨X, 0, none⟩ (.string S)).setCell ⟨X, 1, none⟩ (.int .i64 m3)).setCell ⟨X, 2, none⟩ (.bool d3)).frozen? ⟨F, 3, none⟩ = false := frozen_of_row _ F 3 _ _ pF10
        have cF4_13 : (((w12.setCell ⟨X, 0, none⟩ (.string S)).setCell ⟨X, 1, none⟩ (.int .i64 m3)).setCell ⟨X, 2, none⟩ (.bool d3)).cell? ⟨F, 4, none⟩ = some (.int .i64 0) := by rw [cell_of_row _ F 4 _ _ _ pF10]; rfl
        have fF4_13 : (((w12.setCell ⟨X, 0, none⟩ (.string S)).setCell ⟨X, 1, none⟩ (.int .i64 m3)).setCell ⟨X, 2, none⟩ (.bool d3)).frozen? ⟨F, 4, none⟩ = false := frozen_of_row _ F 4 _ _ pF10
        have cF5_13 : (((w12.setCell ⟨X, 0, none⟩ (.string S)).setCell ⟨X, 1, none⟩ (.int .i64 m3)).setCell ⟨X, 2, none⟩ (.bool d3)).cell? ⟨F, 5, none⟩ = some (.int .i64 0) := by rw [cell_of_row _ F 5 _ _ _ pF10]; rfl
        have fF5_13 : (((w12.setCell ⟨X, 0, none⟩ (.string S)).setCell ⟨X, 1, none⟩ (.int .i64 m3)).setCell ⟨X, 2, none⟩ (.bool d3)).frozen? ⟨F, 5, none⟩ = false := frozen_of_row _ F 5 _ _ pF10
        have cF6_13 : (((w12.setCell ⟨X, 0, none⟩ (.string S)).setCell ⟨X, 1, none⟩ (.int .i64 m3)).setCell ⟨X, 2, none⟩ (.bool d3)).cell? ⟨F, 6, none⟩ = some (.int .i64 0) := by rw [cell_of_row _ F 6 _ _ _ pF10]; rfl
        have fF6_13 : (((w12.setCell ⟨X, 0, none⟩ (.string S)).setCell ⟨X, 1, none⟩ (.int .i64 m3)).setCell ⟨X, 2, none⟩ (.bool d3)).frozen? ⟨F, 6, none⟩ = false := frozen_of_row _ F 6 _ _ pF10
        have cF7_13 : (((w12.setCell ⟨X, 0, none⟩ (.string S)).setCell ⟨X, 1, none⟩ (.int .i64 m3)).setCell ⟨X, 2, none⟩ (.bool d3)).cell? ⟨F, 7, none⟩ = some (.int .i64 0) := by rw [cell_of_row _ F 7 _ _ _ pF10]; rfl
        have fF7_13 : (((w12.setCell ⟨X, 0, none⟩ (.string S)).setCell ⟨X, 1, none⟩ (.int .i64 m3)).setCell ⟨X, 2, none⟩ (.bool d3)).frozen? ⟨F, 7, none⟩ = false := frozen_of_row _ F 7 _ _ pF10
        have cF8_13 : (((w12.setCell ⟨X, 0, none⟩ (.string S)).setCell ⟨X, 1, none⟩ (.int .i64 m3)).setCell ⟨X, 2, none⟩ (.bool d3)).cell? ⟨F, 8, none⟩ = some (.int .i64 0) := by rw [cell_of_row _ F 8 _ _ _ pF10]; rfl
        have fF8_13 : (((w12.setCell ⟨X, 0, none⟩ (.string S)).setCell ⟨X, 1, none⟩ (.int .i64 m3)).setCell ⟨X, 2, none⟩ (.bool d3)).frozen? ⟨F, 8, none⟩ = false := frozen_of_row _ F 8 _ _ pF10
        have t11 : Bt F (((w12.setCell ⟨X, 0, none⟩ (.string S)).setCell ⟨X, 1, none⟩ (.int .i64 m3)).setCell ⟨X, 2, none⟩ (.bool d3)) (((((((((w12.setCell ⟨X, 0, none⟩ (.string S)).setCell ⟨X, 1, none⟩ (.int .i64 m3)).setCell ⟨X, 2, none⟩ (.bool d3)).setCell ⟨F, 3, none⟩ (.int .i64 a1)).setCell ⟨F, 4, none⟩ (.int .i64 a2)).setCell ⟨F, 5, none⟩ (.int .i64 a3)).setCell ⟨F, 6, none⟩ (.int .i64 a4)).setCell ⟨F, 7, none⟩ (.int .i64 a5)).setCell ⟨F, 8, none⟩ (.int .i64 a6)) := Bt.sets F [(.int .i64 a1), (.int .i64 a2), (.int .i64 a3), (.int .i64 a4), (.int .i64 a5), (.int .i64 a6)] 3 (((w12.setCell ⟨X, 0, none⟩ (.string S)).setCell ⟨X, 1, none⟩ (.int .i64 m3)).setCell ⟨X, 2, none⟩ (.bool d3))
        have pF11 : (((((((((w12.setCell ⟨X, 0, none⟩ (.string S)).setCell ⟨X, 1, none⟩ (.int .i64 m3)).setCell ⟨X, 2, none⟩ (.bool d3)).setCell ⟨F, 3, none⟩ (.int .i64 a1)).setCell ⟨F, 4, none⟩ (.int .i64 a2)).setCell ⟨F, 5, none⟩ (.int .i64 a3)).setCell ⟨F, 6, none⟩ (.int .i64 a4)).setCell ⟨F, 7, none⟩ (.int .i64 a5)).setCell ⟨F, 8, none⟩ (.int .i64 a6)).heap[F]? = some (.cells #[.string s, .int .i64 n1, .int .i64 n2, .int .i64 a1, .int .i64 a2, .int .i64 a3, .int .i64 a4, .int .i64 a5, .int .i64 a6] 41 (0, 0)) := itm_anc (.int .i64 a1) (.int .i64 a2) (.int .i64 a3) (.int .i64 a4) (.int .i64 a5) (.int .i64 a6) pF10
        have pR11 := t11.row (show R ≠ F by omega) pR10
        have pC11 := t11.row (show C ≠ F by omega) pC10
        have pX11 := t11.row (show X ≠ F by omega) pX10
        have pg11 := t11.row (show g ≠ F by omega) pg10
        have hbp11 : Below R w (((((((((w12.setCell ⟨X, 0, none⟩ (.string S)).setCell ⟨X, 1, none⟩ (.int .i64 m3)).setCell ⟨X, 2, none⟩ (.bool d3)).setCell ⟨F, 3, none⟩ (.int .i64 a1)).setCell ⟨F, 4, none⟩ (.int .i64 a2)).setCell ⟨F, 5, none⟩ (.int .i64 a3)).setCell ⟨F, 6, none⟩ (.int .i64 a4)).setCell ⟨F, 7, none⟩ (.int .i64 a5)).setCell ⟨F, 8, none⟩ (.int .i64 a6)) := hbp10.trans (t11.below (show R ≤ F by omega) (by have := hbp10.size; omega))
        have hxp11 := hxp10.over t11 (show wr.heap.size ≤ F by omega)
        have hCe : CR S R C X w free vS vF ls lf ⟨m3, d3⟩ _ := hC.to hR lR lC pX11 hxp11
        have cF0_14 : (((((((((w12.setCell ⟨X, 0, none⟩ (.string S)).setCell ⟨X, 1, none⟩ (.int .i64 m3)).setCell ⟨X, 2, none⟩ (.bool d3)).setCell ⟨F, 3, none⟩ (.int .i64 a1)).setCell ⟨F, 4, none⟩ (.int .i64 a2)).setCell ⟨F, 5, none⟩ (.int .i64 a3)).setCell ⟨F, 6, none⟩ (.int .i64 a4)).setCell ⟨F, 7, none⟩ (.int .i64 a5)).setCell ⟨F, 8, none⟩ (.int .i64 a6)).cell? ⟨F, 0, none⟩ = some (.string s) := by rw [cell_of_row _ F 0 _ _ _ pF11]; rfl
        have cF1_14 : (((((((((w12.setCell ⟨X, 0, none⟩ (.string S)).setCell ⟨X, 1, none⟩ (.int .i64 m3)).setCell ⟨X, 2, none⟩ (.bool d3)).setCell ⟨F, 3, none⟩ (.int .i64 a1)).setCell ⟨F, 4, none⟩ (.int .i64 a2)).setCell ⟨F, 5, none⟩ (.int .i64 a3)).setCell ⟨F, 6, none⟩ (.int .i64 a4)).setCell ⟨F, 7, none⟩ (.int .i64 a5)).setCell ⟨F, 8, none⟩ (.int .i64 a6)).cell? ⟨F, 1, none⟩ = some (.int .i64 n1) := by rw [cell_of_row _ F 1 _ _ _ pF11]; rfl
        have cF2_14 : (((((((((w12.setCell ⟨X, 0, none⟩ (.string S)).setCell ⟨X, 1, none⟩ (.int .i64 m3)).setCell ⟨X, 2, none⟩ (.bool d3)).setCell ⟨F, 3, none⟩ (.int .i64 a1)).setCell ⟨F, 4, none⟩ (.int .i64 a2)).setCell ⟨F, 5, none⟩ (.int .i64 a3)).setCell ⟨F, 6, none⟩ (.int .i64 a4)).setCell ⟨F, 7, none⟩ (.int .i64 a5)).setCell ⟨F, 8, none⟩ (.int .i64 a6)).cell? ⟨F, 2, none⟩ = some (.int .i64 n2) := by rw [cell_of_row _ F 2 _ _ _ pF11]; rfl
        have cF3_14 : (((((((((w12.setCell ⟨X, 0, none⟩ (.string S)).setCell ⟨X, 1, none⟩ (.int .i64 m3)).setCell ⟨X, 2, none⟩ (.bool d3)).setCell ⟨F, 3, none⟩ (.int .i64 a1)).setCell ⟨F, 4, none⟩ (.int .i64 a2)).setCell ⟨F, 5, none⟩ (.int .i64 a3)).setCell ⟨F, 6, none⟩ (.int .i64 a4)).setCell ⟨F, 7, none⟩ (.int .i64 a5)).setCell ⟨F, 8, none⟩ (.int .i64 a6)).cell? ⟨F, 3, none⟩ = some (.int .i64 a1) := by rw [cell_of_row _ F 3 _ _ _ pF11]; rfl
        have cF4_14 : (((((((((w12.setCell ⟨X, 0, none⟩ (.string S)).setCell ⟨X, 1, none⟩ (.int .i64 m3)).setCell ⟨X, 2, none⟩ (.bool d3)).setCell ⟨F, 3, none⟩ (.int .i64 a1)).setCell ⟨F, 4, none⟩ (.int .i64 a2)).setCell ⟨F, 5, none⟩ (.int .i64 a3)).setCell ⟨F, 6, none⟩ (.int .i64 a4)).setCell ⟨F, 7, none⟩ (.int .i64 a5)).setCell ⟨F, 8, none⟩ (.int .i64 a6)).cell? ⟨F, 4, none⟩ = some (.int .i64 a2) := by rw [cell_of_row _ F 4 _ _ _ pF11]; rfl
        have cF5_14 : (((((((((w12.setCell ⟨X, 0, none⟩ (.string S)).setCell ⟨X, 1, none⟩ (.int .i64 m3)).setCell ⟨X, 2, none⟩ (.bool d3)).setCell ⟨F, 3, none⟩ (.int .i64 a1)).setCell ⟨F, 4, none⟩ (.int .i64 a2)).setCell ⟨F, 5, none⟩ (.int .i64 a3)).setCell ⟨F, 6, none⟩ (.int .i64 a4)).setCell ⟨F, 7, none⟩ (.int .i64 a5)).setCell ⟨F, 8, none⟩ (.int .i64 a6)).cell? ⟨F, 5, none⟩ = some (.int .i64 a3) := by rw [cell_of_row _ F 5 _ _ _ pF11]; rfl
        have cF6_14 : (((((((((w12.setCell ⟨X, 0, none⟩ (.string S)).setCell ⟨X, 1, none⟩ (.int .i64 m3)).setCell ⟨X, 2, none⟩ (.bool d3)).setCell ⟨F, 3, none⟩ (.int .i64 a1)).setCell ⟨F, 4, none⟩ (.int .i64 a2)).setCell ⟨F, 5, none⟩ (.int .i64 a3)).setCell ⟨F, 6, none⟩ (.int .i64 a4)).setCell ⟨F, 7, none⟩ (.int .i64 a5)).setCell ⟨F, 8, none⟩ (.int .i64 a6)).cell? ⟨F, 6, none⟩ = some (.int .i64 a4) := by rw [cell_of_row _ F 6 _ _ _ pF11]; rfl
        have cF7_14 : (((((((((w12.setCell ⟨X, 0, none⟩ (.string S)).setCell ⟨X, 1, none⟩ (.int .i64 m3)).setCell ⟨X, 2, none⟩ (.bool d3)).setCell ⟨F, 3, none⟩ (.int .i64 a1)).setCell ⟨F, 4, none⟩ (.int .i64 a2)).setCell ⟨F, 5, none⟩ (.int .i64 a3)).setCell ⟨F, 6, none⟩ (.int .i64 a4)).setCell ⟨F, 7, none⟩ (.int .i64 a5)).setCell ⟨F, 8, none⟩ (.int .i64 a6)).cell? ⟨F, 7, none⟩ = some (.int .i64 a5) := by rw [cell_of_row _ F 7 _ _ _ pF11]; rfl
        have cF8_14 : (((((((((w12.setCell ⟨X, 0, none⟩ (.string S)).setCell ⟨X, 1, none⟩ (.int .i64 m3)).setCell ⟨X, 2, none⟩ (.bool d3)).setCell ⟨F, 3, none⟩ (.int .i64 a1)).setCell ⟨F, 4, none⟩ (.int .i64 a2)).setCell ⟨F, 5, none⟩ (.int .i64 a3)).setCell ⟨F, 6, none⟩ (.int .i64 a4)).setCell ⟨F, 7, none⟩ (.int .i64 a5)).setCell ⟨F, 8, none⟩ (.int .i64 a6)).cell? ⟨F, 8, none⟩ = some (.int .i64 a6) := by rw [cell_of_row _ F 8 _ _ _ pF11]; rfl
        have cC0_14 : (((((((((w12.setCell ⟨X, 0, none⟩ (.string S)).setCell ⟨X, 1, none⟩ (.int .i64 m3)).setCell ⟨X, 2, none⟩ (.bool d3)).setCell ⟨F, 3, none⟩ (.int .i64 a1)).setCell ⟨F, 4, none⟩ (.int .i64 a2)).setCell ⟨F, 5, none⟩ (.int .i64 a3)).setCell ⟨F, 6, none⟩ (.int .i64 a4)).setCell ⟨F, 7, none⟩ (.int .i64 a5)).setCell ⟨F, 8, none⟩ (.int .i64 a6)).cell? ⟨C, 0, none⟩ = some (.int .i64 free) := by rw [cell_of_row _ C 0 _ _ _ pC11]; rfl
        have fC0_14 : (((((((((w12.setCell ⟨X, 0, none⟩ (.string S)).setCell ⟨X, 1, none⟩ (.int .i64 m3)).setCell ⟨X, 2, none⟩ (.bool d3)).setCell ⟨F, 3, none⟩ (.int .i64 a1)).setCell ⟨F, 4, none⟩ (.int .i64 a2)).setCell ⟨F, 5, none⟩ (.int .i64 a3)).setCell ⟨F, 6, none⟩ (.int .i64 a4)).setCell ⟨F, 7, none⟩ (.int .i64 a5)).setCell ⟨F, 8, none⟩ (.int .i64 a6)).frozen? ⟨C, 0, none⟩ = false := frozen_of_row _ C 0 _ _ pC11
        have cC1_14 : (((((((((w12.setCell ⟨X, 0, none⟩ (.string S)).setCell ⟨X, 1, none⟩ (.int .i64 m3)).setCell ⟨X, 2, none⟩ (.bool d3)).setCell ⟨F, 3, none⟩ (.int .i64 a1)).setCell ⟨F, 4, none⟩ (.int .i64 a2)).setCell ⟨F, 5, none⟩ (.int .i64 a3)).setCell ⟨F, 6, none⟩ (.int .i64 a4)).setCell ⟨F, 7, none⟩ (.int .i64 a5)).setCell ⟨F, 8, none⟩ (.int .i64 a6)).cell? ⟨C, 1, none⟩ = some (vS) := by rw [cell_of_row _ C 1 _ _ _ pC11]; rfl
        have fC1_14 : (((((((((w12.setCell ⟨X, 0, none⟩ (.string S)).setCell ⟨X, 1, none⟩ (.int .i64 m3)).setCell ⟨X, 2, none⟩ (.bool d3)).setCell ⟨F, 3, none⟩ (.int .i64 a1)).setCell ⟨F, 4, none⟩ (.int .i64 a2)).setCell ⟨F, 5, none⟩ (.int .i64 a3)).setCell ⟨F, 6, none⟩ (.int .i64 a4)).setCell ⟨F, 7, none⟩ (.int .i64 a5)).setCell ⟨F, 8, none⟩ (.int .i64 a6)).frozen? ⟨C, 1, none⟩ = false := frozen_of_row _ C 1 _ _ pC11
        have cC2_14 : (((((((((w12.setCell ⟨X, 0, none⟩ (.string S)).setCell ⟨X, 1, none⟩ (.int .i64 m3)).setCell ⟨X, 2, none⟩ (.bool d3)).setCell ⟨F, 3, none⟩ (.int .i64 a1)).setCell ⟨F, 4, none⟩ (.int .i64 a2)).setCell ⟨F, 5, none⟩ (.int .i64 a3)).setCell ⟨F, 6, none⟩ (.int .i64 a4)).setCell ⟨F, 7, none⟩ (.int .i64 a5)).setCell ⟨F, 8, none⟩ (.int .i64 a6)).cell? ⟨C, 2, none⟩ = some (vF) := by rw [cell_of_row _ C 2 _ _ _ pC11]; rfl
        have fC2_14 : (((((((((w12.setCell ⟨X, 0, none⟩ (.string S)).setCell ⟨X, 1, none⟩ (.int .i64 m3)).setCell ⟨X, 2, none⟩ (.bool d3)).setCell ⟨F, 3, none⟩ (.int .i64 a1)).setCell ⟨F, 4, none⟩ (.int .i64 a2)).setCell ⟨F, 5, none⟩ (.int .i64 a3)).setCell ⟨F, 6, none⟩ (.int .i64 a4)).setCell ⟨F, 7, none⟩ (.int .i64 a5)).setCell ⟨F, 8, none⟩ (.int .i64 a6)).frozen? ⟨C, 2, none⟩ = false := frozen_of_row _ C 2 _ _ pC11
        have hLr : ((((((((((w12.setCell ⟨X, 0, none⟩ (.string S)).setCell ⟨X, 1, none⟩ (.int .i64 m3)).setCell ⟨X, 2, none⟩ (.bool d3)).setCell ⟨F, 3, none⟩ (.int .i64 a1)).setCell ⟨F, 4, none⟩ (.int .i64 a2)).setCell ⟨F, 5, none⟩ (.int .i64 a3)).setCell ⟨F, 6, none⟩ (.int .i64 a4)).setCell ⟨F, 7, none⟩ (.int .i64 a5)).setCell ⟨F, 8, none⟩ (.int .i64 a6))).heap[g]? = some (lRow t) := pg11
        have C3 := Lib.hid (hCe.below (al1 _ (.cells #[.string s, .int .i64 n1, .int .i64 n2, .int .i64 a1, .int .i64 a2, .int .i64 a3, .int .i64 a4, .int .i64 a5, .int .i64 a6] 41)))
        have L3 := Lib.hid (row_kept hLr (al1 _ (.cells #[.string s, .int .i64 n1, .int .i64 n2, .int .i64 a1, .int .i64 a2, .int .i64 a3, .int .i64 a4, .int .i64 a5, .int .i64 a6] 41)))
        have NW := Lib.hid (World.news_of_block (show ((((((((((w12.setCell ⟨X, 0, none⟩ (.string S)).setCell ⟨X, 1, none⟩ (.int .i64 m3)).setCell ⟨X, 2, none⟩ (.bool d3)).setCell ⟨F, 3, none⟩ (.int .i64 a1)).setCell ⟨F, 4, none⟩ (.int .i64 a2)).setCell ⟨F, 5, none⟩ (.int .i64 a3)).setCell ⟨F, 6, none⟩ (.int .i64 a4)).setCell ⟨F, 7, none⟩ (.int .i64 a5)).setCell ⟨F, 8, none⟩ (.int .i64 a6)).alloc (.cells #[.string s, .int .i64 n1, .int .i64 n2, .int .i64 a1, .int .i64 a2, .int .i64 a3, .int .i64 a4, .int .i64 a5, .int .i64 a6] 41)).heap[w12.heap.size]? = some (.cells #[.string s, .int .i64 n1, .int .i64 n2, .int .i64 a1, .int .i64 a2, .int .i64 a3, .int .i64 a4, .int .i64 a5, .int .i64 a6] 41 (0, 0)) by have h := heap_alloc_new (((((((((w12.setCell ⟨X, 0, none⟩ (.string S)).setCell ⟨X, 1, none⟩ (.int .i64 m3)).setCell ⟨X, 2, none⟩ (.bool d3)).setCell ⟨F, 3, none⟩ (.int .i64 a1)).setCell ⟨F, 4, none⟩ (.int .i64 a2)).setCell ⟨F, 5, none⟩ (.int .i64 a3)).setCell ⟨F, 6, none⟩ (.int .i64 a4)).setCell ⟨F, 7, none⟩ (.int .i64 a5)).setCell ⟨F, 8, none⟩ (.int .i64 a6)) (.cells #[.string s, .int .i64 n1, .int .i64 n2, .int .i64 a1, .int .i64 a2, .int .i64 a3, .int .i64 a4, .int .i64 a5, .int .i64 a6] 41); rwa [show (((((((((w12.setCell ⟨X, 0, none⟩ (.string S)).setCell ⟨X, 1, none⟩ (.int .i64 m3)).setCell ⟨X, 2, none⟩ (.bool d3)).setCell ⟨F, 3, none⟩ (.int .i64 a1)).setCell ⟨F, 4, none⟩ (.int .i64 a2)).setCell ⟨F, 5, none⟩ (.int .i64 a3)).setCell ⟨F, 6, none⟩ (.int .i64 a4)).setCell ⟨F, 7, none⟩ (.int .i64 a5)).setCell ⟨F, 8, none⟩ (.int .i64 a6)).heap.size = w12.heap.size by simp] at h))
        have hgLx : X + 1 ≤ g := by omega
        have ADD := Lib.hid (fun (wz : World) (vN : Value) (hown : wz.ownsRow (X + 1) 41 9 vN (ls.length + 1) (flat9 ls ++ flat9 [⟨s, n1, n2, a1, a2, a3, a4, a5, a6⟩])) (hg : _ ) => C3.out.adds (wz := wz) (vN := vN) (t := ⟨s, n1, n2, a1, a2, a3, a4, a5, a6⟩) hR lR lC hown hg)
        go_wp2_with (at_builtin; refine wpList_append_lies _ rfl _ _ 23 rfl (X + 1) 41 iS (.agg #[.string ⟨#[]⟩, .int .i64 0, .int .i64 0, .int .i64 0, .int .i64 0, .int .i64 0, .int .i64 0, .int .i64 0, .int .i64 0]) 9 80 Tryz.underlying23 hiS hS0 hS1 hS2 rfl (by decide) vS ls.length (flat9 ls) rfl C3.out.os ⟨w12.heap.size, 0, none⟩ 1 1 (flat9 [⟨s, n1, n2, a1, a2, a3, a4, a5, a6⟩]) rfl rfl NW.out (flat9_one [⟨s, n1, n2, a1, a2, a3, a4, a5, a6⟩]) (by decide) (by have := HR.out.2.2.2.2.2.1; have := hN; unfold maxLen; omega) (by have := HR.out.2.2.2.2.2.1; have := hN; omega) C3.out.z _ rfl ?_; intro gg cc wz hown hgrow _ _; have L4 := Lib.hid (lrow_grown L3.out C3.out.os (by decide) hgrow); obtain ⟨C4, zq⟩ := ADD.out _ _ hown hgrow; obtain ⟨r0, r1, r2, f0, f1, f2, rz⟩ := row3 zq; have C5 := Lib.hid C4; clear hown hgrow C4 zq)
        go_roundw
        case rel => exact ⟨t, g, ⟨m3, d3⟩, _, vF, ls ++ [⟨s, n1, n2, a1, a2, a3, a4, a5, a6⟩], lf, n, rfl, Lib.hid ⟨C5.out, (Bt.set C _ 1 _).row (by omega) L4.out, hgLx, hkk.out, by have h1 := hms.out; have h2 := HR.out.2.2.2.2.1; omega, by have := HR.out.2.2.2.2.2.1; rw [List.length_append]; simp only [List.length_cons, List.length_nil]; omega, hM2.out⟩⟩
        case measure => rw [msW_st C5.out.x, msW_st hC.x]; exact hms.out
    · skip
      have hM2 := Lib.hid (show M = ((ls, lf), ⟨yk, true⟩) from HR.out.2.2.2.2.2.2.symm)
      have hbl : Below R w wr := by have := hC.bl; rwa [hR] at this
      have cX0_0 : wr.cell? ⟨X, 0, none⟩ = some (.string S) := by rw [cell_of_row _ X 0 _ _ _ hC.x]; rfl
      have fX0_0 : wr.frozen? ⟨X, 0, none⟩ = false := frozen_of_row _ X 0 _ _ hC.x
      have cX1_0 : wr.cell? ⟨X, 1, none⟩ = some (.int .i64 yk) := by rw [cell_of_row _ X 1 _ _ _ hC.x]; rfl
      have fX1_0 : wr.frozen? ⟨X, 1, none⟩ = false := frozen_of_row _ X 1 _ _ hC.x
      have cX2_0 : wr.cell? ⟨X, 2, none⟩ = some (.bool true) := by rw [cell_of_row _ X 2 _ _ _ hC.x]; rfl
      have fX2_0 : wr.frozen? ⟨X, 2, none⟩ = false := frozen_of_row _ X 2 _ _ hC.x
      have cR0_0 : wr.cell? ⟨R, 0, none⟩ = some (.int .i64 0) := by rw [cell_of_row _ R 0 _ _ _ hC.r]; rfl
      have fR0_0 : wr.frozen? ⟨R, 0, none⟩ = false := frozen_of_row _ R 0 _ _ hC.r
      have cR1_0 : wr.cell? ⟨R, 1, none⟩ = some (.slice none 0 0) := by rw [cell_of_row _ R 1 _ _ _ hC.r]; rfl
      have fR1_0 : wr.frozen? ⟨R, 1, none⟩ = false := frozen_of_row _ R 1 _ _ hC.r
      have cR2_0 : wr.cell? ⟨R, 2, none⟩ = some (.slice none 0 0) := by rw [cell_of_row _ R 2 _ _ _ hC.r]; rfl
      have fR2_0 : wr.frozen? ⟨R, 2, none⟩ = false := frozen_of_row _ R 2 _ _ hC.r
      go_wp2_with fail
      go_region
      have t1 : Bt R wr (((wr.setCell ⟨R, 0, none⟩ (.int .i64 0)).setCell ⟨R, 1, none⟩ (.slice none 0 0)).setCell ⟨R, 2, none⟩ (.slice none 0 0)) := Bt.sets R [(.int .i64 0), (.slice none 0 0), (.slice none 0 0)] 0 wr
      have pR1 : (((wr.setCell ⟨R, 0, none⟩ (.int .i64 0)).setCell ⟨R, 1, none⟩ (.slice none 0 0)).setCell ⟨R, 2, none⟩ (.slice none 0 0)).heap[R]? = some (.cells #[.int .i64 0, .slice none 0 0, .slice none 0 0] 26 (0, 0)) := cat_all (.int .i64 0) (.slice none 0 0) (.slice none 0 0) hC.r
      have pC1 := t1.row (show C ≠ R by omega) hC.c
      have pX1 := t1.row (show X ≠ R by omega) hC.x
      have hbp1 : Below R w (((wr.setCell ⟨R, 0, none⟩ (.int .i64 0)).setCell ⟨R, 1, none⟩ (.slice none 0 0)).setCell ⟨R, 2, none⟩ (.slice none 0 0)) := hbl.trans (t1.below (show R ≤ R by omega) (by have := hbl.size; omega))
      go_wp2_with fail
      obtain ⟨u9, hu9⟩ : ∃ u9, u9 = (((wr.setCell ⟨R, 0, none⟩ (.int .i64 0)).setCell ⟨R, 1, none⟩ (.slice none 0 0)).setCell ⟨R, 2, none⟩ (.slice none 0 0)) := ⟨_, rfl⟩
      rw [← hu9] at pR1 hbp1 ⊢
      have kR0 : u9.cell? ⟨R, 0, none⟩ = some (.int .i64 0) := by rw [cell_of_row _ R 0 _ _ _ pR1]; rfl
      have kR1 : u9.cell? ⟨R, 1, none⟩ = some (.slice none 0 0) := by rw [cell_of_row _ R 1 _ _ _ pR1]; rfl
      have kR2 : u9.cell? ⟨R, 2, none⟩ = some (.slice none 0 0) := by rw [cell_of_row _ R 2 _ _ _ pR1]; rfl
      exact bodyPost_ret (v := .tuple #[.agg #[.int .i64 0, .slice none 0 0, .slice none 0 0], .int .i64 yk, .bool false]) (by simp [results, Tryz.results10, go_sem, kR0, kR1, kR2]) rfl ⟨fun _ => ⟨by rw [hM2.out], (by first | exact below_dn hbp1 1 | (rw [hR]; exact below_dn hbp1 1))⟩, fun e => (by rw [hM2.out] at e; cases e)⟩
end Go.Proofs.YthmfhgehahpgbaaGreatDoor
