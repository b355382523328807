/- Windows: the reference's Few and Same; the laws' moves and takenBefore. -/
import Derived.Test.YtaifhikhdcnacaaAb
import Derived.Deep.AppendLies
import Derived.Deep.Cut
import Derived.Deep.RegionHeld3
import Derived.WalkKit
namespace Go.Proofs.Ytaifhikhdcnacaa
open Go.RowKit

theorem few_too {imp : List (List Int)} {k : Nat} (hk : k < imp.length) (h : 100 < (imp.getD k []).length) (fr : List Bool) : fewT fr imp = false := by
  cases e : fewT fr imp
  · rfl
  · have := (fewT_iff.1 e).2.2.1 (imp.getD k []) (by
      rw [List.getD_eq_getElem?_getD, List.getElem?_eq_getElem hk]
      exact List.getElem_mem hk)
    omega
theorem few_sum {imp : List (List Int)} (h : ∀ k, k < imp.length → (imp.getD k []).length ≤ 100) {fr : List Bool} (h1 : fr.length ≤ 400) (h2 : imp.length ≤ 400) : fewT fr imp = decide (sumF imp imp.length ≤ 400) := by
  have a : (imp.all fun l => decide (l.length ≤ 100)) = true := by
    rw [List.all_eq_true]
    intro l hl
    obtain ⟨i, hi⟩ := List.getElem?_of_mem hl
    have := h i (List.getElem?_eq_some_iff.1 hi).1
    rw [List.getD_eq_getElem?_getD, hi] at this
    exact decide_eq_true this
  unfold fewT
  rw [a, decide_eq_true h1, decide_eq_true h2]; rfl
theorem few_long {fr : List Bool} {imp : List (List Int)} (h : ¬ fr.length ≤ 400 ∨ ¬ imp.length ≤ 400) : fewT fr imp = false := by
  cases e : fewT fr imp
  · rfl
  · have := fewT_iff.1 e; omega
set_option maxRecDepth 100000 in
theorem r22few_any (fr : List Bool) (imp : List (List Int)) (vf vi : Value) (W : World) (h1 : BlAt W vf fr) (h2 : LsAt W vi imp) : Calls Try.prog 10 #[vf, vi] W fun e w' => e = .returned (.bool (fewT fr imp)) ∧ W = w' := by
  obtain ⟨A1, c1, rfl, n1, n2, _⟩ := h1
  obtain ⟨f, ⟨A2, c2, rfl, m1, m2, h3⟩, h4⟩ := h2
  have H3 := Lib.hid h3
  have H4 := Lib.hid h4
  clear h3 h4
  by_cases g1 : fr.length ≤ 400
  · by_cases g2 : imp.length ≤ 400
    · have k1 : decide ((400 : Int) < fr.length) = false := decide_eq_false (by omega)
      have k2 : decide ((400 : Int) < imp.length) = false := decide_eq_false (by omega)
      go_enter Try.func10, Try.ntmps10
      go_wp2_with fail
      go_loop [5, 6] (fun s i => ∃ k : Nat, k ≤ imp.length ∧ i = .int .i64 k ∧ s = .int .i64 (sumF imp k) ∧ sumF imp k ≤ 100 * k ∧ ∀ j, j < k → (imp.getD j []).length ≤ 100) (fun _ i => imp.length - (intOf i).toNat)
      case atStart => exact ⟨0, Nat.zero_le _, rfl, rfl, Nat.zero_le _, fun j hj => by omega⟩
      case round =>
        obtain ⟨k, hk, rfl, rfl, hs, hall⟩ := hrel
        have HA := Lib.hid hall
        clear hall
        by_cases hlt : k < imp.length
        · obtain ⟨b, o, rfl, hb, hc⟩ := H3.out k hlt
          obtain ⟨A3, c3, hf, p1, p2, _⟩ := H4.out k hlt
          rw [hf] at hc
          clear hf
          have HS := Lib.hid (sumF_succ hlt)
          have HT := Lib.hid (few_too hlt (fr := fr))
          have HU := Lib.hid (fun (h : (imp.getD k []).length ≤ 100) (j : Nat) (hj : j < k + 1) => show (imp.getD j []).length ≤ 100 by
            by_cases g : j < k
            · exact HA.out j g
            · rw [show j = k by omega]; exact h)
          generalize sumF imp k = s at *
          generalize (imp.getD k []).length = n at *
          by_cases g : n ≤ 100
          · have k3 : decide ((100 : Int) < n) = false := decide_eq_false (by omega)
            have hy := Lib.hid (HU.out g)
            go_wp2_with fail
            go_round
            case rel => exact ⟨k + 1, by omega, by go_num, by rw [HS.out]; go_num, by rw [HS.out]; omega, hy.out⟩
            case measure => simp [intOf]; omega
          · have k3 : decide ((100 : Int) < n) = true := decide_eq_true (by omega)
            have hf := HT.out (by omega)
            go_wp2_with fail
            go_ret
            exact ⟨rfl, rfl⟩
        · obtain rfl : k = imp.length := by omega
          have hf := Lib.hid (few_sum HA.out g1 g2)
          have e : decide ((sumF imp imp.length : Int) ≤ 400) = decide (sumF imp imp.length ≤ 400) := by
            by_cases g : sumF imp imp.length ≤ 400
            · rw [decide_eq_true g, decide_eq_true (by omega)]
            · rw [decide_eq_false g, decide_eq_false (by omega)]
          generalize sumF imp imp.length = s at *
          cases g : decide (s ≤ 400)
          · rw [g] at e
            go_wp2_with fail
            go_ret
            exact ⟨ret_bool (hf.out.trans g).symm, rfl⟩
          · rw [g] at e
            go_wp2_with fail
            go_ret
            exact ⟨ret_bool (hf.out.trans g).symm, rfl⟩
    · have hf := few_long (fr := fr) (.inr g2)
      have k1 : decide ((400 : Int) < fr.length) = false := decide_eq_false (by omega)
      have k2 : decide ((400 : Int) < imp.length) = true := decide_eq_true (by omega)
      go_enter Try.func10, Try.ntmps10
      go_wp2_with fail
      go_ret
      exact ⟨rfl, rfl⟩
  · have hf := few_long (imp := imp) (.inl g1)
    have k1 : decide ((400 : Int) < fr.length) = true := decide_eq_true (by omega)
    go_enter Try.func10, Try.ntmps10
    go_wp2_with fail
    go_ret
    exact ⟨rfl, rfl⟩
/-! takenBefore -/
theorem tkn_take {ms : List Mv} {k : Nat} {m : Mv} (h : ms[k]? = some m) (t : Nat) : tkn (ms.take (k + 1)) t = (tkn (ms.take k) t || decide (m.2.2 = (t : Int))) := by
  rw [List.take_add_one, h]; exact tkn_snoc _ _ _
theorem tkn_up {ms : List Mv} {a b t : Nat} (hab : a ≤ b) (h : tkn (ms.take a) t = true) : tkn (ms.take b) t = true := by
  obtain ⟨m, hm, e⟩ := tkn_iff.1 h
  exact tkn_iff.2 ⟨m, (List.take_sublist_take_left hab).subset hm, e⟩
set_option maxRecDepth 100000 in
theorem l22tb_any (ms : List Mv) (v : Value) (n t : Nat) (W : World) (hn : n ≤ ms.length) (hl : ms.length ≤ 400) (h : MvAt W v ms) : Calls Try.prog 17 #[v, .int .i64 n, .int .i64 t] W fun e w' => e = .returned (.bool (tkn (ms.take n) t)) ∧ W = w' := by
  obtain ⟨A, cap, rfl, h1, h2, h3⟩ := h
  have H3 := Lib.hid h3
  clear h3
  go_enter Try.func17, Try.ntmps17
  go_wp2_with fail
  go_loop [7] (fun i => ∃ k : Nat, k ≤ n ∧ i = .int .i64 k ∧ tkn (ms.take k) t = false) (fun i => n - (intOf i).toNat)
  case atStart => exact ⟨0, Nat.zero_le _, rfl, rfl⟩
  case round =>
    obtain ⟨k, hk, rfl, hno⟩ := hrel
    have HO := Lib.hid hno
    clear hno
    by_cases hlt : k < n
    · obtain ⟨m, hm⟩ : ∃ m, ms[k]? = some m := ⟨_, List.getElem?_eq_getElem (by omega)⟩
      obtain ⟨b, o, rfl, hb, c1, c2, c3⟩ := H3.out k m hm
      have hx := Lib.hid (fun h : (m.2.2 == (t : Int)) = true => show tkn (ms.take n) t = true from tkn_up (show k + 1 ≤ n by omega) (by rw [tkn_take hm, decide_eq_true (beq_iff_eq.1 h)]; simp))
      have hy := Lib.hid (fun h : (m.2.2 == (t : Int)) = false => show tkn (ms.take (k + 1)) t = false by rw [tkn_take hm, HO.out, decide_eq_false (beq_eq_false_iff_ne.1 h)]; rfl)
      obtain ⟨x1, x2, x3⟩ := m
      dsimp only at *
      clear hm
      cases g : (x3 == (t : Int))
      · have hz := Lib.hid (hy.out g)
        go_wp2_with fail
        go_round
        case rel => exact ⟨k + 1, by omega, by go_num, hz.out⟩
        case measure => simp [intOf]; omega
      · have hz := hx.out g
        go_wp2_with fail
        go_ret
        exact ⟨rfl, rfl⟩
    · obtain rfl : k = n := by omega
      have hz := HO.out
      go_wp2_with fail
      go_ret
      exact ⟨rfl, rfl⟩
/-! Same, of equal lists -/
abbrev mvv (m : Mv) : Value := .agg #[.int .i64 m.1, .int .i64 m.2.1, .int .i64 m.2.2]
theorem neq_mvr (m : Mv) (u : World) : (binOp .neq 39 (mvv m) (mvv m)).run Try.prog u = .ok (.bool false) u := by simp [go_sem]
set_option maxHeartbeats 1000000 in
set_option maxRecDepth 100000 in
theorem r22same_eq (v v' : Value) (l : List Mv) (W : World) (hl : l.length ≤ 400) (h : MvAt W v l) (h' : MvAt W v' l) : Calls Try.prog 13 #[v, v'] W fun e w' => e = .returned (.bool true) ∧ Below W.heap.size W w' := by
  obtain ⟨A, cap, rfl, h1, h2, h3⟩ := h
  obtain ⟨A', cap', rfl, h1', h2', h3'⟩ := h'
  have Q := Lib.hid h3
  have Q' := Lib.hid h3'
  have hE := neq_mvr
  clear h3 h3'
  go_enter Try.func13, Try.ntmps13
  go_wp2_with fail
  go_loopw [5] (fun i wr => ∃ k : Nat, k ≤ l.length ∧ i = .int .i64 k ∧ Below W.heap.size W wr) (fun i _ => l.length - (intOf i).toNat)
  case atStart => exact ⟨0, Nat.zero_le _, rfl, Below.refl _ _⟩
  case round =>
    obtain ⟨k, hk, rfl, hb⟩ := hrel
    have HB := Lib.hid hb
    clear hb
    by_cases hlt : k < l.length
    · obtain ⟨c, hc⟩ : ∃ c, l[k]? = some c := ⟨_, List.getElem?_eq_getElem hlt⟩
      obtain ⟨b, p, hA, hbl, d1, d2, d3⟩ := Q.out k c hc
      obtain ⟨b', p', hA', hbl', e1, e2, e3⟩ := Q'.out k c hc
      subst hA hA'
      have q1 := cell_below d1 HB.out
      have q2 := cell_below d2 HB.out
      have q3 := cell_below d3 HB.out
      have r1 := cell_below e1 HB.out
      have r2 := cell_below e2 HB.out
      have r3 := cell_below e3 HB.out
      have hE1 := hE c
      clear d1 d2 d3 e1 e2 e3 hc hE
      obtain ⟨c1, c2, c3⟩ := c
      go_wp2_with fail
      go_quiet (fail)
      go_wp2_with fail
      go_roundw
      case rel => exact ⟨k + 1, by omega, by go_num, below_dn HB.out _⟩
      case measure => simp [intOf]; omega
    · obtain rfl : k = l.length := by omega
      go_wp2_with fail
      go_ret
      exact ⟨rfl, HB.out⟩
/-! moves -/
theorem infoMr : (Try.prog.info? 39).map (fun i => (i.zero, i.size, i.bytes)) = some (some (.agg #[.int .i64 0, .int .i64 0, .int .i64 0]), 3, 24) := by kernel_rfl
theorem take_succ_mv {l : List Mv} {k : Nat} {c : Mv} (h : l[k]? = some c) : l.take (k + 1) = l.take k ++ [c] := by rw [List.take_add_one, h]; rfl
/-- Moves that a call of memory of its own hands back. -/
def RetMs (t : Nat) (W : World) (l : List Mv) (e : Ending) (w' : World) : Prop := ∃ v, e = .returned v ∧ OwM t W.heap.size v l w' ∧ Below W.heap.size W w'
set_option maxHeartbeats 1000000 in
set_option maxRecDepth 100000 in
theorem l22mv_any (v : Value) (l : List Mv) (W : World) (hl : l.length ≤ 400) (h : MvAt W v l) : Calls Try.prog 14 #[v] W (RetMs 39 W l) := by
  obtain ⟨i0, hi, hz0, hz1, hz2⟩ := info_parts infoMr
  obtain ⟨A, cap, rfl, h1, h2, h3⟩ := h
  have Q := Lib.hid h3
  clear h3
  go_enter Try.func14, Try.ntmps14
  go_wp2_with fail
  go_loopw [3, 4] (fun v i wr => ∃ k : Nat, k ≤ l.length ∧ i = .int .i64 k ∧ Below W.heap.size W wr ∧ OwM 39 W.heap.size v (l.take k) wr) (fun _ i _ => l.length - (intOf i).toNat)
  case atStart => exact ⟨0, Nat.zero_le _, rfl, Below.refl _ _, OwM.nil _ _ _⟩
  case round =>
    obtain ⟨k, hk, rfl, hb, hv⟩ := hrel
    have HB := Lib.hid hb
    have HV := Lib.hid hv
    clear hb hv
    by_cases hlt : k < l.length
    · obtain ⟨c, hc⟩ : ∃ c, l[k]? = some c := ⟨_, List.getElem?_eq_getElem hlt⟩
      obtain ⟨b, p, hA, hbW, d1, d2, d3⟩ := Q.out k c hc
      subst hA
      have hmap := Lib.hid (take_succ_mv hc)
      have hle : (l.take k).length = k := by rw [List.length_take]; omega
      have q0 := cell_below d1 HB.out
      have q1 := cell_below d2 HB.out
      have q2 := cell_below d3 HB.out
      have hsz := Lib.hid HB.out.size
      obtain ⟨c1, c2, c3⟩ := c
      dsimp only at q0 q1 q2
      clear d1 d2 d3 hc
      have hszv : W.heap.size ≤ wr.heap.size := hsz.out
      have HVk : Hid (wr.ownsRow W.heap.size 39 3 u3 k (flat3 (l.take k))) := Lib.hid (by have := HV.out; rwa [OwM, hle] at this)
      have ag : u3.ownBlock ≠ some b := fun e => absurd (World.ownsRow.lt HV.out b e).1 (by omega)
      go_wp2_with fail
      go_region_held3 (fun w' => w'.cell? ⟨b, p + k * 3, none⟩ = some (.int .i64 c1) ∧ w'.cell? ⟨b, p + k * 3 + 1, none⟩ = some (.int .i64 c2) ∧ w'.cell? ⟨b, p + k * 3 + 2, none⟩ = some (.int .i64 c3))
        (first
          | go_keep
          | (go_split_ands
             refine ⟨?_, ?_, ?_⟩
             · (rw [hgrow.cell_far _ (by simp; omega) (Ne.symm ag)]; assumption)
             · (rw [hgrow.cell_far _ (by simp; omega) (Ne.symm ag)]; assumption)
             · (rw [hgrow.cell_far _ (by simp; omega) (Ne.symm ag)]; assumption)))
        ((refine step_append_lies _ (by rfl) _ _ _ (by rfl) W.heap.size 39 i0 _ 3 24 Try.underlying30 hi hz0 hz1 hz2 rfl (by omega) u3 k (flat3 (l.take k)) (by rfl) ((World.ownsRow.kept HVk.out (grown_of_below ((Below.refl _ _).alloc (Nat.le_refl _) _) none) (by cases hv : u3.ownBlock <;> simp)).drew)
            ⟨wr.heap.size, 0, none⟩ 1 1 [.int .i64 c1, .int .i64 c2, .int .i64 c3] (by rfl) (by rfl) (World.news_of_block (cs := #[.int .i64 c1, .int .i64 c2, .int .i64 c3]) (t := 39) (fr := (0, 0)) (heap_alloc_new wr _)) (by simp [Value.oneCell'])
            (by omega) (by unfold maxLen; omega) (by omega) (by have := hsz.out; simp; omega) (wr.heap.size + 1) (by simp) ?_; intro gg cap2 w1 hown1 hgrow hat hlt2))
      have hb2 := (below_dn (HB.out.alloc hsz.out (Obj.cells #[.int .i64 c1, .int .i64 c2, .int .i64 c3] 39)) 1).grown hgrow (by have := hsz.out; simp; omega) (fun k e => (World.ownsRow.lt HV.out k e).1)
      have HB2 := Lib.hid hb2
      have HV2 : Hid (OwM 39 W.heap.size _ (l.take k ++ [(c1, c2, c3)]) w1) := Lib.hid (by rw [OwM, List.length_append, flat3_app, hle]; exact hown1)
      clear hb2 hown1 hgrow hat
      go_wp2_with fail
      go_roundw
      case rel => exact ⟨k + 1, by omega, by go_num, HB2.out, by rw [hmap.out]; exact HV2.out⟩
      case measure => simp [intOf]; omega
    · obtain rfl : k = l.length := by omega
      go_wp2_with fail
      go_ret
      exact ⟨_, rfl, by have := HV.out; rwa [List.take_length] at this, HB.out⟩
end Go.Proofs.Ytaifhikhdcnacaa
