/- What earlier stages proved: Xf Xg Xh. -/
import Derived.Test.YtiegddohgjofbaaL2
import Derived.Lib.AppendZerosOnto
import Derived.OwnWalk
namespace Go.Proofs.Ytiegddohgjofbaa
open Go.RowKit

theorem p24idS (t : Itm) (W : World) : Calls Try.prog 16 #[.agg t.vals] W fun e w' => e = .returned (.string t.id) ∧ Below W.heap.size W w' := by
  obtain ⟨id, x, y, k, m, d, o, w, c⟩ := t
  go_enter Try.func16, Try.ntmps16
  go_wp2
  go_ret
  exact ⟨rfl, (Below.refl _ _).alloc (Nat.le_refl _) _⟩
set_option maxHeartbeats 1000000 in
set_option maxRecDepth 100000 in
theorem p24nmS (A : Option Addr) (cap : Nat) (ts : List Itm) (W : World) (hl : ts.length ≤ 400)
    (H : ∀ (i : Nat) (t : Itm), ts[i]? = some t → ∃ b o, A = some ⟨b, o, none⟩ ∧ b < W.heap.size ∧ ItmAt W b (o + i * 9) t) :
    Calls Try.prog 15 #[.func (.func 16) #[] #[], .slice A ts.length cap] W fun e w' => ∃ v, e = .returned v ∧ StrsAt W.heap.size v (ts.map Itm.id) w' ∧ Below W.heap.size W w' := by
  obtain ⟨i0, hi, hz0, hz1, hz2⟩ := info_parts infoStr
  have Q := Lib.hid H
  clear H
  go_enter Try.func15, Try.ntmps15
  go_wp2_with fail
  go_loopw [5, 10] (fun v i wr => ∃ k : Nat, k ≤ ts.length ∧ i = .int .i64 k ∧ Below W.heap.size W wr ∧ StrsAt W.heap.size v ((ts.take k).map Itm.id) wr) (fun _ i _ => ts.length - (intOf i).toNat)
  case atStart => exact ⟨0, Nat.zero_le _, rfl, Below.refl _ _, StrsAt.emp _ _⟩
  case round =>
    obtain ⟨k, hk, rfl, hb, hv⟩ := hrel
    have HB := Lib.hid hb
    have HV := Lib.hid hv
    clear hb hv
    by_cases hlt : k < ts.length
    · obtain ⟨t, ht⟩ : ∃ t, ts[k]? = some t := ⟨_, List.getElem?_eq_getElem hlt⟩
      obtain ⟨b, p, hA, hbl, hit⟩ := Q.out k t ht
      subst hA
      have HI := Lib.hid (hit.on HB.out hbl)
      have hSt := Lib.hid (fun u => p24idS t u)
      have hmap := Lib.hid (map_take_succ ht)
      have hle : ((ts.take k).map Itm.id).length = k := by simp; omega
      have hbl2 := Nat.lt_of_lt_of_le hbl HB.out.size
      have AL := Lib.hid (HB.out.alloc HB.out.size (.cells t.vals 33))
      have AV := Lib.hid (HV.out.al (.cells t.vals 33))
      obtain ⟨id, x, y, a1, a2, a3, a4, a5, a6⟩ := t
      obtain ⟨q0, q1, q2, q3, q4, q5, q6, q7, q8⟩ := HI.out.nine
      clear hit ht
      go_wp2_with fail
      refine (hSt.out _).mono ?_
      rintro e w1 ⟨rfl, hb1⟩
      have HB1 := Lib.hid (below_on AL.out hb1)
      have HV1 := Lib.hid (AV.out.on hb1)
      have hz := Lib.hid (show W.heap.size ≤ w1.heap.size from HB1.out.size)
      clear hb1 q0 q1 q2 q3 q4 q5 q6 q7 q8
      go_wp2_with (at_builtin; refine wpList_append_own _ rfl _ _ 28 rfl W.heap.size 9 i0 (.string ⟨#[]⟩) 1 16 Try.underlying28 hi hz0 hz1 hz2 rfl (by decide) _ _ _ rfl (HV1.out.al _) ⟨w1.heap.size, 0, none⟩ 1 1 [.string id] rfl rfl (cell_one_new _ _ _) (by simp [Value.oneCell']) (by unfold maxLen; omega) (by omega) (by have := hz.out; simp; omega) ?_; intro v' w2 hown' hgrow _; obtain ⟨hv2, hb2⟩ := HV1.out.app HB1.out hz.out hown' hgrow; have HV2 := Lib.hid hv2; have HB2 := Lib.hid hb2; clear hown' hgrow hv2 hb2)
      go_roundw
      case rel => exact ⟨k + 1, by omega, by go_num, HB2.out, by rw [hmap.out]; exact HV2.out⟩
      case measure => simp [intOf]; omega
    · obtain rfl : k = ts.length := by omega
      rw [List.take_length] at HV
      go_wp2_with fail
      go_ret
      exact ⟨_, rfl, HV.out, HB.out⟩
theorem p24idF (t : Itm) (W : World) : Calls Try.prog 18 #[.agg t.vals] W fun e w' => e = .returned (.string t.id) ∧ Below W.heap.size W w' := by
  obtain ⟨id, x, y, k, m, d, o, w, c⟩ := t
  go_enter Try.func18, Try.ntmps18
  go_wp2
  go_ret
  exact ⟨rfl, (Below.refl _ _).alloc (Nat.le_refl _) _⟩
set_option maxHeartbeats 1000000 in
set_option maxRecDepth 100000 in
theorem p24nmF (A : Option Addr) (cap : Nat) (ts : List Itm) (W : World) (hl : ts.length ≤ 400)
    (H : ∀ (i : Nat) (t : Itm), ts[i]? = some t → ∃ b o, A = some ⟨b, o, none⟩ ∧ b < W.heap.size ∧ ItmAt W b (o + i * 9) t) :
    Calls Try.prog 17 #[.func (.func 18) #[] #[], .slice A ts.length cap] W fun e w' => ∃ v, e = .returned v ∧ StrsAt W.heap.size v (ts.map Itm.id) w' ∧ Below W.heap.size W w' := by
  obtain ⟨i0, hi, hz0, hz1, hz2⟩ := info_parts infoStr
  have Q := Lib.hid H
  clear H
  go_enter Try.func17, Try.ntmps17
  go_wp2_with fail
  go_loopw [5, 10] (fun v i wr => ∃ k : Nat, k ≤ ts.length ∧ i = .int .i64 k ∧ Below W.heap.size W wr ∧ StrsAt W.heap.size v ((ts.take k).map Itm.id) wr) (fun _ i _ => ts.length - (intOf i).toNat)
  case atStart => exact ⟨0, Nat.zero_le _, rfl, Below.refl _ _, StrsAt.emp _ _⟩
  case round =>
    obtain ⟨k, hk, rfl, hb, hv⟩ := hrel
    have HB := Lib.hid hb
    have HV := Lib.hid hv
    clear hb hv
    by_cases hlt : k < ts.length
    · obtain ⟨t, ht⟩ : ∃ t, ts[k]? = some t := ⟨_, List.getElem?_eq_getElem hlt⟩
      obtain ⟨b, p, hA, hbl, hit⟩ := Q.out k t ht
      subst hA
      have HI := Lib.hid (hit.on HB.out hbl)
      have hSt := Lib.hid (fun u => p24idF t u)
      have hmap := Lib.hid (map_take_succ ht)
      have hle : ((ts.take k).map Itm.id).length = k := by simp; omega
      have hbl2 := Nat.lt_of_lt_of_le hbl HB.out.size
      have AL := Lib.hid (HB.out.alloc HB.out.size (.cells t.vals 35))
      have AV := Lib.hid (HV.out.al (.cells t.vals 35))
      obtain ⟨id, x, y, a1, a2, a3, a4, a5, a6⟩ := t
      obtain ⟨q0, q1, q2, q3, q4, q5, q6, q7, q8⟩ := HI.out.nine
      clear hit ht
      go_wp2_with fail
      refine (hSt.out _).mono ?_
      rintro e w1 ⟨rfl, hb1⟩
      have HB1 := Lib.hid (below_on AL.out hb1)
      have HV1 := Lib.hid (AV.out.on hb1)
      have hz := Lib.hid (show W.heap.size ≤ w1.heap.size from HB1.out.size)
      clear hb1 q0 q1 q2 q3 q4 q5 q6 q7 q8
      go_wp2_with (at_builtin; refine wpList_append_own _ rfl _ _ 28 rfl W.heap.size 9 i0 (.string ⟨#[]⟩) 1 16 Try.underlying28 hi hz0 hz1 hz2 rfl (by decide) _ _ _ rfl (HV1.out.al _) ⟨w1.heap.size, 0, none⟩ 1 1 [.string id] rfl rfl (cell_one_new _ _ _) (by simp [Value.oneCell']) (by unfold maxLen; omega) (by omega) (by have := hz.out; simp; omega) ?_; intro v' w2 hown' hgrow _; obtain ⟨hv2, hb2⟩ := HV1.out.app HB1.out hz.out hown' hgrow; have HV2 := Lib.hid hv2; have HB2 := Lib.hid hb2; clear hown' hgrow hv2 hb2)
      go_roundw
      case rel => exact ⟨k + 1, by omega, by go_num, HB2.out, by rw [hmap.out]; exact HV2.out⟩
      case measure => simp [intOf]; omega
    · obtain rfl : k = ts.length := by omega
      rw [List.take_length] at HV
      go_wp2_with fail
      go_ret
      exact ⟨_, rfl, HV.out, HB.out⟩
set_option maxHeartbeats 2000000 in
set_option maxRecDepth 100000 in
theorem grow_nil (n : Nat) (W : World) (h0 : 0 < n) (hn : n ≤ 1000) : Calls Try.prog 26 #[.slice none 0 0, .int .i64 n] W fun e w' => ∃ v, e = .returned v ∧ StrsAt W.heap.size v [] w' ∧ Below W.heap.size W w' := by
  obtain ⟨i0, hi, hz0, hz1, hz2⟩ := info_parts infoStr
  have d0 : decide ((n : Int) < 0) = false := decide_eq_false (by omega)
  have d1 : decide (0 < (n : Int)) = true := decide_eq_true (by omega)
  have hs0 : 0 < i0.size := by rw [hz1]; decide
  have hold : (Builtin.firstCells i0.size 0 (.slice none 0 0)).run Try.prog W.drew = .ok (List.toArray []) W.drew := run_firstCells_none W.drew i0.size 0 0 0
  have hG1 : n ≤ grownCap W n 0 9 := grownCap_ge W _ _ _
  have hG2 : grownCap W n 0 9 ≤ maxLen := grownCap_le_maxLen W n 0 _ (by unfold maxLen; omega)
  have hr : ∀ ty, (Builtin.append_ #[28, 3] ty #[.slice none 0 0, .int .i64 n]).run Try.prog W =
      .ok (.slice (some ⟨W.heap.size, 0, none⟩) n (grownCap W n 0 9)) (W.drew.alloc (.cells (Builtin.zeroCells #[Value.string ⟨#[]⟩] n ++ Builtin.zeroCells #[Value.string ⟨#[]⟩] (grownCap W n 0 9 - n)) 9)) := fun ty => by
    have h := Lib.run_append_grow_zeros W 28 3 ty 9 i0 (.string ⟨#[]⟩) .i64 .i64 Try.underlying28 Try.underlying3 hi hz0 none 0 0 [] hold n (by omega) hs0 (by omega) (by omega) (by rw [hz2]; omega) (growslice_fits (by omega) (by rw [hz2]; omega))
    simpa [Value.cells] using h
  obtain ⟨G, hG⟩ : ∃ G, G = grownCap W n 0 9 := ⟨_, rfl⟩
  rw [← hG] at hG1 hG2
  simp only [← hG] at hr
  have hG3 : decide ((0 : Int) ≤ (G : Int)) = true := decide_eq_true (by omega)
  clear hold hG
  have fin : StrsAt W.heap.size (.slice (some ⟨W.heap.size, 0, none⟩) 0 G) [] (W.drew.alloc (.cells (Builtin.zeroCells #[Value.string ⟨#[]⟩] n ++ Builtin.zeroCells #[Value.string ⟨#[]⟩] (G - n)) 9)) := by
    refine ⟨by simp, .inr ⟨W.heap.size, G, _, rfl, Nat.le_refl _, heap_alloc_new W.drew _, Nat.zero_le _, hG2, ?_, by simp⟩⟩
    simp [Builtin.zeroCells]; omega
  have FN := Lib.hid fin
  clear fin
  go_enter Try.func26, Try.ntmps26
  go_wp2_with (at_builtin; refine Lib.wpList_append_run _ rfl _ _ _ _ rfl _ _ rfl rfl _ _ (hr _) ?_)
  go_ret
  exact ⟨.slice (some ⟨W.heap.size, 0, none⟩) 0 G, rfl, FN.out, (below_dn (Below.refl _ _) 1).alloc (Nat.le_refl _) _⟩
theorem StrsIn.news {g cap : Nat} {xs : List ByteArray} {w : World} (h : StrsIn g cap xs w) : ∀ j u, (xs.map Value.string)[j]? = some u → w.cell? ((⟨g, 0, none⟩ : Addr).add j) = some u := by
  intro j u hj
  have hlt : j < xs.length := by have := (List.getElem?_eq_some_iff.1 hj).1; simpa using this
  rw [show (⟨g, 0, none⟩ : Addr).add j = ⟨g, j, none⟩ by unfold Addr.add; split <;> simp_all, h.cell j hlt]
  rw [List.getElem?_map, List.getElem?_eq_getElem hlt] at hj
  rw [List.getD_eq_getElem?_getD, List.getElem?_eq_getElem hlt]
  exact hj
theorem StrsAt.apps {B : Nat} {v v' : Value} {xs ys : List ByteArray} {w w1 w2 : World} (hv : StrsAt B v xs w1) (hB : Below B w w1) (hs : B ≤ w1.heap.size)
    (hown : w2.ownsRow B 9 1 v' (xs.length + ys.length) (xs.map Value.string ++ ys.map Value.string)) (hg : w1.grownBy w2 v.ownBlock) : StrsAt B v' (xs ++ ys) w2 ∧ Below B w w2 := by
  refine ⟨?_, hB.grown hg hs (fun k e => (World.ownsRow.lt hv k e).1)⟩
  rw [StrsAt, List.length_append, List.map_append]
  exact hown
theorem grow_nil' (m : Int) (n : Nat) (hm : m = (n : Int)) (W : World) (h0 : 0 < n) (hn : n ≤ 1000) : Calls Try.prog 26 #[.slice none 0 0, .int .i64 m] W fun e w' => ∃ v, e = .returned v ∧ StrsAt W.heap.size v [] w' ∧ Below W.heap.size W w' := by
  subst hm; exact grow_nil n W h0 hn
set_option maxHeartbeats 2000000 in
set_option maxRecDepth 100000 in
theorem con_any (g g1 g2 c1 c2 : Nat) (l1 l2 : List ByteArray) (W : World) (a1 : 0 < l1.length) (n1 : l1.length ≤ 100) (n2 : l2.length ≤ 100)
    (hR : W.heap[g]? = some (.cells #[.slice (some ⟨g1, 0, none⟩) l1.length c1, .slice (some ⟨g2, 0, none⟩) l2.length c2] 28 (0, 0))) (h1 : StrsIn g1 c1 l1 W) (h2 : StrsIn g2 c2 l2 W) :
    Calls Try.prog 14 #[.slice (some ⟨g, 0, none⟩) 2 2] W fun e w' => ∃ v, e = .returned v ∧ StrsAt W.heap.size v (l1 ++ l2) w' ∧ Below W.heap.size W w' := by
  obtain ⟨i0, hi, hz0, hz1, hz2⟩ := info_parts infoStr
  have RR := Lib.hid hR
  have S1 := Lib.hid h1
  have S2 := Lib.hid h2
  have r0 : W.cell? ⟨g, 0, none⟩ = some (.slice (some ⟨g1, 0, none⟩) l1.length c1) := by rw [cell_of_row _ _ _ _ _ _ hR]; rfl
  have r1 : W.cell? ⟨g, 1, none⟩ = some (.slice (some ⟨g2, 0, none⟩) l2.length c2) := by rw [cell_of_row _ _ _ _ _ _ hR]; rfl
  have C0 := Lib.hid r0
  have C1 := Lib.hid r1
  have d1 : decide ((l1.length : Int) < 0) = false := decide_eq_false (by omega)
  have d2 : decide ((l1.length : Int) + (l2.length : Int) < 0) = false := decide_eq_false (by omega)
  have L1 := h1.le
  have L2 := h2.le
  have M1 := h1.mx
  have M2 := h2.mx
  clear hR h1 h2
  go_enter Try.func14, Try.ntmps14
  go_wp2_with fail
  go_loop [3, 11] (fun s i => (i = .int .i64 0 ∧ s = .int .i64 0) ∨ (i = .int .i64 1 ∧ s = .int .i64 (l1.length : Int)) ∨ (i = .int .i64 2 ∧ s = .int .i64 ((l1.length : Int) + (l2.length : Int)))) (fun _ i => 2 - (intOf i).toNat)
  case atStart => exact .inl ⟨rfl, rfl⟩
  case round =>
    rcases hrel with ⟨rfl, rfl⟩ | ⟨rfl, rfl⟩ | ⟨rfl, rfl⟩
    · go_wp2_with fail
      go_round
      case rel => exact .inr (.inl ⟨rfl, rfl⟩)
      case measure => decide
    · go_wp2_with fail
      go_round
      case rel => exact .inr (.inr ⟨rfl, rfl⟩)
      case measure => decide
    · go_wp2_with fail
      refine (grow_nil' _ (l1.length + l2.length) (by omega) _ (by omega) (by omega)).mono ?_
      rintro e w0 ⟨v0, rfl, hv0, hb0⟩
      have V0 := Lib.hid hv0
      have B0 := Lib.hid hb0
      clear hv0 hb0 r0 r1
      go_wp2_with fail
      go_loopw [6, 27] (fun v i wr => Below W.heap.size W wr ∧ ((i = .int .i64 0 ∧ StrsAt W.heap.size v [] wr) ∨ (i = .int .i64 1 ∧ StrsAt W.heap.size v l1 wr) ∨ (i = .int .i64 2 ∧ StrsAt W.heap.size v (l1 ++ l2) wr))) (fun _ i _ => 2 - (intOf i).toNat)
      case atStart => exact ⟨B0.out, .inl ⟨rfl, V0.out⟩⟩
      case round =>
        obtain ⟨hb, hrel⟩ := hrel
        have HB := Lib.hid hb
        have r0 := cell_below C0.out hb
        have r1 := cell_below C1.out hb
        have T1 := Lib.hid (S1.out.on hb)
        have T2 := Lib.hid (S2.out.on hb)
        have hz := Lib.hid hb.size
        clear hb
        rcases hrel with ⟨rfl, hv⟩ | ⟨rfl, hv⟩ | ⟨rfl, hv⟩
        · have HV := Lib.hid hv
          clear hv
          go_wp2_with (at_builtin; refine wpList_append_own _ rfl _ _ 28 rfl W.heap.size 9 i0 (.string ⟨#[]⟩) 1 16 Try.underlying28 hi hz0 hz1 hz2 rfl (by decide) _ 0 [] rfl HV.out ⟨g1, 0, none⟩ l1.length c1 (l1.map Value.string) rfl (by simp) T1.out.news (by simp [Value.oneCell']) (by unfold maxLen; omega) (by omega) hz.out ?_; intro v' w2 hown' hgrow _; obtain ⟨hv2, hb2⟩ := StrsAt.apps (ys := l1) HV.out HB.out hz.out hown' hgrow; have HV2 := Lib.hid hv2; have HB2 := Lib.hid hb2; clear hown' hgrow hv2 hb2)
          go_roundw
          case rel => exact ⟨HB2.out, .inr (.inl ⟨rfl, HV2.out⟩)⟩
          case measure => decide
        · have HV := Lib.hid hv
          clear hv
          go_wp2_with (at_builtin; refine wpList_append_own _ rfl _ _ 28 rfl W.heap.size 9 i0 (.string ⟨#[]⟩) 1 16 Try.underlying28 hi hz0 hz1 hz2 rfl (by decide) _ _ _ rfl HV.out ⟨g2, 0, none⟩ l2.length c2 (l2.map Value.string) rfl (by simp) T2.out.news (by simp [Value.oneCell']) (by unfold maxLen; omega) (by omega) hz.out ?_; intro v' w2 hown' hgrow _; obtain ⟨hv2, hb2⟩ := StrsAt.apps (ys := l2) HV.out HB.out hz.out hown' hgrow; have HV2 := Lib.hid hv2; have HB2 := Lib.hid hb2; clear hown' hgrow hv2 hb2)
          go_roundw
          case rel => exact ⟨HB2.out, .inr (.inr ⟨rfl, HV2.out⟩)⟩
          case measure => decide
        · have HV := Lib.hid hv
          clear hv
          go_wp2_with fail
          go_ret
          exact ⟨_, rfl, HV.out, HB.out⟩
end Go.Proofs.Ytiegddohgjofbaa

namespace Go.Proofs.Ytiegddohgjofbaa
open Go.RowKit

theorem neq_sea (t : Itm) (u : World) : (binOp .neq 33 (.agg t.vals) (.agg t.vals)).run Try.prog u = .ok (.bool false) u := by simp [go_sem]
theorem neq_fea (t : Itm) (u : World) : (binOp .neq 35 (.agg t.vals) (.agg t.vals)).run Try.prog u = .ok (.bool false) u := by simp [go_sem]
set_option maxHeartbeats 4000000 in
set_option maxRecDepth 100000 in
theorem r17same_eq (free : Int) (v1 v2 v1' v2' : Value) (ss fs : List Itm) (W : World) (hs : ss.length ≤ 400) (hf : fs.length ≤ 400) (h1 : SlAt W v1 ss) (h2 : SlAt W v2 fs) (h1' : SlAt W v1' ss) (h2' : SlAt W v2' fs) :
    Calls Try.prog 11 #[.agg #[.int .i64 free, v1, v2], .agg #[.int .i64 free, v1', v2']] W fun e w' => e = .returned (.bool true) ∧ Below W.heap.size W w' := by
  obtain ⟨A1, c1, rfl, _, _, a1⟩ := h1
  obtain ⟨A2, c2, rfl, _, _, a2⟩ := h2
  obtain ⟨E1, e1, rfl, _, _, b1⟩ := h1'
  obtain ⟨E2, e2, rfl, _, _, b2⟩ := h2'
  have Q1 := Lib.hid a1
  have Q2 := Lib.hid a2
  have P1 := Lib.hid b1
  have P2 := Lib.hid b2
  clear a1 a2 b1 b2
  have B0 := Lib.hid (((Below.refl W.heap.size W).alloc (Nat.le_refl _) (catO free (.slice A1 ss.length c1) (.slice A2 fs.length c2))).alloc (by simp) (catO free (.slice E1 ss.length e1) (.slice E2 fs.length e2)))
  have R0 := Lib.hid (heap_alloc2_old W (catO free (.slice A1 ss.length c1) (.slice A2 fs.length c2)) (catO free (.slice E1 ss.length e1) (.slice E2 fs.length e2)))
  have R1 := Lib.hid (heap_alloc2_new W (catO free (.slice A1 ss.length c1) (.slice A2 fs.length c2)) (catO free (.slice E1 ss.length e1) (.slice E2 fs.length e2)))
  go_enter Try.func11, Try.ntmps11
  go_wp2_with fail
  generalize hW1 : (W.alloc (catO free (.slice A1 ss.length c1) (.slice A2 fs.length c2))).alloc (catO free (.slice E1 ss.length e1) (.slice E2 fs.length e2)) = Wz at *
  clear hW1
  go_loopw [5] (fun i wr => ∃ k : Nat, k ≤ ss.length ∧ i = .int .i64 k ∧ Below Wz.heap.size Wz wr) (fun i _ => ss.length - (intOf i).toNat)
  case atStart => exact ⟨0, Nat.zero_le _, rfl, Below.refl _ _⟩
  case round =>
    obtain ⟨k, hk, rfl, hb⟩ := hrel
    have HB := Lib.hid (below_on B0.out hb)
    have HC := Lib.hid hb
    obtain ⟨r0, r1, r2, g0, g1, g2, rz⟩ := row3 (row_on R0.out hb)
    obtain ⟨s0, s1, s2, k0, k1, k2, sz⟩ := row3 (row_on R1.out hb)
    by_cases hlt : k < ss.length
    · obtain ⟨c, hc⟩ : ∃ c, ss[k]? = some c := ⟨_, List.getElem?_eq_getElem hlt⟩
      obtain ⟨b, p, hA, hl1, hit⟩ := Q1.out k c hc
      obtain ⟨b', p', hA', hl2, hit'⟩ := P1.out k c hc
      subst hA hA'
      have C1 := hit.on HB.out hl1
      have C2 := hit'.on HB.out hl2
      have hE1 := neq_sea c
      clear hit hit' hc hb hl1 hl2
      obtain ⟨id, x, y, a1, a2, a3, a4, a5, a6⟩ := c
      obtain ⟨q0, q1, q2, q3, q4, q5, q6, q7, q8⟩ := C1.nine
      obtain ⟨w0, w1, w2, w3, w4, w5, w6, w7, w8⟩ := C2.nine
      clear C1 C2
      go_wp2_with fail
      go_quiet (fail)
      go_wp2_with fail
      go_roundw
      case rel => exact ⟨k + 1, by omega, by go_num, below_dn HC.out _⟩
      case measure => simp [intOf]; omega
    · obtain rfl : k = ss.length := by omega
      have HD := Lib.hid hb
      clear hb
      go_wp2_with fail
      clear r0 r1 r2 g0 g1 g2 rz s0 s1 s2 k0 k1 k2 sz
      go_loopw [6] (fun i wr => ∃ k : Nat, k ≤ fs.length ∧ i = .int .i64 k ∧ Below Wz.heap.size Wz wr) (fun i _ => fs.length - (intOf i).toNat)
      case atStart => exact ⟨0, Nat.zero_le _, rfl, HD.out⟩
      case round =>
        clear HB HC HD
        obtain ⟨k, hk, rfl, hb⟩ := hrel
        have HB := Lib.hid (below_on B0.out hb)
        have HC := Lib.hid hb
        obtain ⟨r0, r1, r2, g0, g1, g2, rz⟩ := row3 (row_on R0.out hb)
        obtain ⟨s0, s1, s2, k0, k1, k2, sz⟩ := row3 (row_on R1.out hb)
        by_cases hlt : k < fs.length
        · obtain ⟨c, hc⟩ : ∃ c, fs[k]? = some c := ⟨_, List.getElem?_eq_getElem hlt⟩
          obtain ⟨b, p, hA, hl1, hit⟩ := Q2.out k c hc
          obtain ⟨b', p', hA', hl2, hit'⟩ := P2.out k c hc
          subst hA hA'
          have C1 := hit.on HB.out hl1
          have C2 := hit'.on HB.out hl2
          have hE1 := neq_fea c
          clear hit hit' hc hb hl1 hl2
          obtain ⟨id, x, y, a1, a2, a3, a4, a5, a6⟩ := c
          obtain ⟨q0, q1, q2, q3, q4, q5, q6, q7, q8⟩ := C1.nine
          obtain ⟨w0, w1, w2, w3, w4, w5, w6, w7, w8⟩ := C2.nine
          clear C1 C2
          go_wp2_with fail
          go_quiet (fail)
          go_wp2_with fail
          go_roundw
          case rel => exact ⟨k + 1, by omega, by go_num, below_dn HC.out _⟩
          case measure => simp [intOf]; omega
        · obtain rfl : k = fs.length := by omega
          have HD := Lib.hid hb
          clear hb
          go_wp2_with fail
          go_ret
          exact ⟨rfl, HB.out⟩
theorem New24.ss {B b b' : Nat} {w : World} (h : New24 B b b' w) : SlAt w (.slice (some ⟨b, 0, none⟩) 8 8) bSs := SlAt.row h.s rfl (by unfold maxLen; decide)
theorem New24.fs {B b b' : Nat} {w : World} (h : New24 B b b' w) : SlAt w (.slice (some ⟨b', 0, none⟩) 25 25) bFs := SlAt.row h.f rfl (by unfold maxLen; decide)
theorem New24.sat {B b b' : Nat} {w : World} (h : New24 B b b' w) : ∀ (i : Nat) (t : Itm), bSs[i]? = some t → ∃ b1 o, some (⟨b, 0, none⟩ : Addr) = some ⟨b1, o, none⟩ ∧ b1 < w.heap.size ∧ ItmAt w b1 (o + i * 9) t := by
  obtain ⟨A, cap, e, _, _, h3⟩ := h.ss
  injection e with e1 e2 e3
  subst e1
  exact h3
theorem New24.fat {B b b' : Nat} {w : World} (h : New24 B b b' w) : ∀ (i : Nat) (t : Itm), bFs[i]? = some t → ∃ b1 o, some (⟨b', 0, none⟩ : Addr) = some ⟨b1, o, none⟩ ∧ b1 < w.heap.size ∧ ItmAt w b1 (o + i * 9) t := by
  obtain ⟨A, cap, e, _, _, h3⟩ := h.fs
  injection e with e1 e2 e3
  subst e1
  exact h3
def bIds : List ByteArray := bSs.map Itm.id ++ bFs.map Itm.id
/-- The names: a slice of the call's own. -/
structure Nam24 (B g cap : Nat) (w : World) : Prop where
  lo : B ≤ g
  n : 33 ≤ cap
  mx : cap ≤ maxLen
  r : ∃ cur : Array Value, w.heap[g]? = some (.cells cur 9 (0, 0)) ∧ ∀ i, i < 33 → cur[i]? = some (.string (bIds.getD i ByteArray.empty))
theorem Nam24.on {B g cap : Nat} {w w' : World} (h : Nam24 B g cap w) (hb : Below w.heap.size w w') : Nam24 B g cap w' := by
  obtain ⟨h1, h2, h3, cur, h4, h5⟩ := h
  exact ⟨h1, h2, h3, cur, row_on h4 hb, h5⟩
theorem StrsAt.nam {B : Nat} {v : Value} {w : World} (h : StrsAt B v bIds w) : ∃ g cap, v = .slice (some ⟨g, 0, none⟩) 33 cap ∧ Nam24 B g cap w := by
  have hl : bIds.length = 33 := rfl
  rcases h.2 with ⟨rfl, hn⟩ | ⟨g, cap, cur, rfl, hb, hg, hnc, hcm, hcs, htake⟩
  · rw [hl] at hn; cases hn
  · refine ⟨g, cap, by rw [hl], hb, hl ▸ hnc, hcm, cur, hg, fun i hi => ?_⟩
    have := World.ownsRow.cells h (g := g) rfl i (.string (bIds.getD i ByteArray.empty)) (by rw [List.getElem?_map, List.getElem?_eq_getElem (by rw [hl]; exact hi), List.getD_eq_getElem?_getD, List.getElem?_eq_getElem (by rw [hl]; exact hi)]; rfl)
    rwa [show (⟨g, 0, none⟩ : Addr).add i = ⟨g, i, none⟩ by unfold Addr.add; split <;> simp_all, cell_of_row _ _ _ _ _ _ hg] at this
theorem Nam24.cell {B g cap : Nat} {w : World} (h : Nam24 B g cap w) (i : Nat) (hi : i < 33) : w.cell? ⟨g, i, none⟩ = some (.string (bIds.getD i ByteArray.empty)) ∧ w.frozen? ⟨g, i, none⟩ = false := by
  obtain ⟨cur, h1, h2⟩ := h.r
  exact ⟨by rw [cell_of_row _ _ _ _ _ _ h1]; exact h2 i hi, frozen_of_row _ _ _ _ _ h1⟩
set_option maxHeartbeats 2000000 in
set_option maxRecDepth 100000 in
theorem p24nam_any (W : World) : Calls Try.prog 7 #[] W fun e w' => ∃ g cap, e = .returned (.slice (some ⟨g, 0, none⟩) 33 cap) ∧ Nam24 W.heap.size g cap w' ∧ Below W.heap.size W w' := by
  go_enter Try.func7, Try.ntmps7
  go_wp2_with fail
  refine (p24cat_any _).mono ?_
  rintro e w1 ⟨b, b', rfl, hn, hb1⟩
  have N1 := Lib.hid (hn.on ((Below.refl w1.heap.size w1).alloc (Nat.le_refl _) (catO 5 (.slice (some ⟨b, 0, none⟩) 8 8) (.slice (some ⟨b', 0, none⟩) 25 25))))
  have B1 := Lib.hid (hb1.alloc hb1.size (catO 5 (.slice (some ⟨b, 0, none⟩) 8 8) (.slice (some ⟨b', 0, none⟩) 25 25)))
  have R1 := Lib.hid (heap_alloc_new w1 (catO 5 (.slice (some ⟨b, 0, none⟩) 8 8) (.slice (some ⟨b', 0, none⟩) 25 25)))
  have Z1 := Lib.hid hb1.size
  clear hn hb1
  go_wp2_with fail
  generalize w1.alloc (catO 5 (.slice (some ⟨b, 0, none⟩) 8 8) (.slice (some ⟨b', 0, none⟩) 25 25)) = u0 at *
  refine wp_region_held_drew (S := fun u => Below u0.heap.size u0 u) (by kernel_rfl) (below_dn (Below.refl _ _) 1) (fun hHeld => ?_)
  refine wpAnyH_take (i := 0) (oi := { dst := some 3, op := _, type := _, pos := _, after := _, guard := _ }) (v := ?v1_0) rfl (by kernel_rfl) (by kernel_rfl) (by kernel_rfl) (fun _ _ _ h => h) (Or.inl ⟨by rfl, ?hy1_0⟩) hHeld ?_
  case hy1_0 => (intro w hSw; (try dsimp only at hSw); go_simp; try with_reducible rfl)
  simp only [Act.put, List.setIfInBounds_toArray, List.set_cons_zero, List.set_cons_succ]
  refine wpAnyH_take (i := 1) (oi := { dst := some 4, op := _, type := _, pos := _, after := _, guard := _ }) (v := ?v1_1) rfl (by kernel_rfl) (by kernel_rfl) (by kernel_rfl) (fun _ _ _ h => h) (Or.inl ⟨by rfl, ?hy1_1⟩) hHeld ?_
  case hy1_1 => (intro w hSw; (try dsimp only at hSw); obtain ⟨r0, r1, r2, g0, g1, g2, rz⟩ := row3 (row_on R1.out hSw); go_simp; try with_reducible rfl)
  simp only [Act.put, List.setIfInBounds_toArray, List.set_cons_zero, List.set_cons_succ]
  refine wpAnyH_take (i := 3) (oi := { dst := some 6, op := _, type := _, pos := _, after := _, guard := _ }) (v := ?v1_3) rfl (by kernel_rfl) (by kernel_rfl) (by kernel_rfl) (fun _ _ _ h => h) (Or.inl ⟨by rfl, ?hy1_3⟩) hHeld ?_
  case hy1_3 => (intro w hSw; (try dsimp only at hSw); go_simp; try with_reducible rfl)
  simp only [Act.put, List.setIfInBounds_toArray, List.set_cons_zero, List.set_cons_succ]
  refine wpAnyH_take (i := 4) (oi := { dst := some 7, op := _, type := _, pos := _, after := _, guard := _ }) (v := ?v1_4) rfl (by kernel_rfl) (by kernel_rfl) (by kernel_rfl) (fun _ _ _ h => h) (Or.inl ⟨by rfl, ?hy1_4⟩) hHeld ?_
  case hy1_4 => (intro w hSw; (try dsimp only at hSw); obtain ⟨r0, r1, r2, g0, g1, g2, rz⟩ := row3 (row_on R1.out hSw); go_simp; try with_reducible rfl)
  simp only [Act.put, List.setIfInBounds_toArray, List.set_cons_zero, List.set_cons_succ]
  refine wpAnyH_ready (rs := [2]) (by kernel_rfl) (by simp) ?_
  refine AllReadyH.cons (o := { dst := some 5, op := _, type := _, pos := _, after := _, guard := _ }) rfl (fun K hK => ?_) AllReadyH.nil
  go_simp
  go_at_call 15
  refine (p24nmS (some ⟨b, 0, none⟩) 8 bSs _ (by decide) ((N1.out.on hHeld).sat)).mono ?_
  rintro e2 w2 ⟨v2, rfl, hv2, hb2⟩
  have hs2 := below_on hHeld hb2
  obtain ⟨g2, cp2, rfl, hS2⟩ := (hv2.get).resolve_left (fun h => by cases h.2)
  clear hv2
  refine hK.out _ _ hs2 (fun hHeld => ?_)
  clear hK K
  refine wpAnyH_ready (rs := [5]) (by kernel_rfl) (by simp) ?_
  refine AllReadyH.cons (o := { dst := some 8, op := _, type := _, pos := _, after := _, guard := _ }) rfl (fun K hK => ?_) AllReadyH.nil
  go_simp
  go_at_call 17
  refine (p24nmF (some ⟨b', 0, none⟩) 25 bFs _ (by decide) ((N1.out.on hHeld).fat)).mono ?_
  rintro e3 w3 ⟨v3, rfl, hv3, hb3⟩
  have hs3 := below_on hHeld hb3
  have hS2b := hS2.on hb3
  obtain ⟨g3, cp3, rfl, hS3⟩ := (hv3.get).resolve_left (fun h => by cases h.2)
  clear hv3
  refine hK.out _ _ hs3 (fun hHeld => ?_)
  clear hK K
  refine wpAnyH_ready (rs := [6]) (by kernel_rfl) (by simp) ?_
  refine AllReadyH.cons (o := { dst := some 9, op := _, type := _, pos := _, after := _, guard := _ }) rfl (fun K hK => ?_) AllReadyH.nil
  go_simp
  have hs4 := hs3.alloc hs3.size (.cells #[.slice (some ⟨g2, 0, none⟩) (bSs.map Itm.id).length cp2, .slice (some ⟨g3, 0, none⟩) (bFs.map Itm.id).length cp3] 28)
  have hR4 := heap_alloc_new w3 (.cells #[.slice (some ⟨g2, 0, none⟩) (bSs.map Itm.id).length cp2, .slice (some ⟨g3, 0, none⟩) (bFs.map Itm.id).length cp3] 28)
  have hS2c := hS2b.on ((Below.refl w3.heap.size w3).alloc (Nat.le_refl _) (.cells #[.slice (some ⟨g2, 0, none⟩) (bSs.map Itm.id).length cp2, .slice (some ⟨g3, 0, none⟩) (bFs.map Itm.id).length cp3] 28))
  have hS3c := hS3.on ((Below.refl w3.heap.size w3).alloc (Nat.le_refl _) (.cells #[.slice (some ⟨g2, 0, none⟩) (bSs.map Itm.id).length cp2, .slice (some ⟨g3, 0, none⟩) (bFs.map Itm.id).length cp3] 28))
  refine hK.out _ _ hs4 (fun hHeld => ?_)
  clear hK K
  refine wpAnyH_ready (rs := [7]) (by kernel_rfl) (by simp) ?_
  refine AllReadyH.cons (o := { dst := some 10, op := _, type := _, pos := _, after := _, guard := _ }) rfl (fun K hK => ?_) AllReadyH.nil
  go_simp
  go_at_call 14
  refine (con_any w3.heap.size g2 g3 cp2 cp3 (bSs.map Itm.id) (bFs.map Itm.id) _ (by decide) (by decide) (by decide) hR4 hS2c hS3c).mono ?_
  rintro e5 w5 ⟨v5, rfl, hv5, hb5⟩
  have hs5 := below_on hHeld hb5
  obtain ⟨g, cap, rfl, hN⟩ := StrsAt.nam (show StrsAt _ v5 bIds w5 from hv5)
  have zz := Nat.le_trans B1.out.size hs4.size
  refine hK.out _ _ hs5 (fun hHeld => ?_)
  clear hK K
  refine wpAnyH_take (i := 8) (oi := { dst := some 0, op := _, type := _, pos := _, after := _, guard := _ }) (v := ?v1_8) rfl (by kernel_rfl) (by kernel_rfl) (by kernel_rfl) (fun _ _ _ h => h) (Or.inl ⟨by rfl, ?hy1_8⟩) hHeld ?_
  case hy1_8 => (intro w hSw; (try dsimp only at hSw); go_simp; try with_reducible rfl)
  simp only [Act.put, List.setIfInBounds_toArray, List.set_cons_zero]
  refine wpAnyH_done (by kernel_rfl) ?_ _
  have HN := Lib.hid hN
  have HB := Lib.hid (below_on B1.out hs5)
  have HZ := Lib.hid zz
  clear hN hHeld hs2 hs3 hs4 hs5 hb2 hb3 hb5
  go_wp2_with fail
  go_ret
  exact ⟨_, _, rfl, ⟨Nat.le_trans HZ.out HN.out.lo, HN.out.n, HN.out.mx, HN.out.r⟩, HB.out⟩
set_option maxHeartbeats 2000000 in
set_option maxRecDepth 100000 in
theorem c24awake_any (W : World) : Calls Try.prog 5 #[] W fun e w' => e = .returned (.bool true) ∧ Below W.heap.size W w' := by
  go_enter Try.func5, Try.ntmps5
  go_wp2_with fail
  refine (p24cat_any _).mono ?_
  rintro e w1 ⟨b, b', rfl, hn, hb1⟩
  have N1 := Lib.hid (hn.on ((Below.refl w1.heap.size w1).alloc (Nat.le_refl _) (catO 5 (.slice (some ⟨b, 0, none⟩) 8 8) (.slice (some ⟨b', 0, none⟩) 25 25))))
  have B1 := Lib.hid (hb1.alloc hb1.size (catO 5 (.slice (some ⟨b, 0, none⟩) 8 8) (.slice (some ⟨b', 0, none⟩) 25 25)))
  have R1 := Lib.hid (heap_alloc_new w1 (catO 5 (.slice (some ⟨b, 0, none⟩) 8 8) (.slice (some ⟨b', 0, none⟩) 25 25)))
  clear hn hb1
  go_wp2_with fail
  generalize w1.alloc (catO 5 (.slice (some ⟨b, 0, none⟩) 8 8) (.slice (some ⟨b', 0, none⟩) 25 25)) = u0 at *
  refine (p24nam_any _).mono ?_
  rintro e w2 ⟨g, cap, rfl, hm, hb2⟩
  have M2 := Lib.hid hm
  have N2 := Lib.hid (N1.out.on hb2)
  have B2 := Lib.hid (below_on B1.out hb2)
  have R2 := Lib.hid (row_on R1.out hb2)
  have K2 : (33 : Nat) ≤ cap := hm.n
  clear hm hb2
  go_wp2_with fail
  refine wp_region_held_drew (S := fun u => Below w2.heap.size w2 u) (by kernel_rfl) (below_dn (Below.refl _ _) 1) (fun hHeld => ?_)
  refine wpAnyH_take (i := 0) (oi := { dst := some 5, op := _, type := _, pos := _, after := _, guard := _ }) (v := ?v2_0) rfl (by kernel_rfl) (by kernel_rfl) (by kernel_rfl) (fun _ _ _ h => h) (Or.inl ⟨by rfl, ?hy2_0⟩) hHeld ?_
  case hy2_0 => (intro w hSw; (try dsimp only at hSw); obtain ⟨r0, r1, r2, g0, g1, g2, rz⟩ := row3 (row_on R2.out hSw); go_simp; try with_reducible rfl)
  simp only [Act.put, List.setIfInBounds_toArray, List.set_cons_zero, List.set_cons_succ]
  refine wpAnyH_ready (rs := [1]) (by kernel_rfl) (by simp) ?_
  refine AllReadyH.cons (o := { dst := some 6, op := _, type := _, pos := _, after := _, guard := _ }) rfl (fun K hK => ?_) AllReadyH.nil
  go_simp
  go_at_call 8
  refine (r24cat_any _).mono ?_
  rintro e3 w3 ⟨vS, vF, rfl, hS3, hF3, hb3⟩
  have hs3 := below_on hHeld hb3
  refine hK.out _ _ hs3 (fun hHeld => ?_)
  clear hK K
  refine wpAnyH_ready (rs := [2]) (by kernel_rfl) (by simp) ?_
  refine AllReadyH.cons (o := { dst := some 7, op := _, type := _, pos := _, after := _, guard := _ }) rfl (fun K hK => ?_) AllReadyH.nil
  go_simp
  go_at_call 11
  refine (r17same_eq 5 _ _ _ _ bSs bFs _ (by decide) (by decide) (N2.out.on hHeld).ss (N2.out.on hHeld).fs hS3 hF3).mono ?_
  rintro e4 w4 ⟨rfl, hb4⟩
  have hs4 := below_on hHeld hb4
  refine hK.out _ _ hs4 (fun hHeld => ?_)
  clear hK K
  refine wpAnyH_take (i := 3) (oi := { dst := some 8, op := _, type := _, pos := _, after := _, guard := _ }) (v := ?v2_3) rfl (by kernel_rfl) (by kernel_rfl) (by kernel_rfl) (fun _ _ _ h => h) (Or.inl ⟨by rfl, ?hy2_3⟩) hHeld ?_
  case hy2_3 => (intro w hSw; (try dsimp only at hSw); go_simp; try with_reducible rfl)
  simp only [Act.put, List.setIfInBounds_toArray, List.set_cons_zero, List.set_cons_succ]
  refine wpAnyH_take (i := 4) (oi := { dst := some 9, op := _, type := _, pos := _, after := _, guard := _ }) (v := ?v2_4) rfl (by kernel_rfl) (by kernel_rfl) (by kernel_rfl) (fun _ _ _ h => h) (Or.inl ⟨by rfl, ?hy2_4⟩) hHeld ?_
  case hy2_4 => (intro w hSw; (try dsimp only at hSw); go_simp; try with_reducible rfl)
  simp only [Act.put, List.setIfInBounds_toArray, List.set_cons_zero, List.set_cons_succ]
  refine wpAnyH_take (i := 5) (oi := { dst := some 10, op := _, type := _, pos := _, after := _, guard := _ }) (v := ?v2_5) rfl (by kernel_rfl) (by kernel_rfl) (by kernel_rfl) (fun _ _ _ h => h) (Or.inl ⟨by rfl, ?hy2_5⟩) hHeld ?_
  case hy2_5 => (intro w hSw; (try dsimp only at hSw); go_simp; try with_reducible rfl)
  simp only [Act.put, List.setIfInBounds_toArray, List.set_cons_zero, List.set_cons_succ]
  refine wpAnyH_take (i := 6) (oi := { dst := some 11, op := _, type := _, pos := _, after := _, guard := _ }) (v := ?v2_6) rfl (by kernel_rfl) (by kernel_rfl) (by kernel_rfl) (fun _ _ _ h => h) (Or.inl ⟨by rfl, ?hy2_6⟩) hHeld ?_
  case hy2_6 => (intro w hSw; (try dsimp only at hSw); go_simp; try with_reducible rfl)
  simp only [Act.put, List.setIfInBounds_toArray, List.set_cons_zero, List.set_cons_succ]
  refine wpAnyH_take (i := 7) (oi := { dst := some 12, op := _, type := _, pos := _, after := _, guard := _ }) (v := ?v2_7) rfl (by kernel_rfl) (by kernel_rfl) (by kernel_rfl) (fun _ _ _ h => h) (Or.inl ⟨by rfl, ?hy2_7⟩) hHeld ?_
  case hy2_7 => (intro w hSw; (try dsimp only at hSw); go_simp; try with_reducible rfl)
  simp only [Act.put, List.setIfInBounds_toArray, List.set_cons_zero, List.set_cons_succ]
  refine wpAnyH_take (i := 8) (oi := { dst := some 13, op := _, type := _, pos := _, after := _, guard := _ }) (v := ?v2_8) rfl (by kernel_rfl) (by kernel_rfl) (by kernel_rfl) (fun _ _ _ h => h) (Or.inl ⟨by rfl, ?hy2_8⟩) hHeld ?_
  case hy2_8 => (intro w hSw; (try dsimp only at hSw); go_simp; try with_reducible rfl)
  simp only [Act.put, List.setIfInBounds_toArray, List.set_cons_zero, List.set_cons_succ]
  refine wpAnyH_take (i := 9) (oi := { dst := some 14, op := _, type := _, pos := _, after := _, guard := _ }) (v := ?v2_9) rfl (by kernel_rfl) (by kernel_rfl) (by kernel_rfl) (fun _ _ _ h => h) (Or.inl ⟨by rfl, ?hy2_9⟩) hHeld ?_
  case hy2_9 => (intro w hSw; (try dsimp only at hSw); go_simp; try with_reducible rfl)
  simp only [Act.put, List.setIfInBounds_toArray, List.set_cons_zero, List.set_cons_succ]
  refine wpAnyH_take (i := 10) (oi := { dst := some 15, op := _, type := _, pos := _, after := _, guard := _ }) (v := ?v2_10) rfl (by kernel_rfl) (by kernel_rfl) (by kernel_rfl) (fun _ _ _ h => h) (Or.inl ⟨by rfl, ?hy2_10⟩) hHeld ?_
  case hy2_10 => (intro w hSw; (try dsimp only at hSw); go_simp; try with_reducible rfl)
  simp only [Act.put, List.setIfInBounds_toArray, List.set_cons_zero, List.set_cons_succ]
  refine wpAnyH_take (i := 11) (oi := { dst := some 16, op := _, type := _, pos := _, after := _, guard := _ }) (v := ?v2_11) rfl (by kernel_rfl) (by kernel_rfl) (by kernel_rfl) (fun _ _ _ h => h) (Or.inl ⟨by rfl, ?hy2_11⟩) hHeld ?_
  case hy2_11 => (intro w hSw; (try dsimp only at hSw); have hl : w.cell? ⟨g, 0, none⟩ = some (.string ⟨#[98, 97, 112, 116, 105, 115, 109, 45, 116, 105, 100, 101]⟩) := ((M2.out.on hSw).cell 0 (by decide)).1; go_simp; try with_reducible rfl)
  simp only [Act.put, List.setIfInBounds_toArray, List.set_cons_zero, List.set_cons_succ]
  refine wpAnyH_take (i := 12) (oi := { dst := some 17, op := _, type := _, pos := _, after := _, guard := _ }) (v := ?v2_12) rfl (by kernel_rfl) (by kernel_rfl) (by kernel_rfl) (fun _ _ _ h => h) (Or.inl ⟨by rfl, ?hy2_12⟩) hHeld ?_
  case hy2_12 => (intro w hSw; (try dsimp only at hSw); go_simp; try with_reducible rfl)
  simp only [Act.put, List.setIfInBounds_toArray, List.set_cons_zero, List.set_cons_succ]
  refine wpAnyH_take (i := 13) (oi := { dst := some 18, op := _, type := _, pos := _, after := _, guard := _ }) (v := ?v2_13) rfl (by kernel_rfl) (by kernel_rfl) (by kernel_rfl) (fun _ _ _ h => h) (Or.inl ⟨by rfl, ?hy2_13⟩) hHeld ?_
  case hy2_13 => (intro w hSw; (try dsimp only at hSw); go_simp; try with_reducible rfl)
  simp only [Act.put, List.setIfInBounds_toArray, List.set_cons_zero, List.set_cons_succ]
  refine wpAnyH_take (i := 14) (oi := { dst := some 19, op := _, type := _, pos := _, after := _, guard := _ }) (v := ?v2_14) rfl (by kernel_rfl) (by kernel_rfl) (by kernel_rfl) (fun _ _ _ h => h) (Or.inl ⟨by rfl, ?hy2_14⟩) hHeld ?_
  case hy2_14 => (intro w hSw; (try dsimp only at hSw); go_simp; try with_reducible rfl)
  simp only [Act.put, List.setIfInBounds_toArray, List.set_cons_zero, List.set_cons_succ]
  refine wpAnyH_take (i := 15) (oi := { dst := some 20, op := _, type := _, pos := _, after := _, guard := _ }) (v := ?v2_15) rfl (by kernel_rfl) (by kernel_rfl) (by kernel_rfl) (fun _ _ _ h => h) (Or.inl ⟨by rfl, ?hy2_15⟩) hHeld ?_
  case hy2_15 => (intro w hSw; (try dsimp only at hSw); go_simp; try with_reducible rfl)
  simp only [Act.put, List.setIfInBounds_toArray, List.set_cons_zero, List.set_cons_succ]
  refine wpAnyH_take (i := 16) (oi := { dst := some 21, op := _, type := _, pos := _, after := _, guard := _ }) (v := ?v2_16) rfl (by kernel_rfl) (by kernel_rfl) (by kernel_rfl) (fun _ _ _ h => h) (Or.inl ⟨by rfl, ?hy2_16⟩) hHeld ?_
  case hy2_16 => (intro w hSw; (try dsimp only at hSw); go_simp; try with_reducible rfl)
  simp only [Act.put, List.setIfInBounds_toArray, List.set_cons_zero, List.set_cons_succ]
  refine wpAnyH_take (i := 17) (oi := { dst := some 22, op := _, type := _, pos := _, after := _, guard := _ }) (v := ?v2_17) rfl (by kernel_rfl) (by kernel_rfl) (by kernel_rfl) (fun _ _ _ h => h) (Or.inl ⟨by rfl, ?hy2_17⟩) hHeld ?_
  case hy2_17 => (intro w hSw; (try dsimp only at hSw); have hl : w.cell? ⟨g, 32, none⟩ = some (.string ⟨#[115, 116, 101, 112, 104, 101, 110]⟩) := ((M2.out.on hSw).cell 32 (by decide)).1; go_simp; try with_reducible rfl)
  simp only [Act.put, List.setIfInBounds_toArray, List.set_cons_zero, List.set_cons_succ]
  refine wpAnyH_take (i := 18) (oi := { dst := some 23, op := _, type := _, pos := _, after := _, guard := _ }) (v := ?v2_18) rfl (by kernel_rfl) (by kernel_rfl) (by kernel_rfl) (fun _ _ _ h => h) (Or.inl ⟨by rfl, ?hy2_18⟩) hHeld ?_
  case hy2_18 => (intro w hSw; (try dsimp only at hSw); go_simp; try with_reducible rfl)
  simp only [Act.put, List.setIfInBounds_toArray, List.set_cons_zero, List.set_cons_succ]
  refine wpAnyH_take (i := 19) (oi := { dst := some 24, op := _, type := _, pos := _, after := _, guard := _ }) (v := ?v2_19) rfl (by kernel_rfl) (by kernel_rfl) (by kernel_rfl) (fun _ _ _ h => h) (Or.inl ⟨by rfl, ?hy2_19⟩) hHeld ?_
  case hy2_19 => (intro w hSw; (try dsimp only at hSw); go_simp; try with_reducible rfl)
  simp only [Act.put, List.setIfInBounds_toArray, List.set_cons_zero, List.set_cons_succ]
  refine wpAnyH_take (i := 20) (oi := { dst := some 0, op := _, type := _, pos := _, after := _, guard := _ }) (v := ?v2_20) rfl (by kernel_rfl) (by kernel_rfl) (by kernel_rfl) (fun _ _ _ h => h) (Or.inl ⟨by rfl, ?hy2_20⟩) hHeld ?_
  case hy2_20 => (intro w hSw; (try dsimp only at hSw); go_simp; try with_reducible rfl)
  simp only [Act.put, List.setIfInBounds_toArray, List.set_cons_zero]
  refine wpAnyH_done (by kernel_rfl) ?_ _
  have HB := Lib.hid (below_on B2.out hs4)
  clear hHeld hs3 hs4 hb3 hb4
  go_wp2_with fail
  go_ret
  exact ⟨rfl, HB.out⟩
end Go.Proofs.Ytiegddohgjofbaa

namespace Go.Proofs.Ytiegddohgjofbaa
open Go.RowKit

def bId (i : Nat) : ByteArray := bIds.getD i ByteArray.empty
set_option maxRecDepth 100000 in
theorem bId_all : ((List.range 33).all fun i => idn (bId i) && ((List.range 33).all fun k => decide (((bId i).toList == (bId k).toList) = decide (i = k)))) = true := by kernel_rfl
theorem bId_ok {i : Nat} (hi : i < 33) : idn (bId i) = true := by
  have := List.all_eq_true.1 bId_all i (List.mem_range.2 hi)
  rw [Bool.and_eq_true] at this
  exact this.1
theorem bId_ne {i k : Nat} (hi : i < 33) (hk : k < 33) (h : i ≠ k) : ((bId i).toList == (bId k).toList) = false := by
  have := List.all_eq_true.1 bId_all i (List.mem_range.2 hi)
  rw [Bool.and_eq_true] at this
  have := List.all_eq_true.1 this.2 k (List.mem_range.2 hk)
  rw [of_decide_eq_true this]
  exact decide_eq_false h
theorem bSs_id {k : Nat} (h : k < 8) : ∃ t, bSs[k]? = some t ∧ t.id = bId k := by
  have hl : bSs.length = 8 := rfl
  refine ⟨bSs[k], List.getElem?_eq_getElem (by omega), ?_⟩
  unfold bId bIds
  rw [List.getD_eq_getElem?_getD, List.getElem?_append_left (by simp [hl]; omega), List.getElem?_map, List.getElem?_eq_getElem (by omega)]
  rfl
theorem bFs_id {k j : Nat} (h : j < 25) (hk : k = j + 8) : ∃ t, bFs[j]? = some t ∧ t.id = bId k := by
  subst hk
  have hl : bFs.length = 25 := rfl
  have hs : bSs.length = 8 := rfl
  refine ⟨bFs[j], List.getElem?_eq_getElem (by omega), ?_⟩
  unfold bId bIds
  rw [List.getD_eq_getElem?_getD, List.getElem?_append_right (by simp [hs]), List.length_map, hs, Nat.add_sub_cancel, List.getElem?_map, List.getElem?_eq_getElem (by omega)]
  rfl
theorem Nam24.at {B g cap : Nat} {w : World} (h : Nam24 B g cap w) {i : Nat} (hi : i < 33) : w.cell? ⟨g, i, none⟩ = some (.string (bId i)) := (h.cell i hi).1
theorem Nam24.put {B g cap b j : Nat} {w : World} (h : Nam24 B g cap w) (hb : b < B) (v : Value) : Nam24 B g cap (w.setCell ⟨b, j, none⟩ v) := by
  obtain ⟨h1, h2, h3, cur, h4, h5⟩ := h
  exact ⟨h1, h2, h3, cur, by rw [heap_setCell_other _ _ _ _ (by simp; omega)]; exact h4, h5⟩
theorem row9_cell {w : World} {b : Nat} {l : List Itm} {t : TypeId} (h : w.heap[b]? = some (.cells (flat9 l).toArray t (0, 0))) {k : Nat} {x : Itm} (hk : l[k]? = some x) : w.cell? ⟨b, k * 9, none⟩ = some (.string x.id) ∧ w.frozen? ⟨b, k * 9, none⟩ = false := by
  refine ⟨?_, frozen_of_row _ _ _ _ _ h⟩
  rw [cell_of_row _ _ _ _ _ _ h]
  have := flat9_at l k x hk 0 (by decide)
  simpa using this
set_option maxHeartbeats 2000000 in
set_option maxRecDepth 100000 in
theorem l24d_same (i : Nat) (hi : i < 33) (a b : Int) (h1 : a.tmod 33 = (i : Int)) (h2 : b.tmod 33 = (i : Int)) (a0 : 0 ≤ a) (b0 : 0 ≤ b) (a1 : a < 256) (b1 : b < 256) (W : World) : Calls Try.prog 4 #[.int .u8 a, .int .u8 b] W fun e w' => e = .returned (.bool true) ∧ Below W.heap.size W w' := by
  have h1' : a % 33 = (i : Int) := by rw [← h1, Int.tmod_eq_emod_of_nonneg a0]
  have h2' : b % 33 = (i : Int) := by rw [← h2, Int.tmod_eq_emod_of_nonneg b0]
  have wa : IntKind.i64.wrap a = a := by rw [IntKind.wrap_i64]; omega
  have wb : IntKind.i64.wrap b = b := by rw [IntKind.wrap_i64]; omega
  have idi := Lib.hid (bId_ok hi)
  have ci : (i : Int) < 33 := by omega
  go_enter Try.func4, Try.ntmps4
  go_wp2_with fail
  refine (c24awake_any _).mono ?_
  rintro e w1 ⟨rfl, hb1⟩
  have B1 := Lib.hid hb1
  clear hb1
  go_wp2_with fail
  refine (p24nam_any _).mono ?_
  rintro e w2 ⟨g, cap, rfl, hm, hb2⟩
  have M2 := Lib.hid hm
  have B2 := Lib.hid (below_on B1.out hb2)
  have K2 : (33 : Nat) ≤ cap := hm.n
  clear hm hb2
  go_wp2_with fail
  refine wp_region_held_drew (S := fun u => Below w2.heap.size w2 u) (by kernel_rfl) (below_dn (Below.refl _ _) 1) (fun hHeld => ?_)
  refine wpAnyH_take (i := 0) (oi := { dst := some 17, op := _, type := _, pos := _, after := _, guard := _ }) (v := ?v1_0) rfl (by kernel_rfl) (by kernel_rfl) (by kernel_rfl) (fun _ _ _ h => h) (Or.inl ⟨by rfl, ?hy1_0⟩) hHeld ?_
  case hy1_0 => (intro w hSw; (try dsimp only at hSw); go_simp; try with_reducible rfl)
  simp only [Act.put, List.setIfInBounds_toArray, List.set_cons_zero, List.set_cons_succ]
  refine wpAnyH_take (i := 1) (oi := { dst := some 18, op := _, type := _, pos := _, after := _, guard := _ }) (v := ?v1_1) rfl (by kernel_rfl) (by kernel_rfl) (by kernel_rfl) (fun _ _ _ h => h) (Or.inl ⟨by rfl, ?hy1_1⟩) hHeld ?_
  case hy1_1 => (intro w hSw; (try dsimp only at hSw); go_simp; try with_reducible rfl)
  simp only [Act.put, List.setIfInBounds_toArray, List.set_cons_zero, List.set_cons_succ]
  refine wpAnyH_take (i := 2) (oi := { dst := some 19, op := _, type := _, pos := _, after := _, guard := _ }) (v := ?v1_2) rfl (by kernel_rfl) (by kernel_rfl) (by kernel_rfl) (fun _ _ _ h => h) (Or.inl ⟨by rfl, ?hy1_2⟩) hHeld ?_
  case hy1_2 => (intro w hSw; (try dsimp only at hSw); go_simp; try with_reducible rfl)
  simp only [Act.put, List.setIfInBounds_toArray, List.set_cons_zero, List.set_cons_succ]
  refine wpAnyH_take (i := 3) (oi := { dst := some 20, op := _, type := _, pos := _, after := _, guard := _ }) (v := ?v1_3) rfl (by kernel_rfl) (by kernel_rfl) (by kernel_rfl) (fun _ _ _ h => h) (Or.inl ⟨by rfl, ?hy1_3⟩) hHeld ?_
  case hy1_3 => (intro w hSw; (try dsimp only at hSw); have hl := (M2.out.on hSw).at hi; go_simp; try with_reducible rfl)
  simp only [Act.put, List.setIfInBounds_toArray, List.set_cons_zero, List.set_cons_succ]
  refine wpAnyH_ready (rs := [4]) (by kernel_rfl) (by simp) ?_
  refine AllReadyH.cons (o := { dst := some 21, op := _, type := _, pos := _, after := _, guard := _ }) rfl (fun K hK => ?_) AllReadyH.nil
  go_simp
  go_at_call 10
  refine (r17id_any (bId i) _).mono ?_
  rintro e3 w3 ⟨rfl, rfl⟩
  rw [idi.out]
  refine hK.out _ _ hHeld (fun hHeld => ?_)
  clear hK K
  refine wpAnyH_take (i := 5) (oi := { dst := some 22, op := _, type := _, pos := _, after := _, guard := _ }) (v := ?v1_5) rfl (by kernel_rfl) (by kernel_rfl) (by kernel_rfl) (fun _ _ _ h => h) (Or.inl ⟨by rfl, ?hy1_5⟩) hHeld ?_
  case hy1_5 => (intro w hSw; (try dsimp only at hSw); go_simp; try with_reducible rfl)
  simp only [Act.put, List.setIfInBounds_toArray, List.set_cons_zero, List.set_cons_succ]
  refine wpAnyH_take (i := 6) (oi := { dst := some 23, op := _, type := _, pos := _, after := _, guard := _ }) (v := ?v1_6) rfl (by kernel_rfl) (by kernel_rfl) (by kernel_rfl) (fun _ _ _ h => h) (Or.inl ⟨by rfl, ?hy1_6⟩) hHeld ?_
  case hy1_6 => (intro w hSw; (try dsimp only at hSw); go_simp; try with_reducible rfl)
  simp only [Act.put, List.setIfInBounds_toArray, List.set_cons_zero, List.set_cons_succ]
  refine wpAnyH_take (i := 7) (oi := { dst := some 24, op := _, type := _, pos := _, after := _, guard := _ }) (v := ?v1_7) rfl (by kernel_rfl) (by kernel_rfl) (by kernel_rfl) (fun _ _ _ h => h) (Or.inl ⟨by rfl, ?hy1_7⟩) hHeld ?_
  case hy1_7 => (intro w hSw; (try dsimp only at hSw); go_simp; try with_reducible rfl)
  simp only [Act.put, List.setIfInBounds_toArray, List.set_cons_zero, List.set_cons_succ]
  refine wpAnyH_take (i := 8) (oi := { dst := some 25, op := _, type := _, pos := _, after := _, guard := _ }) (v := ?v1_8) rfl (by kernel_rfl) (by kernel_rfl) (by kernel_rfl) (fun _ _ _ h => h) (Or.inl ⟨by rfl, ?hy1_8⟩) hHeld ?_
  case hy1_8 => (intro w hSw; (try dsimp only at hSw); go_simp; try with_reducible rfl)
  simp only [Act.put, List.setIfInBounds_toArray, List.set_cons_zero, List.set_cons_succ]
  refine wpAnyH_take (i := 9) (oi := { dst := some 26, op := _, type := _, pos := _, after := _, guard := _ }) (v := ?v1_9) rfl (by kernel_rfl) (by kernel_rfl) (by kernel_rfl) (fun _ _ _ h => h) (Or.inl ⟨by rfl, ?hy1_9⟩) hHeld ?_
  case hy1_9 => (intro w hSw; (try dsimp only at hSw); have hl := (M2.out.on hSw).at hi; go_simp; try with_reducible rfl)
  simp only [Act.put, List.setIfInBounds_toArray, List.set_cons_zero, List.set_cons_succ]
  refine wpAnyH_take (i := 10) (oi := { dst := some 27, op := _, type := _, pos := _, after := _, guard := _ }) (v := ?v1_10) rfl (by kernel_rfl) (by kernel_rfl) (by kernel_rfl) (fun _ _ _ h => h) (Or.inl ⟨by rfl, ?hy1_10⟩) hHeld ?_
  case hy1_10 => (intro w hSw; (try dsimp only at hSw); go_simp; try with_reducible rfl)
  simp only [Act.put, List.setIfInBounds_toArray, List.set_cons_zero, List.set_cons_succ]
  refine wpAnyH_take (i := 11) (oi := { dst := some 28, op := _, type := _, pos := _, after := _, guard := _ }) (v := ?v1_11) rfl (by kernel_rfl) (by kernel_rfl) (by kernel_rfl) (fun _ _ _ h => h) (Or.inl ⟨by rfl, ?hy1_11⟩) hHeld ?_
  case hy1_11 => (intro w hSw; (try dsimp only at hSw); go_simp; try with_reducible rfl)
  simp only [Act.put, List.setIfInBounds_toArray, List.set_cons_zero, List.set_cons_succ]
  refine wpAnyH_take (i := 12) (oi := { dst := some 29, op := _, type := _, pos := _, after := _, guard := _ }) (v := ?v1_12) rfl (by kernel_rfl) (by kernel_rfl) (by kernel_rfl) (fun _ _ _ h => h) (Or.inl ⟨by rfl, ?hy1_12⟩) hHeld ?_
  case hy1_12 => (intro w hSw; (try dsimp only at hSw); go_simp; try with_reducible rfl)
  simp only [Act.put, List.setIfInBounds_toArray, List.set_cons_zero, List.set_cons_succ]
  refine wpAnyH_take (i := 13) (oi := { dst := some 30, op := _, type := _, pos := _, after := _, guard := _ }) (v := ?v1_13) rfl (by kernel_rfl) (by kernel_rfl) (by kernel_rfl) (fun _ _ _ h => h) (Or.inl ⟨by rfl, ?hy1_13⟩) hHeld ?_
  case hy1_13 => (intro w hSw; (try dsimp only at hSw); have hl := (M2.out.on hSw).at hi; go_simp; try with_reducible rfl)
  simp only [Act.put, List.setIfInBounds_toArray, List.set_cons_zero, List.set_cons_succ]
  refine wpAnyH_take (i := 14) (oi := { dst := some 31, op := _, type := _, pos := _, after := _, guard := _ }) (v := ?v1_14) rfl (by kernel_rfl) (by kernel_rfl) (by kernel_rfl) (fun _ _ _ h => h) (Or.inl ⟨by rfl, ?hy1_14⟩) hHeld ?_
  case hy1_14 => (intro w hSw; (try dsimp only at hSw); go_simp; try with_reducible rfl)
  simp only [Act.put, List.setIfInBounds_toArray, List.set_cons_zero, List.set_cons_succ]
  refine wpAnyH_take (i := 15) (oi := { dst := some 32, op := _, type := _, pos := _, after := _, guard := _ }) (v := ?v1_15) rfl (by kernel_rfl) (by kernel_rfl) (by kernel_rfl) (fun _ _ _ h => h) (Or.inl ⟨by rfl, ?hy1_15⟩) hHeld ?_
  case hy1_15 => (intro w hSw; (try dsimp only at hSw); go_simp; try with_reducible rfl)
  simp only [Act.put, List.setIfInBounds_toArray, List.set_cons_zero, List.set_cons_succ]
  refine wpAnyH_take (i := 16) (oi := { dst := some 33, op := _, type := _, pos := _, after := _, guard := _ }) (v := ?v1_16) rfl (by kernel_rfl) (by kernel_rfl) (by kernel_rfl) (fun _ _ _ h => h) (Or.inl ⟨by rfl, ?hy1_16⟩) hHeld ?_
  case hy1_16 => (intro w hSw; (try dsimp only at hSw); go_simp; try with_reducible rfl)
  simp only [Act.put, List.setIfInBounds_toArray, List.set_cons_zero, List.set_cons_succ]
  refine wpAnyH_take (i := 17) (oi := { dst := some 34, op := _, type := _, pos := _, after := _, guard := _ }) (v := ?v1_17) rfl (by kernel_rfl) (by kernel_rfl) (by kernel_rfl) (fun _ _ _ h => h) (Or.inl ⟨by rfl, ?hy1_17⟩) hHeld ?_
  case hy1_17 => (intro w hSw; (try dsimp only at hSw); go_simp; try with_reducible rfl)
  simp only [Act.put, List.setIfInBounds_toArray, List.set_cons_zero, List.set_cons_succ]
  refine wpAnyH_take (i := 18) (oi := { dst := some 35, op := _, type := _, pos := _, after := _, guard := _ }) (v := ?v1_18) rfl (by kernel_rfl) (by kernel_rfl) (by kernel_rfl) (fun _ _ _ h => h) (Or.inl ⟨by rfl, ?hy1_18⟩) hHeld ?_
  case hy1_18 => (intro w hSw; (try dsimp only at hSw); go_simp; try with_reducible rfl)
  simp only [Act.put, List.setIfInBounds_toArray, List.set_cons_zero, List.set_cons_succ]
  refine wpAnyH_take (i := 19) (oi := { dst := some 36, op := _, type := _, pos := _, after := _, guard := _ }) (v := ?v1_19) rfl (by kernel_rfl) (by kernel_rfl) (by kernel_rfl) (fun _ _ _ h => h) (Or.inl ⟨by rfl, ?hy1_19⟩) hHeld ?_
  case hy1_19 => (intro w hSw; (try dsimp only at hSw); go_simp; try with_reducible rfl)
  simp only [Act.put, List.setIfInBounds_toArray, List.set_cons_zero, List.set_cons_succ]
  refine wpAnyH_take (i := 20) (oi := { dst := some 4, op := _, type := _, pos := _, after := _, guard := _ }) (v := ?v1_20) rfl (by kernel_rfl) (by kernel_rfl) (by kernel_rfl) (fun _ _ _ h => h) (Or.inl ⟨by rfl, ?hy1_20⟩) hHeld ?_
  case hy1_20 => (intro w hSw; (try dsimp only at hSw); go_simp; try with_reducible rfl)
  simp only [Act.put, List.setIfInBounds_toArray, List.set_cons_zero, List.set_cons_succ]
  refine wpAnyH_done (by kernel_rfl) ?_ _
  have HB := Lib.hid (below_on B2.out hHeld)
  clear hHeld
  go_wp2_with fail
  go_ret
  exact ⟨rfl, HB.out⟩
set_option maxHeartbeats 2000000 in
set_option maxRecDepth 100000 in
theorem l24d_ne (i k : Nat) (hi : i < 33) (hk : k < 33) (hne : i ≠ k) (a b : Int) (h1 : a.tmod 33 = (i : Int)) (h2 : b.tmod 33 = (k : Int)) (a0 : 0 ≤ a) (b0 : 0 ≤ b) (a1 : a < 256) (b1 : b < 256) (W : World) : Calls Try.prog 4 #[.int .u8 a, .int .u8 b] W fun e w' => e = .returned (.bool true) ∧ Below W.heap.size W w' := by
  have h1' : a % 33 = (i : Int) := by rw [← h1, Int.tmod_eq_emod_of_nonneg a0]
  have h2' : b % 33 = (k : Int) := by rw [← h2, Int.tmod_eq_emod_of_nonneg b0]
  have wa : IntKind.i64.wrap a = a := by rw [IntKind.wrap_i64]; omega
  have wb : IntKind.i64.wrap b = b := by rw [IntKind.wrap_i64]; omega
  have n1 : ((i : Int) == (k : Int)) = false := by rw [beq_eq_false_iff_ne]; omega
  have n2 : ¬ ((i : Int) = (k : Int)) := by omega
  have n3 := bId_ne hi hk hne
  have n4 : ∀ u, (binOp .eql 9 (.string (bId i)) (.string (bId k))).run Try.prog u = .ok (.bool false) u := fun u => by simp [go_sem, n3]
  have idi := Lib.hid (bId_ok hi)
  have ci : (i : Int) < 33 := by omega
  have ck : (k : Int) < 33 := by omega
  go_enter Try.func4, Try.ntmps4
  go_wp2_with fail
  refine (c24awake_any _).mono ?_
  rintro e w1 ⟨rfl, hb1⟩
  have B1 := Lib.hid hb1
  clear hb1
  go_wp2_with fail
  refine (p24nam_any _).mono ?_
  rintro e w2 ⟨g, cap, rfl, hm, hb2⟩
  have M2 := Lib.hid hm
  have B2 := Lib.hid (below_on B1.out hb2)
  have K2 : (33 : Nat) ≤ cap := hm.n
  clear hm hb2
  go_wp2_with fail
  refine wp_region_held_drew (S := fun u => Below w2.heap.size w2 u) (by kernel_rfl) (below_dn (Below.refl _ _) 1) (fun hHeld => ?_)
  refine wpAnyH_take (i := 0) (oi := { dst := some 17, op := _, type := _, pos := _, after := _, guard := _ }) (v := ?v2_0) rfl (by kernel_rfl) (by kernel_rfl) (by kernel_rfl) (fun _ _ _ h => h) (Or.inl ⟨by rfl, ?hy2_0⟩) hHeld ?_
  case hy2_0 => (intro w hSw; (try dsimp only at hSw); go_simp; try with_reducible rfl)
  simp only [Act.put, List.setIfInBounds_toArray, List.set_cons_zero, List.set_cons_succ]
  refine wpAnyH_take (i := 1) (oi := { dst := some 18, op := _, type := _, pos := _, after := _, guard := _ }) (v := ?v2_1) rfl (by kernel_rfl) (by kernel_rfl) (by kernel_rfl) (fun _ _ _ h => h) (Or.inl ⟨by rfl, ?hy2_1⟩) hHeld ?_
  case hy2_1 => (intro w hSw; (try dsimp only at hSw); go_simp; try with_reducible rfl)
  simp only [Act.put, List.setIfInBounds_toArray, List.set_cons_zero, List.set_cons_succ]
  refine wpAnyH_take (i := 2) (oi := { dst := some 19, op := _, type := _, pos := _, after := _, guard := _ }) (v := ?v2_2) rfl (by kernel_rfl) (by kernel_rfl) (by kernel_rfl) (fun _ _ _ h => h) (Or.inl ⟨by rfl, ?hy2_2⟩) hHeld ?_
  case hy2_2 => (intro w hSw; (try dsimp only at hSw); go_simp; try with_reducible rfl)
  simp only [Act.put, List.setIfInBounds_toArray, List.set_cons_zero, List.set_cons_succ]
  refine wpAnyH_take (i := 3) (oi := { dst := some 20, op := _, type := _, pos := _, after := _, guard := _ }) (v := ?v2_3) rfl (by kernel_rfl) (by kernel_rfl) (by kernel_rfl) (fun _ _ _ h => h) (Or.inl ⟨by rfl, ?hy2_3⟩) hHeld ?_
  case hy2_3 => (intro w hSw; (try dsimp only at hSw); have hl := (M2.out.on hSw).at hi; go_simp; try with_reducible rfl)
  simp only [Act.put, List.setIfInBounds_toArray, List.set_cons_zero, List.set_cons_succ]
  refine wpAnyH_ready (rs := [4]) (by kernel_rfl) (by simp) ?_
  refine AllReadyH.cons (o := { dst := some 21, op := _, type := _, pos := _, after := _, guard := _ }) rfl (fun K hK => ?_) AllReadyH.nil
  go_simp
  go_at_call 10
  refine (r17id_any (bId i) _).mono ?_
  rintro e3 w3 ⟨rfl, rfl⟩
  rw [idi.out]
  refine hK.out _ _ hHeld (fun hHeld => ?_)
  clear hK K
  refine wpAnyH_take (i := 5) (oi := { dst := some 22, op := _, type := _, pos := _, after := _, guard := _ }) (v := ?v2_5) rfl (by kernel_rfl) (by kernel_rfl) (by kernel_rfl) (fun _ _ _ h => h) (Or.inl ⟨by rfl, ?hy2_5⟩) hHeld ?_
  case hy2_5 => (intro w hSw; (try dsimp only at hSw); go_simp; try with_reducible rfl)
  simp only [Act.put, List.setIfInBounds_toArray, List.set_cons_zero, List.set_cons_succ]
  refine wpAnyH_take (i := 6) (oi := { dst := some 23, op := _, type := _, pos := _, after := _, guard := _ }) (v := ?v2_6) rfl (by kernel_rfl) (by kernel_rfl) (by kernel_rfl) (fun _ _ _ h => h) (Or.inl ⟨by rfl, ?hy2_6⟩) hHeld ?_
  case hy2_6 => (intro w hSw; (try dsimp only at hSw); go_simp; try with_reducible rfl)
  simp only [Act.put, List.setIfInBounds_toArray, List.set_cons_zero, List.set_cons_succ]
  refine wpAnyH_take (i := 7) (oi := { dst := some 24, op := _, type := _, pos := _, after := _, guard := _ }) (v := ?v2_7) rfl (by kernel_rfl) (by kernel_rfl) (by kernel_rfl) (fun _ _ _ h => h) (Or.inl ⟨by rfl, ?hy2_7⟩) hHeld ?_
  case hy2_7 => (intro w hSw; (try dsimp only at hSw); go_simp; try with_reducible rfl)
  simp only [Act.put, List.setIfInBounds_toArray, List.set_cons_zero, List.set_cons_succ]
  refine wpAnyH_take (i := 8) (oi := { dst := some 25, op := _, type := _, pos := _, after := _, guard := _ }) (v := ?v2_8) rfl (by kernel_rfl) (by kernel_rfl) (by kernel_rfl) (fun _ _ _ h => h) (Or.inl ⟨by rfl, ?hy2_8⟩) hHeld ?_
  case hy2_8 => (intro w hSw; (try dsimp only at hSw); go_simp; try with_reducible rfl)
  simp only [Act.put, List.setIfInBounds_toArray, List.set_cons_zero, List.set_cons_succ]
  refine wpAnyH_take (i := 9) (oi := { dst := some 26, op := _, type := _, pos := _, after := _, guard := _ }) (v := ?v2_9) rfl (by kernel_rfl) (by kernel_rfl) (by kernel_rfl) (fun _ _ _ h => h) (Or.inl ⟨by rfl, ?hy2_9⟩) hHeld ?_
  case hy2_9 => (intro w hSw; (try dsimp only at hSw); have hl := (M2.out.on hSw).at hi; go_simp; try with_reducible rfl)
  simp only [Act.put, List.setIfInBounds_toArray, List.set_cons_zero, List.set_cons_succ]
  refine wpAnyH_take (i := 10) (oi := { dst := some 27, op := _, type := _, pos := _, after := _, guard := _ }) (v := ?v2_10) rfl (by kernel_rfl) (by kernel_rfl) (by kernel_rfl) (fun _ _ _ h => h) (Or.inl ⟨by rfl, ?hy2_10⟩) hHeld ?_
  case hy2_10 => (intro w hSw; (try dsimp only at hSw); go_simp; try with_reducible rfl)
  simp only [Act.put, List.setIfInBounds_toArray, List.set_cons_zero, List.set_cons_succ]
  refine wpAnyH_take (i := 11) (oi := { dst := some 28, op := _, type := _, pos := _, after := _, guard := _ }) (v := ?v2_11) rfl (by kernel_rfl) (by kernel_rfl) (by kernel_rfl) (fun _ _ _ h => h) (Or.inl ⟨by rfl, ?hy2_11⟩) hHeld ?_
  case hy2_11 => (intro w hSw; (try dsimp only at hSw); go_simp; try with_reducible rfl)
  simp only [Act.put, List.setIfInBounds_toArray, List.set_cons_zero, List.set_cons_succ]
  refine wpAnyH_take (i := 12) (oi := { dst := some 29, op := _, type := _, pos := _, after := _, guard := _ }) (v := ?v2_12) rfl (by kernel_rfl) (by kernel_rfl) (by kernel_rfl) (fun _ _ _ h => h) (Or.inl ⟨by rfl, ?hy2_12⟩) hHeld ?_
  case hy2_12 => (intro w hSw; (try dsimp only at hSw); go_simp; try with_reducible rfl)
  simp only [Act.put, List.setIfInBounds_toArray, List.set_cons_zero, List.set_cons_succ]
  refine wpAnyH_take (i := 13) (oi := { dst := some 30, op := _, type := _, pos := _, after := _, guard := _ }) (v := ?v2_13) rfl (by kernel_rfl) (by kernel_rfl) (by kernel_rfl) (fun _ _ _ h => h) (Or.inl ⟨by rfl, ?hy2_13⟩) hHeld ?_
  case hy2_13 => (intro w hSw; (try dsimp only at hSw); have hl := (M2.out.on hSw).at hk; go_simp; try with_reducible rfl)
  simp only [Act.put, List.setIfInBounds_toArray, List.set_cons_zero, List.set_cons_succ]
  refine wpAnyH_take (i := 14) (oi := { dst := some 31, op := _, type := _, pos := _, after := _, guard := _ }) (v := ?v2_14) rfl (by kernel_rfl) (by kernel_rfl) (by kernel_rfl) (fun _ _ _ h => h) (Or.inl ⟨by rfl, ?hy2_14⟩) hHeld ?_
  case hy2_14 => (intro w hSw; (try dsimp only at hSw); go_simp; try with_reducible rfl)
  simp only [Act.put, List.setIfInBounds_toArray, List.set_cons_zero, List.set_cons_succ]
  refine wpAnyH_take (i := 15) (oi := { dst := some 32, op := _, type := _, pos := _, after := _, guard := _ }) (v := ?v2_15) rfl (by kernel_rfl) (by kernel_rfl) (by kernel_rfl) (fun _ _ _ h => h) (Or.inl ⟨by rfl, ?hy2_15⟩) hHeld ?_
  case hy2_15 => (intro w hSw; (try dsimp only at hSw); go_simp; try with_reducible rfl)
  simp only [Act.put, List.setIfInBounds_toArray, List.set_cons_zero, List.set_cons_succ]
  refine wpAnyH_take (i := 16) (oi := { dst := some 33, op := _, type := _, pos := _, after := _, guard := _ }) (v := ?v2_16) rfl (by kernel_rfl) (by kernel_rfl) (by kernel_rfl) (fun _ _ _ h => h) (Or.inl ⟨by rfl, ?hy2_16⟩) hHeld ?_
  case hy2_16 => (intro w hSw; (try dsimp only at hSw); go_simp; try with_reducible rfl)
  simp only [Act.put, List.setIfInBounds_toArray, List.set_cons_zero, List.set_cons_succ]
  refine wpAnyH_take (i := 17) (oi := { dst := some 34, op := _, type := _, pos := _, after := _, guard := _ }) (v := ?v2_17) rfl (by kernel_rfl) (by kernel_rfl) (by kernel_rfl) (fun _ _ _ h => h) (Or.inl ⟨by rfl, ?hy2_17⟩) hHeld ?_
  case hy2_17 => (intro w hSw; (try dsimp only at hSw); go_simp; try with_reducible rfl)
  simp only [Act.put, List.setIfInBounds_toArray, List.set_cons_zero, List.set_cons_succ]
  refine wpAnyH_take (i := 18) (oi := { dst := some 35, op := _, type := _, pos := _, after := _, guard := _ }) (v := ?v2_18) rfl (by kernel_rfl) (by kernel_rfl) (by kernel_rfl) (fun _ _ _ h => h) (Or.inl ⟨by rfl, ?hy2_18⟩) hHeld ?_
  case hy2_18 => (intro w hSw; (try dsimp only at hSw); go_simp; try with_reducible rfl)
  simp only [Act.put, List.setIfInBounds_toArray, List.set_cons_zero, List.set_cons_succ]
  refine wpAnyH_take (i := 19) (oi := { dst := some 36, op := _, type := _, pos := _, after := _, guard := _ }) (v := ?v2_19) rfl (by kernel_rfl) (by kernel_rfl) (by kernel_rfl) (fun _ _ _ h => h) (Or.inl ⟨by rfl, ?hy2_19⟩) hHeld ?_
  case hy2_19 => (intro w hSw; (try dsimp only at hSw); go_simp; try with_reducible rfl)
  simp only [Act.put, List.setIfInBounds_toArray, List.set_cons_zero, List.set_cons_succ]
  refine wpAnyH_take (i := 20) (oi := { dst := some 4, op := _, type := _, pos := _, after := _, guard := _ }) (v := ?v2_20) rfl (by kernel_rfl) (by kernel_rfl) (by kernel_rfl) (fun _ _ _ h => h) (Or.inl ⟨by rfl, ?hy2_20⟩) hHeld ?_
  case hy2_20 => (intro w hSw; (try dsimp only at hSw); go_simp; try with_reducible rfl)
  simp only [Act.put, List.setIfInBounds_toArray, List.set_cons_zero, List.set_cons_succ]
  refine wpAnyH_done (by kernel_rfl) ?_ _
  have HB := Lib.hid (below_on B2.out hHeld)
  clear hHeld
  go_wp2_with fail
  go_ret
  exact ⟨rfl, HB.out⟩
theorem l24d_any (a b : Int) (a0 : 0 ≤ a) (a1 : a < 256) (b0 : 0 ≤ b) (b1 : b < 256) (W : World) : Calls Try.prog 4 #[.int .u8 a, .int .u8 b] W fun e w' => e = .returned (.bool true) ∧ Below W.heap.size W w' := by
  have e1 : a.tmod 33 = ((a % 33).toNat : Int) := by rw [Int.tmod_eq_emod_of_nonneg a0]; omega
  have e2 : b.tmod 33 = ((b % 33).toNat : Int) := by rw [Int.tmod_eq_emod_of_nonneg b0]; omega
  by_cases h : (a % 33).toNat = (b % 33).toNat
  · rw [← h] at e2
    exact l24d_same (a % 33).toNat (by omega) a b e1 e2 a0 b0 a1 b1 W
  · exact l24d_ne (a % 33).toNat (b % 33).toNat (by omega) (by omega) h a b e1 e2 a0 b0 a1 b1 W
set_option maxHeartbeats 4000000 in
set_option maxRecDepth 100000 in
theorem l24m_s (k : Nat) (hk : k < 8) (a : Int) (id : ByteArray) (h1 : a.tmod 33 = (k : Int)) (a0 : 0 ≤ a) (a1 : a < 256) (W : World) : Calls Try.prog 3 #[.int .u8 a, .string id] W fun e w' => e = .returned (.bool true) ∧ Below W.heap.size W w' := by
  have h1' : a % 33 = (k : Int) := by rw [← h1, Int.tmod_eq_emod_of_nonneg a0]
  have wa : IntKind.i64.wrap a = a := by rw [IntKind.wrap_i64]; omega
  have d8 : decide ((k : Int) < 8) = true := decide_eq_true (by omega)
  have c8 : (k : Int) < 8 := by omega
  have k33 : k < 33 := by omega
  have ck : (k : Int) < 33 := by omega
  obtain ⟨t, ht, hid⟩ := bSs_id hk
  have HT := Lib.hid ht
  have HI := Lib.hid hid
  clear ht hid
  have HOK := Lib.hid bCat_ok
  go_enter Try.func3, Try.ntmps3
  go_wp2_with fail
  refine (c24awake_any _).mono ?_
  rintro e w1 ⟨rfl, hb1⟩
  have B1 := Lib.hid hb1
  clear hb1
  go_wp2_with fail
  refine (p24cat_any _).mono ?_
  rintro e w2 ⟨b, b', rfl, hn, hb2⟩
  have hb3 := below_on B1.out hb2
  have zl := Nat.le_trans B1.out.size hn.lo
  have zb := hn.lt
  have N2 := Lib.hid (hn.on ((Below.refl w2.heap.size w2).alloc (Nat.le_refl _) (catO 5 (.slice (some ⟨b, 0, none⟩) 8 8) (.slice (some ⟨b', 0, none⟩) 25 25))))
  have B2 := Lib.hid (hb3.alloc hb3.size (catO 5 (.slice (some ⟨b, 0, none⟩) 8 8) (.slice (some ⟨b', 0, none⟩) 25 25)))
  have R2 := Lib.hid (heap_alloc_new w2 (catO 5 (.slice (some ⟨b, 0, none⟩) 8 8) (.slice (some ⟨b', 0, none⟩) 25 25)))
  clear hn hb2 hb3
  go_wp2_with fail
  generalize hU : w2.alloc (catO 5 (.slice (some ⟨b, 0, none⟩) 8 8) (.slice (some ⟨b', 0, none⟩) 25 25)) = u0 at *
  clear hU
  refine (p24nam_any _).mono ?_
  rintro e w3 ⟨g, cap, rfl, hm, hb3⟩
  have zg := hm.lo
  have zc := (Array.getElem?_eq_some_iff.1 N2.out.f).1
  have M3 := Lib.hid hm
  have N3 := Lib.hid (N2.out.on hb3)
  have B3 := Lib.hid (below_on B2.out hb3)
  have R3 := Lib.hid (row_on R2.out hb3)
  have K3 : (33 : Nat) ≤ cap := hm.n
  clear hm hb3
  go_wp2_with fail
  refine (r24cat_any _).mono ?_
  rintro e w4 ⟨vS, vF, rfl, hS, hF, hb4⟩
  have M4 := Lib.hid (M3.out.on hb4)
  have N4 := Lib.hid (N3.out.on hb4)
  have B4 := Lib.hid (below_on B3.out hb4)
  have R4 := Lib.hid (row_on R3.out hb4)
  clear hb4
  obtain ⟨AS, cS, rfl, _, _, qS⟩ := hS
  obtain ⟨AF, cF, rfl, _, _, qF⟩ := hF
  obtain ⟨rb, ro, hA, hrl, hit⟩ := qS k t HT.out
  subst hA
  obtain ⟨m0, m1⟩ := row9_cell N4.out.s HT.out
  rw [HI.out] at m0
  have q0 : w4.cell? ⟨rb, ro + k * 9, none⟩ = some (.string (bId k)) := by have := hit 0 (by decide); rw [← HI.out]; exact this
  clear hit qS qF
  obtain ⟨r0, r1, r2, g0, g1, g2, rz⟩ := row3 R4.out
  have LS : bSs.length = 8 := rfl
  have LF : bFs.length = 25 := rfl
  have hf : ∀ u, (Instr.field 26 (.agg #[.int .i64 5, .slice (some ⟨rb, ro, none⟩) bSs.length cS, .slice AF bFs.length cF]) 1).run Try.prog u = .ok (.slice (some ⟨rb, ro, none⟩) bSs.length cS) u := fun _ => by kernel_rfl
  rw [LS, LF] at hf
  rw [LS, LF]
  have gb : b < u0.heap.size := by omega
  have p0 : (w4.setCell ⟨b, k * 9, none⟩ (.string id)).cell? ⟨g, k, none⟩ = some (.string (bId k)) := (M4.out.put gb _).at k33
  have p1 : (w4.setCell ⟨b, k * 9, none⟩ (.string id)).frozen? ⟨g, k, none⟩ = false := ((M4.out.put (j := k * 9) gb (.string id)).cell k k33).2
  have p2 := M4.out.at k33
  have p3 := (M4.out.cell k k33).2
  have B5 := Lib.hid ((B4.out.setCell (p := ⟨b, k * 9, none⟩) (show W.heap.size ≤ b by omega) (.string id)).setCell (p := ⟨g, k, none⟩) (show W.heap.size ≤ g by omega) (.string id))
  go_wp2_with fail
  refine (c24awake_any _).mono ?_
  rintro e w5 ⟨rfl, hb5⟩
  have B6 := Lib.hid (below_on B5.out hb5)
  clear hb5 p0 p1 p2 p3 q0 m0 m1 hf r0 r1 r2 g0 g1 g2 rz
  go_wp2_with fail
  refine (p24nam_any _).mono ?_
  rintro e w6 ⟨g', cap', rfl, hm6, hb6⟩
  have B7 := Lib.hid (below_on B6.out hb6)
  have K6 : (33 : Nat) ≤ cap' := hm6.n
  have p4 := hm6.at k33
  clear hb6
  go_wp2_with fail
  refine (p24cat_any _).mono ?_
  rintro e w7 ⟨b7, b7', rfl, hn7, hb7⟩
  have B8 := Lib.hid (below_on B7.out hb7)
  have N7 := Lib.hid hn7
  clear hb7 hn7 p4
  go_wp2_with fail
  refine (r17ck_ok 5 (some ⟨b7, 0, none⟩) (some ⟨b7', 0, none⟩) bSs bFs 8 25 _ (by decide) (by decide) (by decide) (by decide) (by decide) N7.out.sat N7.out.fat).mono ?_
  rintro e w8 ⟨rfl, hb8⟩
  have B9 := Lib.hid (below_on B8.out hb8)
  clear hb8
  rw [show catB ⟨5, bSs, bFs⟩ = true from HOK.out]
  go_wp2_with fail
  go_ret
  exact ⟨rfl, B9.out⟩
set_option maxHeartbeats 4000000 in
set_option maxRecDepth 100000 in
theorem l24m_f (k j : Nat) (hj : j < 25) (hkj : k = j + 8) (a : Int) (id : ByteArray) (h1 : a.tmod 33 = (k : Int)) (a0 : 0 ≤ a) (a1 : a < 256) (W : World) : Calls Try.prog 3 #[.int .u8 a, .string id] W fun e w' => e = .returned (.bool true) ∧ Below W.heap.size W w' := by
  have h1' : a % 33 = (k : Int) := by rw [← h1, Int.tmod_eq_emod_of_nonneg a0]
  have wa : IntKind.i64.wrap a = a := by rw [IntKind.wrap_i64]; omega
  have d8 : decide ((k : Int) < 8) = false := decide_eq_false (by omega)
  have c8 : ¬ (k : Int) < 8 := by omega
  have s8 : (k : Int) - 8 = (j : Int) := by omega
  have w8 : IntKind.i64.wrap (j : Int) = (j : Int) := by rw [IntKind.wrap_i64]; omega
  have cj : (j : Int) < 25 := by omega
  have k33 : k < 33 := by omega
  have ck : (k : Int) < 33 := by omega
  obtain ⟨t, ht, hid⟩ := bFs_id hj hkj
  have HT := Lib.hid ht
  have HI := Lib.hid hid
  clear ht hid hkj
  have HOK := Lib.hid bCat_ok
  go_enter Try.func3, Try.ntmps3
  go_wp2_with fail
  refine (c24awake_any _).mono ?_
  rintro e w1 ⟨rfl, hb1⟩
  have B1 := Lib.hid hb1
  clear hb1
  go_wp2_with fail
  refine (p24cat_any _).mono ?_
  rintro e w2 ⟨b, b', rfl, hn, hb2⟩
  have hb3 := below_on B1.out hb2
  have zl := Nat.le_trans B1.out.size hn.lo
  have zb := hn.lt
  have N2 := Lib.hid (hn.on ((Below.refl w2.heap.size w2).alloc (Nat.le_refl _) (catO 5 (.slice (some ⟨b, 0, none⟩) 8 8) (.slice (some ⟨b', 0, none⟩) 25 25))))
  have B2 := Lib.hid (hb3.alloc hb3.size (catO 5 (.slice (some ⟨b, 0, none⟩) 8 8) (.slice (some ⟨b', 0, none⟩) 25 25)))
  have R2 := Lib.hid (heap_alloc_new w2 (catO 5 (.slice (some ⟨b, 0, none⟩) 8 8) (.slice (some ⟨b', 0, none⟩) 25 25)))
  clear hn hb2 hb3
  go_wp2_with fail
  generalize hU : w2.alloc (catO 5 (.slice (some ⟨b, 0, none⟩) 8 8) (.slice (some ⟨b', 0, none⟩) 25 25)) = u0 at *
  clear hU
  refine (p24nam_any _).mono ?_
  rintro e w3 ⟨g, cap, rfl, hm, hb3⟩
  have zg := hm.lo
  have zc := (Array.getElem?_eq_some_iff.1 N2.out.f).1
  have M3 := Lib.hid hm
  have N3 := Lib.hid (N2.out.on hb3)
  have B3 := Lib.hid (below_on B2.out hb3)
  have R3 := Lib.hid (row_on R2.out hb3)
  have K3 : (33 : Nat) ≤ cap := hm.n
  clear hm hb3
  go_wp2_with fail
  refine (r24cat_any _).mono ?_
  rintro e w4 ⟨vS, vF, rfl, hS, hF, hb4⟩
  have M4 := Lib.hid (M3.out.on hb4)
  have N4 := Lib.hid (N3.out.on hb4)
  have B4 := Lib.hid (below_on B3.out hb4)
  have R4 := Lib.hid (row_on R3.out hb4)
  clear hb4
  obtain ⟨AS, cS, rfl, _, _, qS⟩ := hS
  obtain ⟨AF, cF, rfl, _, _, qF⟩ := hF
  obtain ⟨rb, ro, hA, hrl, hit⟩ := qF j t HT.out
  subst hA
  obtain ⟨m0, m1⟩ := row9_cell N4.out.f HT.out
  rw [HI.out] at m0
  have q0 : w4.cell? ⟨rb, ro + j * 9, none⟩ = some (.string (bId k)) := by have := hit 0 (by decide); rw [← HI.out]; exact this
  clear hit qS qF
  obtain ⟨r0, r1, r2, g0, g1, g2, rz⟩ := row3 R4.out
  have LS : bSs.length = 8 := rfl
  have LF : bFs.length = 25 := rfl
  have hf : ∀ u, (Instr.field 26 (.agg #[.int .i64 5, .slice AS bSs.length cS, .slice (some ⟨rb, ro, none⟩) bFs.length cF]) 2).run Try.prog u = .ok (.slice (some ⟨rb, ro, none⟩) bFs.length cF) u := fun _ => by kernel_rfl
  rw [LS, LF] at hf
  rw [LS, LF]
  have gb : b' < u0.heap.size := by omega
  have p0 : (w4.setCell ⟨b', j * 9, none⟩ (.string id)).cell? ⟨g, k, none⟩ = some (.string (bId k)) := (M4.out.put gb _).at k33
  have p1 : (w4.setCell ⟨b', j * 9, none⟩ (.string id)).frozen? ⟨g, k, none⟩ = false := ((M4.out.put (j := j * 9) gb (.string id)).cell k k33).2
  have p2 := M4.out.at k33
  have p3 := (M4.out.cell k k33).2
  have B5 := Lib.hid ((B4.out.setCell (p := ⟨b', j * 9, none⟩) (show W.heap.size ≤ b' by omega) (.string id)).setCell (p := ⟨g, k, none⟩) (show W.heap.size ≤ g by omega) (.string id))
  go_wp2_with fail
  refine (c24awake_any _).mono ?_
  rintro e w5 ⟨rfl, hb5⟩
  have B6 := Lib.hid (below_on B5.out hb5)
  clear hb5 p0 p1 p2 p3 q0 m0 m1 hf r0 r1 r2 g0 g1 g2 rz
  go_wp2_with fail
  refine (p24nam_any _).mono ?_
  rintro e w6 ⟨g', cap', rfl, hm6, hb6⟩
  have B7 := Lib.hid (below_on B6.out hb6)
  have K6 : (33 : Nat) ≤ cap' := hm6.n
  have p4 := hm6.at k33
  clear hb6
  go_wp2_with fail
  refine (p24cat_any _).mono ?_
  rintro e w7 ⟨b7, b7', rfl, hn7, hb7⟩
  have B8 := Lib.hid (below_on B7.out hb7)
  have N7 := Lib.hid hn7
  clear hb7 hn7 p4
  go_wp2_with fail
  refine (r17ck_ok 5 (some ⟨b7, 0, none⟩) (some ⟨b7', 0, none⟩) bSs bFs 8 25 _ (by decide) (by decide) (by decide) (by decide) (by decide) N7.out.sat N7.out.fat).mono ?_
  rintro e w8 ⟨rfl, hb8⟩
  have B9 := Lib.hid (below_on B8.out hb8)
  clear hb8
  rw [show catB ⟨5, bSs, bFs⟩ = true from HOK.out]
  go_wp2_with fail
  go_ret
  exact ⟨rfl, B9.out⟩
theorem l24m_any (a : Int) (id : ByteArray) (a0 : 0 ≤ a) (a1 : a < 256) (W : World) : Calls Try.prog 3 #[.int .u8 a, .string id] W fun e w' => e = .returned (.bool true) ∧ Below W.heap.size W w' := by
  have e1 : a.tmod 33 = ((a % 33).toNat : Int) := by rw [Int.tmod_eq_emod_of_nonneg a0]; omega
  by_cases h : (a % 33).toNat < 8
  · exact l24m_s (a % 33).toNat h a id e1 a0 a1 W
  · exact l24m_f (a % 33).toNat ((a % 33).toNat - 8) (by omega) (by omega) a id e1 a0 a1 W
end Go.Proofs.Ytiegddohgjofbaa
