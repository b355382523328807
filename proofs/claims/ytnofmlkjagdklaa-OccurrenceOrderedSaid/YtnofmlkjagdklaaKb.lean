/- What earlier stages proved: Ha Hb Hc Hd He Hi. -/
import Derived.Test.YtnofmlkjagdklaaKz
import Derived.Test.YtnofmlkjagdklaaKp
import Derived.Test.YtnofmlkjagdklaaKx
import Derived.Test.YtnofmlkjagdklaaKn
import Derived.RangeFuncNested
import Derived.RangeFuncBound
import Derived.RangeFuncCalls
import Derived.RangeFuncLeaves
import Derived.RangeFuncBox
import Derived.Shelf.Abstract
import Derived.Shelf.RegionOpen
import Derived.OwnWalkIn
import Derived.TacticsInMore
import Derived.LoopNIn
import Derived.LoopIn
import Derived.Maps.AppendAt
namespace Go.Proofs.Ytnofmlkjagdklaa

/-- The start of a season (the day of a feast) in a year; all starts. -/
def itD (t : Itm) (y : Int) : Int := anD t.k t.m t.d t.o t.w t.c y
def itsD (ts : List Itm) (y : Int) : List Int := ts.map fun t => itD t y
def snE (c : Cat) (y day : Int) : Int := if catB c = true then (if inG y = true then (if day < greg.fst y ∨ greg.fst (y + 1) ≤ day then 2 else 0) else 1) else 4
theorem sea_wf {t : Itm} (h : seaB t = true) : wfA t.k t.m t.d t.o t.w t.c = true := by
  unfold seaB at h; simp only [Bool.and_eq_true] at h; exact h.2.2.2
theorem fea_wf {t : Itm} (h : feaB t = true) : wfA t.k t.m t.d t.o t.w t.c = true := by
  unfold feaB at h; simp only [Bool.and_eq_true] at h; exact h.2.2.2
theorem cat_parts {c : Cat} (h : catB c = true) : (0 ≤ c.free ∧ c.free ≤ 9 ∧ 1 ≤ c.ss.length ∧ c.ss.length ≤ 20 ∧ c.fs.length ≤ 400) ∧ (∀ t ∈ c.ss, seaB t = true) ∧ (∀ t ∈ c.fs, feaB t = true) ∧ nodB c.ids = true := by
  unfold catB at h
  simp only [Bool.and_eq_true, decide_eq_true_eq, List.all_eq_true] at h
  exact ⟨h.1, h.2.1, h.2.2.1, h.2.2.2⟩
theorem sea_ok {c : Cat} {y : Int} {t : Itm} (h : catB c = true) (g : inG y = true) (ht : t ∈ c.ss) : anE t.k t.m t.d t.o t.w t.c y = 0 := anE_ok (sea_wf ((cat_parts h).2.1 t ht)) g
theorem fea_ok {c : Cat} {y : Int} {t : Itm} (h : catB c = true) (g : inG y = true) (ht : t ∈ c.fs) : anE t.k t.m t.d t.o t.w t.c y = 0 := anE_ok (fea_wf ((cat_parts h).2.2.1 t ht)) g
/-- The latest start that is not after the day, among the first k (-1, 0: none). -/
def inA (l : List Int) (day : Int) : Nat → Int × Int
  | 0 => (-1, 0)
  | k + 1 => if l.getD k 0 ≤ day ∧ (inA l day k).2 ≤ l.getD k 0 then ((k : Int), l.getD k 0) else inA l day k
/-- The latest start among the first k. -/
def inB (l : List Int) : Nat → Int × Int
  | 0 => (-1, 0)
  | k + 1 => if (inB l k).2 ≤ l.getD k 0 then ((k : Int), l.getD k 0) else inB l k
/-- The season of a day, and its start in the year (0: it continues). -/
def snI (l : List Int) (day : Int) : Int := if 0 ≤ (inA l day l.length).1 then (inA l day l.length).1 else (inB l l.length).1
def snF (l : List Int) (day : Int) : Int := if 0 ≤ (inA l day l.length).1 then (inA l day l.length).2 else 0
theorem inA_bd (l : List Int) (day : Int) (k : Nat) : -1 ≤ (inA l day k).1 ∧ (inA l day k).1 < k ∧ ((inA l day k).1 = -1 → (inA l day k).2 = 0) := by
  induction k with
  | zero => exact ⟨by show (-1 : Int) ≤ -1; decide, by show (-1 : Int) < ((0 : Nat) : Int); decide, fun _ => rfl⟩
  | succ k ih =>
    unfold inA
    split
    · refine ⟨by show -1 ≤ (k : Int); omega, by show (k : Int) < (k + 1 : Nat); omega, fun h => ?_⟩
      have : (k : Int) = -1 := h
      omega
    · exact ⟨ih.1, by omega, ih.2.2⟩
end Go.Proofs.Ytnofmlkjagdklaa

namespace Go.Proofs.Ytnofmlkjagdklaa
open Go.RowKit

/-- A slice of integers as a walk reads it, nil or not. -/
def SlI (v : Value) (l : List Int) (w : World) : Prop := (v = .slice none 0 0 ∧ l = []) ∨ ∃ g cap, v = .slice (some ⟨g, 0, none⟩) l.length cap ∧ IntsIn g cap l w
theorem SlI.on {v : Value} {l : List Int} {w w' : World} (h : SlI v l w) (hb : Below w.heap.size w w') : SlI v l w' := by
  rcases h with h | ⟨g, cap, e, h⟩
  · exact .inl h
  · exact .inr ⟨g, cap, e, h.on hb⟩
theorem r18in_nil (day : Int) (w : World) : Calls Try.prog 39 #[.slice none 0 0, .int .i64 day] w fun e w' => e = .returned (numv (-1) 0) ∧ w = w' := by
  go_enter Try.func39, Try.ntmps39
  go_wp2_with fail
  refine wp_loop_rounds 1 ?_
  rw [rounds_succ]
  go_wp2_with fail
  refine wp_loop_rounds 1 ?_
  rw [rounds_succ]
  go_wp2_with fail
  go_ret2
  exact ⟨rfl, rfl⟩
set_option maxRecDepth 100000 in
theorem r18in_some (g cap : Nat) (l : List Int) (day : Int) (w : World) (h : IntsIn g cap l w) : Calls Try.prog 39 #[.slice (some ⟨g, 0, none⟩) l.length cap, .int .i64 day] w fun e w' => e = .returned (numv (snI l day) (snF l day)) ∧ w = w' := by
  have H := Lib.hid h
  have hg := h.lt
  have hm := h.mx
  have hle := h.le
  have hmm : l.length ≤ maxLen := Nat.le_trans hle hm
  unfold maxLen at hmm
  clear h
  go_enter Try.func39, Try.ntmps39
  go_wp2_with fail
  go_loop [6, 7, 8] (fun b f i => ∃ k : Nat, k ≤ l.length ∧ i = .int .i64 k ∧ b = .int .i64 (inA l day k).1 ∧ f = .int .i64 (inA l day k).2) (fun _ _ i => l.length - (intOf i).toNat)
  case atStart => exact ⟨0, Nat.zero_le _, rfl, rfl, rfl⟩
  case round =>
    obtain ⟨k, hk, rfl, rfl, rfl⟩ := hrel
    by_cases hlt : k < l.length
    · have cx := H.out.cell k hlt
      have e1 : inA l day (k + 1) = if l.getD k 0 ≤ day ∧ (inA l day k).2 ≤ l.getD k 0 then ((k : Int), l.getD k 0) else inA l day k := rfl
      have E1 := Lib.hid e1
      clear e1
      generalize hx : l.getD k 0 = x at *
      generalize hp : inA l day k = q at *
      obtain ⟨b, f⟩ := q
      by_cases d1 : x ≤ day
      · by_cases d2 : f ≤ x
        · have dd1 := decide_eq_true d1
          have dd2 := decide_eq_true d2
          have E2 := Lib.hid (show inA l day (k + 1) = ((k : Int), x) by rw [E1.out, if_pos ⟨d1, d2⟩])
          clear d1 d2 hx hp
          go_wp2_with fail
          go_round
          case rel => exact ⟨k + 1, by omega, by go_num, by rw [E2.out], by rw [E2.out]⟩
          case measure => simp [intOf]; omega
        · have dd1 := decide_eq_true d1
          have dd2 := decide_eq_false d2
          have E2 := Lib.hid (show inA l day (k + 1) = (b, f) by rw [E1.out, if_neg (by omega)])
          clear d1 d2 hx hp
          go_wp2_with fail
          go_round
          case rel => exact ⟨k + 1, by omega, by go_num, by rw [E2.out], by rw [E2.out]⟩
          case measure => simp [intOf]; omega
      · have dd1 := decide_eq_false d1
        have E2 := Lib.hid (show inA l day (k + 1) = (b, f) by rw [E1.out, if_neg (by omega)])
        clear d1 hx hp
        go_wp2_with fail
        go_round
        case rel => exact ⟨k + 1, by omega, by go_num, by rw [E2.out], by rw [E2.out]⟩
        case measure => simp [intOf]; omega
    · obtain rfl : k = l.length := by omega
      have hb := inA_bd l day l.length
      by_cases hd : 0 ≤ (inA l day l.length).1
      · have D := decide_eq_true hd
        have E := Lib.hid (show snI l day = (inA l day l.length).1 ∧ snF l day = (inA l day l.length).2 by unfold snI snF; rw [if_pos hd, if_pos hd]; exact ⟨rfl, rfl⟩)
        clear hb hd
        generalize inA l day l.length = q at *
        obtain ⟨b, f⟩ := q
        go_wp2_with fail
        go_ret2
        exact ⟨by rw [E.out.1, E.out.2]; rfl, rfl⟩
      · have D := decide_eq_false hd
        have E := Lib.hid (show snI l day = (inB l l.length).1 ∧ snF l day = 0 by unfold snI snF; rw [if_neg hd, if_neg hd]; exact ⟨rfl, rfl⟩)
        have e0 : (inA l day l.length).1 = -1 := by omega
        clear hb hd
        generalize inA l day l.length = q at *
        obtain ⟨b, f⟩ := q
        obtain rfl : b = -1 := e0
        go_wp2_with fail
        go_loop [6, 9, 10] (fun b f i => ∃ k : Nat, k ≤ l.length ∧ i = .int .i64 k ∧ b = .int .i64 (inB l k).1 ∧ f = .int .i64 (inB l k).2) (fun _ _ i => l.length - (intOf i).toNat)
        case atStart => exact ⟨0, Nat.zero_le _, rfl, rfl, rfl⟩
        case round =>
          obtain ⟨k, hk, rfl, rfl, rfl⟩ := hrel
          by_cases hlt : k < l.length
          · have cx := H.out.cell k hlt
            have E1 := Lib.hid (show inB l (k + 1) = if (inB l k).2 ≤ l.getD k 0 then ((k : Int), l.getD k 0) else inB l k from rfl)
            generalize hx : l.getD k 0 = x at *
            generalize hp : inB l k = q at *
            obtain ⟨b, f'⟩ := q
            by_cases d2 : f' ≤ x
            · have dd2 := decide_eq_true d2
              have E2 := Lib.hid (show inB l (k + 1) = ((k : Int), x) by rw [E1.out, if_pos d2])
              clear d2 hx hp
              go_wp2_with fail
              go_round
              case rel => exact ⟨k + 1, by omega, by go_num, by rw [E2.out], by rw [E2.out]⟩
              case measure => simp [intOf]; omega
            · have dd2 := decide_eq_false d2
              have E2 := Lib.hid (show inB l (k + 1) = (b, f') by rw [E1.out, if_neg d2])
              clear d2 hx hp
              go_wp2_with fail
              go_round
              case rel => exact ⟨k + 1, by omega, by go_num, by rw [E2.out], by rw [E2.out]⟩
              case measure => simp [intOf]; omega
          · obtain rfl : k = l.length := by omega
            generalize inB l l.length = q at *
            obtain ⟨b, f'⟩ := q
            go_wp2_with fail
            go_ret2
            exact ⟨by rw [E.out.1, E.out.2]; rfl, rfl⟩
theorem r18in_any (v : Value) (l : List Int) (day : Int) (w : World) (h : SlI v l w) : Calls Try.prog 39 #[v, .int .i64 day] w fun e w' => e = .returned (numv (snI l day) (snF l day)) ∧ w = w' := by
  rcases h with ⟨rfl, rfl⟩ | ⟨g, cap, rfl, h⟩
  · exact r18in_nil day w
  · exact r18in_some g cap l day w h
end Go.Proofs.Ytnofmlkjagdklaa

namespace Go.Proofs.Ytnofmlkjagdklaa
open Go.RowKit

theorem itsD_take {ts : List Itm} {k : Nat} {t : Itm} (h : ts[k]? = some t) (y : Int) : itsD (ts.take (k + 1)) y = itsD (ts.take k) y ++ [itD t y] := by
  unfold itsD
  rw [List.take_add_one, h, List.map_append]; rfl
set_option maxHeartbeats 1000000 in
set_option maxRecDepth 100000 in
theorem r18st_0 (v0 v2 : Value) (A1 : Option Addr) (ss : List Itm) (c1 : Nat) (y : Int) (W : World) (ht : PT W) (n2 : ss.length ≤ 20)
    (H1 : ∀ (i : Nat) (t : Itm), ss[i]? = some t → ∃ b o, A1 = some ⟨b, o, none⟩ ∧ b < W.heap.size ∧ ItmAt W b (o + i * 9) t)
    (HD : ∀ t ∈ ss, ∀ u, PT u → Calls Try.prog 41 #[ancv t.k t.m t.d t.o t.w t.c, .int .i64 y] u fun e w' => e = .returned (.int .i64 (itD t y)) ∧ Below u.heap.size u w') :
    Calls Try.prog 28 #[.agg #[v0, .slice A1 ss.length c1, v2], .int .i64 y] W (RetInts (itsD ss y) W) := by
  obtain ⟨i0, hi, hz0, hz1, hz2⟩ := info_parts infoInt
  have Q1 := Lib.hid H1
  have QD := Lib.hid HD
  have T0 := Lib.hid ht
  clear H1 HD ht
  have B0 := Lib.hid ((Below.refl W.heap.size W).alloc (Nat.le_refl _) (.cells #[v0, .slice A1 ss.length c1, v2] 25))
  have R0 := Lib.hid (heap_alloc_new W (.cells #[v0, .slice A1 ss.length c1, v2] 25))
  have Z0 : (W.alloc (.cells #[v0, .slice A1 ss.length c1, v2] 25)).heap.size = W.heap.size + 1 := by simp
  go_enter Try.func28, Try.ntmps28
  go_wp2_with fail
  generalize hW1 : W.alloc (.cells #[v0, .slice A1 ss.length c1, v2] 25) = W1 at *
  go_loopw [5, 6] (fun v i wr => ∃ k : Nat, k ≤ ss.length ∧ i = .int .i64 k ∧ Below W1.heap.size W1 wr ∧ IntsAt W1.heap.size v (itsD (ss.take k) y) wr) (fun _ i _ => ss.length - (intOf i).toNat)
  case atStart => exact ⟨0, Nat.zero_le _, rfl, Below.refl _ _, IntsAt.nil _ _⟩
  case round =>
    obtain ⟨k, hk, rfl, hb, hv⟩ := hrel
    have HB := Lib.hid hb
    have HV := Lib.hid hv
    clear hb hv
    have RR := Lib.hid (row_on R0.out HB.out)
    obtain ⟨r0, r1, r2, g0, g1, g2, rz⟩ := row3 RR.out
    by_cases hlt : k < ss.length
    · obtain ⟨t, ht⟩ : ∃ t, ss[k]? = some t := ⟨_, List.getElem?_eq_getElem hlt⟩
      obtain ⟨b, p, hA, hbl, hit⟩ := Q1.out k t ht
      subst hA
      have hbl1 := Nat.lt_of_lt_of_le hbl B0.out.size
      have hbl2 := Nat.lt_of_lt_of_le hbl1 HB.out.size
      have HI := Lib.hid ((hit.on B0.out hbl).on HB.out hbl1)
      have HD := Lib.hid (fun u hu => QD.out t (List.mem_of_getElem? ht) u hu)
      have hmap := Lib.hid (itsD_take ht y)
      have hle : (itsD (ss.take k) y).length = k := by simp [itsD]; omega
      have TT := Lib.hid ((T0.out.on B0.out).on HB.out)
      generalize itD t y = n at *
      obtain ⟨id, x, yy, a1, a2, a3, a4, a5, a6⟩ := t
      obtain ⟨q0, q1, q2, q3, q4, q5, q6, q7, q8⟩ := HI.out.nine
      clear hit ht
      go_wp2_with fail
      refine (HD.out _ TT.out).mono ?_
      rintro e w1 ⟨rfl, hb1⟩
      have HB1 := Lib.hid (below_on HB.out hb1)
      have HV1 := Lib.hid (HV.out.on hb1)
      have hz := Lib.hid (Nat.le_trans HB.out.size hb1.size)
      clear hb1
      go_wp2_with (at_builtin; refine wpList_append_own _ rfl _ _ 33 rfl W1.heap.size 3 i0 (.int .i64 0) 1 8 Try.underlying33 hi hz0 hz1 hz2 rfl (by decide) _ _ _ rfl (HV1.out.al _) ⟨w1.heap.size, 0, none⟩ 1 1 [.int .i64 n] rfl rfl (cell_one_new _ _ _) (by simp [Value.oneCell']) (by unfold maxLen; omega) (by omega) (by have := hz.out; simp; omega) ?_; intro v' w2 hown' hgrow _; obtain ⟨hv2, hb2⟩ := HV1.out.app HB1.out hz.out hown' hgrow; have HV2 := Lib.hid hv2; have HB2 := Lib.hid hb2; clear hown' hgrow hv2 hb2)
      go_roundw
      case rel => exact ⟨k + 1, by omega, by go_num, HB2.out, by rw [hmap.out]; exact HV2.out⟩
      case measure => simp [intOf]; omega
    · obtain rfl : k = ss.length := by omega
      rw [List.take_length] at HV
      have HZ := Lib.hid (below_on B0.out HB.out)
      go_wp2_with fail
      go_ret
      exact ⟨_, rfl, HV.out.lower (by omega), HZ.out⟩
theorem r18st_any (c : Cat) (y : Int) (v : Value) (W : World) (h : CatAt W v c) (hc : catB c = true) (g : inG y = true) (ht : PT W) : Calls Try.prog 28 #[v, .int .i64 y] W (RetInts (itsD c.ss y) W) := by
  obtain ⟨⟨vs, vf, rfl, h1, _⟩, _, _, _⟩ := h
  obtain ⟨A1, c1, rfl, _, _, h1⟩ := h1
  exact r18st_0 _ _ A1 c.ss c1 y W ht (cat_parts hc).1.2.2.2.1 h1 (fun t hm u hu => r16day_any t.k t.m t.d t.o t.w t.c y u (sea_ok hc g hm) hu)
theorem r18fl_0 (v0 v1 v2 : Value) (y day r : Int) (a b : Bool) (W : World)
    (HC : ∀ u, Below W.heap.size W u → Calls Try.prog 24 #[.agg #[v0, v1, v2]] u fun e w' => e = .returned (.bool a) ∧ Below u.heap.size u w')
    (HG : ∀ u, Calls Try.prog 25 #[.int .i64 y] u fun e w' => e = .returned (.bool b) ∧ u = w')
    (hr : (a = false ∧ r = 4) ∨ (a = true ∧ b = false ∧ r = 1)) :
    Calls Try.prog 9 #[.agg #[v0, v1, v2], .int .i64 y, .int .i64 day] W fun e w' => e = .returned (.int .i64 r) ∧ Below W.heap.size W w' := by
  have B0 := Lib.hid ((Below.refl W.heap.size W).alloc (Nat.le_refl _) (.cells #[v0, v1, v2] 25))
  rcases hr with ⟨rfl, rfl⟩ | ⟨rfl, rfl, rfl⟩
  · go_enter Try.func9, Try.ntmps9
    go_wp2_with fail
    refine (HC _ B0.out).mono ?_
    rintro e w1 ⟨rfl, hb1⟩
    have S1 := Lib.hid (below_on B0.out hb1)
    clear hb1
    go_wp2_with fail
    go_ret
    exact ⟨rfl, S1.out⟩
  · go_enter Try.func9, Try.ntmps9
    go_wp2_with fail
    refine (HC _ B0.out).mono ?_
    rintro e w1 ⟨rfl, hb1⟩
    have S1 := Lib.hid (below_on B0.out hb1)
    clear hb1
    go_wp2_with fail
    refine (HG _).mono ?_
    rintro e wq ⟨rfl, rfl⟩
    go_wp2_with fail
    go_ret
    exact ⟨rfl, S1.out⟩
theorem r18fl_1 (v0 v1 v2 : Value) (y day f g r : Int) (W : World) (y1 : 1 ≤ y) (y2 : y ≤ 1000000000)
    (HC : ∀ u, Below W.heap.size W u → Calls Try.prog 24 #[.agg #[v0, v1, v2]] u fun e w' => e = .returned (.bool true) ∧ Below u.heap.size u w')
    (HG : ∀ u, Calls Try.prog 25 #[.int .i64 y] u fun e w' => e = .returned (.bool true) ∧ u = w')
    (HF : ∀ u, Calls Try.prog 26 #[.int .i64 y] u fun e w' => e = .returned (.int .i64 f) ∧ u = w')
    (HN : ∀ u, Calls Try.prog 26 #[.int .i64 (y + 1)] u fun e w' => e = .returned (.int .i64 g) ∧ u = w')
    (hr : (decide (day < f) = true ∧ r = 2) ∨ (decide (day < f) = false ∧ decide (g ≤ day) = true ∧ r = 2) ∨ (decide (day < f) = false ∧ decide (g ≤ day) = false ∧ r = 0)) :
    Calls Try.prog 9 #[.agg #[v0, v1, v2], .int .i64 y, .int .i64 day] W fun e w' => e = .returned (.int .i64 r) ∧ Below W.heap.size W w' := by
  have B0 := Lib.hid ((Below.refl W.heap.size W).alloc (Nat.le_refl _) (.cells #[v0, v1, v2] 25))
  rcases hr with ⟨d1, rfl⟩ | ⟨d1, d2, rfl⟩ | ⟨d1, d2, rfl⟩
  · go_enter Try.func9, Try.ntmps9
    go_wp2_with fail
    refine (HC _ B0.out).mono ?_
    rintro e w1 ⟨rfl, hb1⟩
    have S1 := Lib.hid (below_on B0.out hb1)
    clear hb1
    go_wp2_with fail
    refine (HG _).mono ?_
    rintro e wq ⟨rfl, rfl⟩
    go_wp2_with fail
    refine (HF _).mono ?_
    rintro e wq ⟨rfl, rfl⟩
    go_wp2_with fail
    go_ret
    exact ⟨rfl, S1.out⟩
  all_goals
    go_enter Try.func9, Try.ntmps9
    go_wp2_with fail
    refine (HC _ B0.out).mono ?_
    rintro e w1 ⟨rfl, hb1⟩
    have S1 := Lib.hid (below_on B0.out hb1)
    clear hb1
    go_wp2_with fail
    refine (HG _).mono ?_
    rintro e wq ⟨rfl, rfl⟩
    go_wp2_with fail
    refine (HF _).mono ?_
    rintro e wq ⟨rfl, rfl⟩
    go_wp2_with fail
    refine (HN _).mono ?_
    rintro e wq ⟨rfl, rfl⟩
    go_wp2_with fail
    go_ret
    exact ⟨rfl, S1.out⟩
theorem r18fl_any (c : Cat) (y day : Int) (v : Value) (W : World) (h : CatAt W v c) : Calls Try.prog 9 #[v, .int .i64 y, .int .i64 day] W fun e w' => e = .returned (.int .i64 (snE c y day)) ∧ Below W.heap.size W w' := by
  obtain ⟨vs, vf, hv, _, _⟩ := h.v
  subst hv
  have HC := fun u (hu : Below W.heap.size W u) => r17ck_any c _ u (h.on hu)
  have HG := fun u => rgre_any y u
  unfold snE
  cases hc : catB c
  · rw [hc] at HC
    exact r18fl_0 _ _ _ y day _ _ _ W HC HG (.inl ⟨rfl, rfl⟩)
  · rw [hc] at HC
    rw [if_pos rfl]
    cases g : inG y
    · rw [g] at HG
      exact r18fl_0 _ _ _ y day _ _ _ W HC HG (.inr ⟨rfl, rfl, rfl⟩)
    · rw [g] at HG
      rw [if_pos rfl]
      have i := inG_iff.1 g
      refine r18fl_1 _ _ _ y day (gfst y) (gfst (y + 1)) _ W (by omega) (by omega) HC HG (fun u => sfirst_in y u (by omega) (by omega)) (fun u => sfirst_in (y + 1) u (by omega) (by omega)) ?_
      show (decide (day < greg.fst y) = true ∧ _) ∨ (decide (day < greg.fst y) = false ∧ decide (greg.fst (y + 1) ≤ day) = true ∧ _) ∨ (decide (day < greg.fst y) = false ∧ decide (greg.fst (y + 1) ≤ day) = false ∧ _)
      by_cases d1 : day < greg.fst y
      · exact .inl ⟨decide_eq_true d1, by rw [if_pos (.inl d1)]⟩
      · by_cases d2 : greg.fst (y + 1) ≤ day
        · exact .inr (.inl ⟨decide_eq_false d1, decide_eq_true d2, by rw [if_pos (.inr d2)]⟩)
        · exact .inr (.inr ⟨decide_eq_false d1, decide_eq_false d2, by rw [if_neg (by omega)]⟩)
end Go.Proofs.Ytnofmlkjagdklaa

namespace Go.Proofs.Ytnofmlkjagdklaa

/-- One season starts before another one (or, on the same day, stands before it). -/
def ltS (l : List Int) (i j : Nat) : Bool := decide (l.getD i 0 < l.getD j 0 ∨ (l.getD i 0 = l.getD j 0 ∧ i < j))
theorem inA_is (l : List Int) (day : Int) : ∀ k, (∀ i, i < k → 0 ≤ l.getD i 0) → (inA l day k = (-1, 0) ∧ ∀ j, j < k → ¬ l.getD j 0 ≤ day) ∨ ∃ b, b < k ∧ inA l day k = ((b : Int), l.getD b 0) ∧ l.getD b 0 ≤ day ∧ ∀ j, j < k → l.getD j 0 ≤ day → l.getD j 0 < l.getD b 0 ∨ (l.getD j 0 = l.getD b 0 ∧ j ≤ b)
  | 0, _ => .inl ⟨rfl, fun j h => by omega⟩
  | k + 1, hp => by
    have e : inA l day (k + 1) = if l.getD k 0 ≤ day ∧ (inA l day k).2 ≤ l.getD k 0 then ((k : Int), l.getD k 0) else inA l day k := rfl
    rcases inA_is l day k (fun i hi => hp i (by omega)) with ⟨h1, h2⟩ | ⟨b, hb, h1, h2, h3⟩
    · rw [h1] at e
      by_cases hd : l.getD k 0 ≤ day
      · have := hp k (by omega)
        rw [if_pos ⟨hd, this⟩] at e
        refine .inr ⟨k, by omega, e, hd, fun j hj hjd => ?_⟩
        by_cases ej : j = k
        · rw [ej]; exact .inr ⟨rfl, Nat.le_refl _⟩
        · exact absurd hjd (h2 j (by omega))
      · rw [if_neg (fun h => hd h.1)] at e
        refine .inl ⟨e, fun j hj => ?_⟩
        by_cases ej : j = k
        · rw [ej]; exact hd
        · exact h2 j (by omega)
    · rw [h1] at e
      by_cases hd : l.getD k 0 ≤ day ∧ l.getD b 0 ≤ l.getD k 0
      · rw [if_pos hd] at e
        refine .inr ⟨k, by omega, e, hd.1, fun j hj hjd => ?_⟩
        by_cases ej : j = k
        · rw [ej]; exact .inr ⟨rfl, Nat.le_refl _⟩
        · have := h3 j (by omega) hjd
          omega
      · rw [if_neg hd] at e
        refine .inr ⟨b, by omega, e, h2, fun j hj hjd => ?_⟩
        by_cases ej : j = k
        · subst ej; omega
        · have := h3 j (by omega) hjd
          omega
theorem inB_is (l : List Int) : ∀ k, (∀ i, i < k → 0 ≤ l.getD i 0) → 0 < k → ∃ b, b < k ∧ inB l k = ((b : Int), l.getD b 0) ∧ ∀ j, j < k → l.getD j 0 < l.getD b 0 ∨ (l.getD j 0 = l.getD b 0 ∧ j ≤ b)
  | 0, _, h => by omega
  | k + 1, hp, _ => by
    have e : inB l (k + 1) = if (inB l k).2 ≤ l.getD k 0 then ((k : Int), l.getD k 0) else inB l k := rfl
    by_cases hk : 0 < k
    · obtain ⟨b, hb, h1, h3⟩ := inB_is l k (fun i hi => hp i (by omega)) hk
      rw [h1] at e
      by_cases hd : l.getD b 0 ≤ l.getD k 0
      · rw [if_pos hd] at e
        refine ⟨k, by omega, e, fun j hj => ?_⟩
        by_cases ej : j = k
        · rw [ej]; exact .inr ⟨rfl, Nat.le_refl _⟩
        · have := h3 j (by omega)
          omega
      · rw [if_neg hd] at e
        refine ⟨b, by omega, e, fun j hj => ?_⟩
        by_cases ej : j = k
        · subst ej; omega
        · have := h3 j (by omega)
          omega
    · obtain rfl : k = 0 := by omega
      have := hp 0 (by omega)
      rw [show inB l 0 = (-1, 0) from rfl, if_pos this] at e
      exact ⟨0, by omega, e, fun j hj => by rw [show j = 0 by omega]; exact .inr ⟨rfl, Nat.le_refl _⟩⟩
section
variable {l : List Int} {n : Nat} {s : Nat → Nat} (day : Int) (hn : n = l.length) (h0 : 0 < n) (hp : ∀ i, i < n → 0 < l.getD i 0) (G : Gd n s) (S : Srt (ltS l) s 0 n)
include hn h0 hp G S
omit h0 in
end
theorem itsD_at {ts : List Itm} {y : Int} {i : Nat} (hi : i < ts.length) : (itsD ts y).getD i 0 = itD ts[i] y := by
  unfold itsD
  rw [List.getD_eq_getElem?_getD, List.getElem?_map, List.getElem?_eq_getElem hi]; rfl
theorem its_pos {c : Cat} {y : Int} (hc : catB c = true) (g : inG y = true) (i : Nat) (hi : i < (itsD c.ss y).length) : 0 < (itsD c.ss y).getD i 0 := by
  have hi' : i < c.ss.length := by unfold itsD at hi; simpa using hi
  rw [itsD_at hi']
  have := an_bd (sea_ok hc g (List.getElem_mem hi'))
  unfold itD
  omega
theorem its_len (ts : List Itm) (y : Int) : (itsD ts y).length = ts.length := by unfold itsD; simp
theorem snF_bd {l : List Int} {day : Int} (hp : ∀ i, i < l.length → 0 < l.getD i 0) : snF l day = 0 ∨ (0 < snF l day ∧ snF l day ≤ day) := by
  rcases inA_is l day l.length (fun i hi => Int.le_of_lt (hp i hi)) with ⟨h, _⟩ | ⟨b, hb, h1, h2, _⟩
  · left; unfold snF; rw [h]; rfl
  · right
    have := hp b hb
    have e : snF l day = l.getD b 0 := by
      unfold snF
      rw [h1, if_pos (show (0 : Int) ≤ ((b : Int), l.getD b 0).1 by show (0 : Int) ≤ (b : Int); omega)]
    omega
theorem snE_zero {c : Cat} {y day : Int} (h : snE c y day = 0) : catB c = true ∧ inG y = true ∧ greg.fst y ≤ day ∧ day < greg.fst (y + 1) := by
  unfold snE at h
  split at h
  · split at h
    · split at h
      · exact absurd h (by decide)
      · exact ⟨by assumption, by assumption, by omega, by omega⟩
    · exact absurd h (by decide)
  · exact absurd h (by decide)
theorem sn_day {c : Cat} {y day : Int} (h : snE c y day = 0) : 1 ≤ greg.fst y ∧ greg.fst y ≤ day ∧ day ≤ 365249999998 ∧ (snF (itsD c.ss y) day = 0 ∨ (0 < snF (itsD c.ss y) day ∧ snF (itsD c.ss y) day ≤ day)) := by
  obtain ⟨hc, g, h1, h2⟩ := snE_zero h
  have i := inG_iff.1 g
  have e1 := greg.fst_mono 1 y (by omega) (by omega)
  have e2 := greg.fst_mono (y + 1) 1000000001 (by omega) (by omega)
  have e3 : greg.fst 1 = 1 := by decide
  have e4 := (fst_ends 2).2.2.2
  rw [calOf2] at e4
  exact ⟨by omega, h1, by omega, snF_bd (its_pos hc g)⟩
theorem snI_in {l : List Int} {day : Int} (h0 : 0 < l.length) (hp : ∀ i, i < l.length → 0 < l.getD i 0) : ∃ i : Nat, i < l.length ∧ snI l day = i := by
  rcases inA_is l day l.length (fun i hi => Int.le_of_lt (hp i hi)) with ⟨h, _⟩ | ⟨b, hb, h1, h2, _⟩
  · obtain ⟨b, hb, h1, _⟩ := inB_is l l.length (fun i hi => Int.le_of_lt (hp i hi)) h0
    exact ⟨b, hb, by unfold snI; rw [h, if_neg (by decide), h1]⟩
  · exact ⟨b, hb, by unfold snI; rw [h1, if_pos (show (0 : Int) ≤ ((b : Int), l.getD b 0).1 by show (0 : Int) ≤ (b : Int); omega)]⟩
end Go.Proofs.Ytnofmlkjagdklaa

namespace Go.Proofs.Ytnofmlkjagdklaa
open Go.RowKit

def plL (n : Nat) (s : Nat → Nat) : List Int := (List.range n).map fun i => (s i : Int)
theorem plL_len (n : Nat) (s : Nat → Nat) : (plL n s).length = n := by unfold plL; simp
theorem plL_at {n : Nat} {s : Nat → Nat} {i : Nat} (hi : i < n) : (plL n s)[i]? = some (s i : Int) := by unfold plL; rw [List.getElem?_map, List.getElem?_range hi]; rfl
theorem plL_swp {n : Nat} {s : Nat → Nat} {i j : Nat} (hi : i < n) (hj : j < n) : ((plL n s).set i (s j)).set j (s i) = plL n (swp s i j) := by
  apply List.ext_getElem?
  intro q
  by_cases hq : q < n
  · rw [plL_at hq, List.getElem?_set, List.getElem?_set, plL_at hq, List.length_set, plL_len]
    unfold swp
    by_cases h1 : j = q
    · subst h1
      rw [if_pos rfl, if_pos hj]
      by_cases h2 : j = i
      · subst h2; rw [if_pos rfl]
      · rw [if_neg h2, if_pos rfl]
    · rw [if_neg h1]
      by_cases h2 : i = q
      · subst h2
        rw [if_pos rfl, if_pos hi, if_pos rfl]
      · rw [if_neg h2, if_neg (fun e => h2 e.symm), if_neg (fun e => h1 e.symm)]
  · rw [List.getElem?_set_ne (by omega), List.getElem?_set_ne (by omega), List.getElem?_eq_none (by rw [plL_len]; omega), List.getElem?_eq_none (by rw [plL_len]; omega)]
def StO (W : World) (B g cap n : Nat) (s : Nat → Nat) (u : World) : Prop := IntsAt B (.slice (some ⟨g, 0, none⟩) n cap) (plL n s) u ∧ Below B W u ∧ B ≤ u.heap.size
theorem StO.on {W : World} {B g cap n : Nat} {s : Nat → Nat} {u u' : World} (h : StO W B g cap n s u) (hb : Below u.heap.size u u') : StO W B g cap n s u' :=
  ⟨h.1.on hb, h.2.1.trans (hb.mono h.2.2), Nat.le_trans h.2.2 hb.size⟩
theorem StO.cd {W : World} {B g cap n : Nat} {s : Nat → Nat} {u : World} (h : StO W B g cap n s u) {i : Nat} (hi : i < n) : u.cell? ⟨g, i, none⟩ = some (.int .i64 (s i : Int)) := by
  have K := h.1
  have := World.ownsRow.cells K (g := g) rfl i (.int .i64 (s i : Int)) (by rw [List.getElem?_map, plL_at hi]; rfl)
  rwa [show (⟨g, 0, none⟩ : Addr).add i = ⟨g, i, none⟩ by unfold Addr.add; split <;> simp_all] at this
theorem StO.fz {W : World} {B g cap n : Nat} {s : Nat → Nat} {u : World} (h : StO W B g cap n s u) (j : Nat) : u.frozen? ⟨g, j, none⟩ = false := by
  have K := h.1
  unfold IntsAt at K
  rw [plL_len] at K
  exact World.ownsRow.frozenAt K j
theorem StO.cap {W : World} {B g cap n : Nat} {s : Nat → Nat} {u : World} (h : StO W B g cap n s u) : n ≤ cap ∧ cap ≤ maxLen := by
  rcases h.1.get with ⟨e, _⟩ | ⟨g', cap', e, h'⟩
  · cases e
  · obtain ⟨rfl, _, rfl⟩ : g = g' ∧ n = (plL n s).length ∧ cap = cap' := by simpa using e
    have := h'.le
    rw [plL_len] at this
    exact ⟨this, h'.mx⟩
theorem StO.dn {W : World} {B g cap n : Nat} {s : Nat → Nat} {u : World} (h : StO W B g cap n s u) : StO W B g cap n s u.drew := ⟨World.ownsRow.drew h.1, below_dn h.2.1 1, h.2.2⟩
theorem StO.swap {W : World} {B g cap n : Nat} {s : Nat → Nat} {u : World} (h : StO W B g cap n s u) {i j : Nat} (hi : i < n) (hj : j < n) : StO W B g cap n (swp s i j) ((u.setCell ⟨g, i, none⟩ (.int .i64 (s j : Int))).setCell ⟨g, j, none⟩ (.int .i64 (s i : Int))) := by
  have K := h.1
  unfold IntsAt at K
  rw [plL_len] at K
  have hBg : B ≤ g := (World.ownsRow.lt K g rfl).1
  have K1 := (World.ownsRow.stored K i (.int .i64 (s j : Int))).1
  have K2 := (World.ownsRow.stored K1 j (.int .i64 (s i : Int))).1
  refine ⟨?_, (h.2.1.setCell (p := ⟨g, i, none⟩) hBg _).setCell (p := ⟨g, j, none⟩) hBg _, by have := h.2.2; simpa using this⟩
  unfold IntsAt
  rw [plL_len, ← plL_swp hi hj, List.map_set, List.map_set]
  exact K2
theorem vj {x : Int} {k : Nat} (h : x = k) : Value.int .i64 x = .int .i64 k := by rw [h]
end Go.Proofs.Ytnofmlkjagdklaa

namespace Go.Proofs.Ytnofmlkjagdklaa
open Go.RowKit Go.Shelf
attribute [local go_sem] Oper.semAt_some

/-- The numbers of a list's things from its end: the first k. -/
def Dn {n : Nat} (k : Nat) (pre : List (Fin n)) : Prop := pre.length = k ∧ ∀ j, j < k → pre[j]?.map Fin.val = some (n - 1 - j)
theorem Dn.nil {n : Nat} : Dn 0 ([] : List (Fin n)) := ⟨rfl, fun j h => by omega⟩
theorem Dn.more {n k : Nat} {pre : List (Fin n)} (h : Dn k pre) (x : Fin n) (hx : x.val = n - 1 - k) : Dn (k + 1) (pre ++ [x]) := by
  refine ⟨by rw [List.length_append, h.1]; rfl, fun j hj => ?_⟩
  by_cases e : j = k
  · subst e
    rw [List.getElem?_append_right (by rw [h.1]; exact Nat.le_refl _), h.1, Nat.sub_self]
    show some x.val = _
    rw [hx]
  · rw [List.getElem?_append_left (by rw [h.1]; omega)]
    exact h.2 j (by omega)
end Go.Proofs.Ytnofmlkjagdklaa
