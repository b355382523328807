/- What earlier stages proved: Li Lj Lk Lm. -/
import Derived.Test.YtodmpmcnlbkhhaaDoorKn
import Derived.RangeFuncNested
import Derived.RangeFuncBound
import Derived.RangeFuncCalls
import Derived.RangeFuncLeaves
import Derived.RangeFuncBox
import Derived.Shelf.Abstract
import Derived.Shelf.RegionOpen
import Derived.OwnWalkIn
import Derived.TacticsInMore
import Derived.LoopNIn
import Derived.LoopIn
import Derived.Maps.AppendAt
import Derived.Test.YtodmpmcnlbkhhaaDoorKo
import Derived.Test.YtodmpmcnlbkhhaaDoorKl
namespace Go.Proofs.YtodmpmcnlbkhhaaDoor
open Go.RowKit Go.Shelf
attribute [local go_sem] Oper.semAt_some

theorem wpListIn_load_row {F : Fence} {n : Nat} {P : Program} {ops : Array Oper} {rest : List Oper} {o : Oper} {a : Act} {w : World} {Q : Exit → Act → World → Prop} (hgd : o.guard = none) (ty : TypeId) (x : Operand) (ho : o.op = .load ty x)
    (g : Nat) (hx : a.eval x = .pointer (some ⟨g, 0, none⟩)) (t : TypeId) (cs : Array Value) (fr : Nat × Nat) (d : TypeDesc) (hg : w.heap[g]? = some (.cells cs t fr))
    (hu : P.underlying ty = some d) (hd : (match d with | .struct _ | .array _ _ => true | _ => false) = true) (hi : (P.info? ty).map (·.size) = some cs.size)
    (h : wpListIn F n P ops Q rest (a.put o.dst (.agg cs)) w) : wpListIn F n P ops Q (o :: rest) a w :=
  wpListIn_plain hgd fun K hK => by
    unfold Oper.wpIn
    refine ⟨?_, ?_⟩
    · simp [Oper.about, ho]
    · rw [Oper.semAt_plain F _ _ (by rw [ho]; intro c hc'; cases hc')]
      unfold execOp
      simp only [ho, hx, Instr.loadAt, Instr.sureAddr, Sem.run_bind, Sem.run_pure, Result.andThen_ok, run_loadVar_row w g t ty cs fr d hg hu hd hi]
      exact hK _ _ h

def lensV : Array Value := (lens.map (Value.int .i64)).toArray
theorem len_index (i : Nat) (hi : i < 12) (w : World) : (Instr.index 83 (.agg lensV) (.int .i64 i)).run Tryd.prog w = .ok (.int .i64 (dim false (i + 1))) w := by
  have h : i = 0 ∨ i = 1 ∨ i = 2 ∨ i = 3 ∨ i = 4 ∨ i = 5 ∨ i = 6 ∨ i = 7 ∨ i = 8 ∨ i = 9 ∨ i = 10 ∨ i = 11 := by omega
  rcases h with rfl | rfl | rfl | rfl | rfl | rfl | rfl | rfl | rfl | rfl | rfl | rfl
  all_goals rfl
abbrev encs (x : Int × Int) : Array Value := #[.int .i64 x.1, .int .i64 x.2]
theorem year_at {m d : Int} (h : okD m d = true) : year.take (doy m d).toNat = year.take (doy m d - 1).toNat ++ [(m, d)] := by
  have hd := doy_bd h
  obtain ⟨m1, m2, d1, d2⟩ := okD_bd h
  have := all_md (fun m d => !okD m d || (year[(doy m d - 1).toNat]? == some (m, d))) (by kernel_rfl) m d m1 m2 d1 d2
  rw [h] at this
  have e : year[(doy m d - 1).toNat]? = some (m, d) := by simpa using this
  rw [show (doy m d).toNat = (doy m d - 1).toNat + 1 by omega, List.take_add_one, e]; rfl
theorem year_all : year.take 365 = year := by rw [← year_len, List.take_length]
theorem take_len {n : Nat} (h : n ≤ 365) : (year.take n).length = n := by rw [List.length_take, year_len]; omega

set_option maxRecDepth 100000 in
set_option maxHeartbeats 1000000 in
theorem cy_in (F : Fence) (n : Nat) (hF : F.fn 70) (hro : F.round = none) (hn : 1 ≤ n) (l n₀ : Nat) (J Jx : List (Int × Int) → World → Prop)
    (hY : ∀ pre x W, J pre W → pre.length < 365 → YieldAt F (n - 1) Tryd.prog l #[.int .i64 x.1, .int .i64 x.2] W fun e W' =>
      (e = .returned (.bool true) ∧ J (pre ++ [x]) W' ∧ Below n₀ W W') ∨ (e = .returned (.bool false) ∧ Jx (pre ++ [x]) W'))
    (W : World) (ht : LTab W) (h0 : J [] W) :
    CallsIn F n Tryd.prog 70 #[.func (.yield l) #[] #[]] W fun e W' => (∃ v, e = .returned v) ∧
      ((∃ ys, ys = year ∧ J ys W') ∨ (∃ pre, pre <+: year ∧ Jx pre W')) := by
  obtain ⟨t, fr, hg⟩ := ht.len
  have hi : (Tryd.prog.info? 83).map (·.size) = some lensV.size := by kernel_rfl
  clear ht
  refine callsIn_of_wp Tryd.func70 rfl hF ?_ hro
  simp only [Tryd.ntmps70, List.size_toArray, List.length_cons, List.length_nil, Nat.reduceAdd, Nat.reduceSub, Array.replicate_succ, Array.replicate_zero, List.push_toArray, List.append_toArray, List.nil_append, List.cons_append]
  gi_wp2_with (refine wpListIn_load_row rfl _ _ rfl 0 rfl t lensV fr _ hg Tryd.underlying83 rfl hi ?_)
  have HY := Lib.hid hY
  clear hY hg hi
  gi_loopw [6] (fun i wr => ∃ k : Nat, k ≤ 12 ∧ i = .int .i64 k ∧ J (year.take (cum false (k + 1)).toNat) wr) (fun i _ => 12 - (intOf i).toNat)
  case atStart => exact ⟨0, by omega, rfl, by rw [show ((0 : Nat) : Int) + 1 = 1 from rfl, cum_one]; exact h0⟩
  case round =>
    obtain ⟨k, hk, rfl, hJ⟩ := hrel
    have HJ := Lib.hid hJ
    clear hJ h0
    by_cases hlt : k < 12
    · have hx := len_index k hlt
      have e12 : decide ((k : Int) < 12) = true := decide_eq_true (by omega)
      have hdm := dim_bd false (k + 1) (by omega) (by omega)
      have hcb := cum_bd false (k + 1) (by omega) (by omega)
      have HS := Lib.hid (cum_succ false (k + 1) (by omega) (by omega))
      generalize hc : cum false (k + 1) = c at *
      have HC := Lib.hid hc
      clear hc
      gi_wp2
      gi_loopw [4] (fun d wr => ∃ i : Int, 1 ≤ i ∧ i ≤ dim false (k + 1) + 1 ∧ d = .int .i64 i ∧ J (year.take (c + i - 1).toNat) wr) (fun d _ => (dim false (k + 1) + 1 - intOf d).toNat)
      case atStart => exact ⟨1, by omega, by omega, rfl, by rw [show c + 1 - 1 = c by omega]; exact HJ.out⟩
      case round =>
        obtain ⟨i, ii1, ii2, rfl, hJ2⟩ := hrel
        have HJ2 := Lib.hid hJ2
        clear hJ2 hx
        by_cases hle : i ≤ dim false (k + 1)
        · have hok : okD (k + 1) i = true := okD_iff.2 ⟨ii1, hle⟩
          have hdo : doy (k + 1) i = c + i := by rw [doy, HC.out]
          have hb := doy_bd hok
          have hya := year_at hok
          rw [hdo] at hya hb
          have HA := Lib.hid hya
          clear hok hdo hya
          obtain ⟨fn, tmps, assign, body, hy, hR⟩ := HY.out _ ((k : Int) + 1, i) _ HJ2.out (by rw [take_len (by omega)]; omega)
          dsimp only at hy hR
          have HR := Lib.hid hR
          clear hR
          gi_wp2
          refine HR.out.mono ?_
          rintro e W3 (⟨rfl, hJ3, _⟩ | ⟨rfl, hJx3⟩)
          · have HJ3 := Lib.hid hJ3
            clear hJ3
            gi_wp2
            go_roundw
            case rel => exact ⟨i + 1, by omega, by omega, by go_num, by rw [show c + (i + 1) - 1 = c + i by omega, HA.out]; exact HJ3.out⟩
            case measure => simp [intOf]; omega
          · have HJ3 := Lib.hid hJx3
            clear hJx3
            gi_wp2
            refine bodyPost_ret (results_none rfl _ _ _) rfl ?_
            exact ⟨⟨_, rfl⟩, .inr ⟨_, by rw [← HA.out]; exact List.take_prefix _ _, HJ3.out⟩⟩
        · have HE : Hid (c + i - 1 = cum false (k + 1 + 1)) := Lib.hid (by rw [HS.out]; omega)
          gi_wp2
          go_roundw
          case rel => exact ⟨k + 1, by omega, by go_num, by have := HJ2.out; rwa [HE.out] at this⟩
          case measure => simp [intOf]; omega
    · obtain rfl : k = 12 := by omega
      gi_wp2
      go_end0
      exact ⟨⟨_, rfl⟩, .inl ⟨_, year_all, by have := HJ.out; rwa [show cum false (((12 : Nat) : Int) + 1) = 365 from cum_end false] at this⟩⟩
theorem cy_stops (F : Fence) (n : Nat) (hF : F.fn 70) (hro : F.round = none) (hn : 1 ≤ n) (n₀ : Nat) (w : World) (ht : LTab w) :
    SeqStopsK F n Tryd.prog 70 #[] encs (Below n₀) (fun ys => ys = year) (fun pre => pre <+: year) 365 w := fun l J Jx W hW _ _ hY h0 =>
  cy_in F n hF hro hn l n₀ J Jx hY W (ht.on hW) h0
theorem cy_any (w : World) :
    Calls Tryd.prog 53 #[] w fun e w' => e = .returned (.func (.func 70) #[] #[]) ∧ w = w' := by
  go_enter Tryd.func53, Tryd.ntmps53
  go_wp2
  go_ret
  exact ⟨rfl, rfl⟩
end Go.Proofs.YtodmpmcnlbkhhaaDoor

namespace Go.Proofs.YtodmpmcnlbkhhaaDoor
open Go.RowKit Go.Shelf
attribute [local go_sem] Oper.semAt_some

def flat : List (Int × Int) → List Value
  | [] => []
  | x :: xs => .int .i64 x.1 :: .int .i64 x.2 :: flat xs
theorem flat_app : ∀ xs ys : List (Int × Int), flat (xs ++ ys) = flat xs ++ flat ys
  | [], _ => rfl
  | x :: xs, ys => by simp [flat, flat_app xs ys]
def PairsAt (B : Nat) (v : Value) (ps : List (Int × Int)) (w : World) : Prop := w.ownsRow B 59 2 v ps.length (flat ps)
theorem PairsAt.on {B : Nat} {v : Value} {xs : List (Int × Int)} {w w' : World} (h : PairsAt B v xs w) (hb : Below w.heap.size w w') : PairsAt B v xs w' :=
  World.ownsRow.kept h (grown_of_below hb none) (by cases hv : v.ownBlock <;> simp)
def RetPairs (xs : List (Int × Int)) (w : World) (e : Ending) (w' : World) : Prop := ∃ v, e = .returned v ∧ PairsAt w.heap.size v xs w' ∧ Below w.heap.size w w'
theorem infoPair : (Tryd.prog.info? 59).map (fun i => (i.zero, i.size, i.bytes)) = some (some (.agg #[.int .i64 0, .int .i64 0]), 2, 16) := by kernel_rfl
theorem cell_two_new (w : World) (x y : Value) (t : TypeId) : ∀ j u, [x, y][j]? = some u → (w.alloc (.cells #[x, y] t)).cell? ((⟨w.heap.size, 0, none⟩ : Addr).add j) = some u := by
  intro j u h
  rw [show (⟨w.heap.size, 0, none⟩ : Addr).add j = ⟨w.heap.size, j, none⟩ by unfold Addr.add; split <;> simp_all, cell_of_row _ _ j _ _ _ (heap_alloc_new w (.cells #[x, y] t))]
  rw [← Array.getElem?_toList]; exact h
theorem keeps_below {w w' : World} (hb : Below w.heap.size w w') : KeepsOthers w w' := KeepsOthers.of_grownBy (grown_of_below hb none) (fun j o ej _ => by cases ej)
theorem boxed_below {W W' : World} {B : Nat} {t : TypeId} {v : Value} (h : Boxed W B t v) (hb : Below W.heap.size W W') : Boxed W' B t v := h.kept (grown_of_below hb none) (by simp)

/-- What the round owes behind its append and its store into the box. -/
theorem days_app {W w1 w2 : World} {n₀ B : Nat} {t t' : TypeId} {v v' u : Value} {k : Nat} {xs ys : List Value} {tmp : Obj}
    (hb1 : Below W.heap.size W w1) (hv : Boxed W (B + 1) t v) (hte : t ≠ 59) (hte' : t' ≠ 59) (hrow : W.ownsRow n₀ 59 2 v k xs) (hn₀ : n₀ ≤ W.heap.size) (hB : n₀ ≤ B) (hu : Boxed W B t' u)
    (hown' : w2.ownsRow n₀ 59 2 v' (k + 1) ys) (hgrow : (w1.alloc tmp).grownBy w2 v.ownBlock) :
    Boxed w2 (B + 1) t v ∧ Boxed (w2.setCell ⟨B + 1, 0, none⟩ v') (B + 1) t v' ∧ (w2.setCell ⟨B + 1, 0, none⟩ v').ownsRow n₀ 59 2 v' (k + 1) ys ∧ KeepsOthers W (w2.setCell ⟨B + 1, 0, none⟩ v') ∧ Below n₀ W (w2.setCell ⟨B + 1, 0, none⟩ v') ∧ Boxed (w2.setCell ⟨B + 1, 0, none⟩ v') B t' u := by
  have hrow1 : w1.ownsRow n₀ 59 2 v k xs := World.ownsRow.kept hrow (grown_of_below hb1 none) (by cases hv : v.ownBlock <;> simp)
  obtain ⟨h1, h2, h3, h4, h5⟩ := (boxed_below hv hb1).appended hte hrow1 (Nat.le_trans hn₀ hb1.size) (by omega) hown' hgrow
  have hu2 : Boxed w2 B t' u := ((boxed_below hu hb1).alloc tmp).kept hgrow ((boxed_below hu hb1).not_row hte' hrow1)
  exact ⟨h1, h2, h3, (keeps_below hb1).trans h4, (hb1.mono hn₀).trans h5, hu2.other (by omega) _⟩

set_option maxRecDepth 100000 in
set_option maxHeartbeats 2000000 in
theorem days_any (l : Int) (w : World) (ht : LTab w) :
    Calls Tryd.prog 35 #[.int .i64 l] w (RetPairs (days l) w) := by
  obtain ⟨i0, hi, hz0, hz1, hz2⟩ := info_parts infoPair
  have HT := Lib.hid ht
  clear ht
  refine (callsIn_wide (n := 3)).1 ?_
  refine callsIn_of_wp_marks Tryd.func35 rfl trivial ?_ rfl
  simp only [Tryd.ntmps35, List.size_toArray, List.length_cons, List.length_nil, Nat.reduceAdd, Nat.reduceSub, Array.replicate_succ, Array.replicate_zero, List.push_toArray, List.append_toArray, List.nil_append, List.cons_append]
  gi_wp2_with (refine ⟨trivial, ?_⟩; gi_at_call 53; refine (callsIn_wide.2 (cy_any _)).mono ?_; rintro e w' ⟨rfl, rfl⟩)
  have bL := Boxed.new w 3 (.int .i64 l)
  have bO := Boxed.new (w.alloc (.cells #[.int .i64 l] 3)) 57 (.slice none 0 0)
  rw [World.size_alloc] at bO
  have bL2 := bL.alloc (.cells #[.slice none 0 0] 57)
  have hB0 : Below w.heap.size w ((w.alloc (.cells #[.int .i64 l] 3)).alloc (.cells #[.slice none 0 0] 57)) := ((Below.refl _ w).alloc (Nat.le_refl _) _).alloc (by simp) _
  refine wpIn_rangeFunc_ownG rfl (by omega) (gf := 70) (lb := #[]) rfl trivial (enters_of Tryd.func70 (by kernel_rfl) rfl)
    (cy_stops Fence.wide _ trivial rfl (by omega) w.heap.size _ (HT.out.on hB0)) belowK_t (belowK_b (by simp; omega)) (Below.refl _ _) (fun _ => rfl)
    (fun pre W => (∃ v, Boxed W (w.heap.size + 1) 57 v ∧ W.ownsRow w.heap.size 59 2 v (sel l pre).length (flat (sel l pre)) ∧ True) ∧ (Boxed W w.heap.size 3 (.int .i64 l) ∧ Below w.heap.size w W))
    (fun _ _ _ => False)
    (OwnFrom.and (Own.from (holdsRow_own w.heap.size (w.heap.size + 1) 57 59 2 (fun pre => (sel l pre).length) (fun pre => flat (sel l pre)) (fun _ _ => True)) _) (OwnFrom.and (Own.from (boxed_own w.heap.size 3 (fun _ => .int .i64 l)) _) (ownFrom_below (Nat.le_refl _) (by simp; omega))))
    (fun _ _ _ _ _ hs _ _ => hs)
    ⟨⟨_, bO, World.ownsRow_nil _ _ _ _, trivial⟩, bL2, hB0⟩
    (fun x => { tmps := #[.int .i64 l, .pointer (some ⟨w.heap.size, 0, none⟩), .slice none 0 0, .pointer (some ⟨w.heap.size + 1, 0, none⟩), .int .i64 x.1, .int .i64 x.2, .func (.func 70) #[] #[], .int .i64 x.1, .int .i64 x.2, undef, undef, undef, undef, undef, undef, undef, undef, undef, undef, undef], defers := [] }) ?assign ?body ?done ?stop
  case assign =>
    intro lp x W K hK
    gi_wp2
    exact hK
  case body =>
    rintro lp pre x W ⟨⟨v, hv, hrow, _⟩, hbl, hB⟩ hlt
    have hc := hbl.cell
    have hle := sel_le l pre
    cases hbr : bears x.1 x.2 l
    · have HR := Lib.hid (fun w ht => by have := lbears_any x.1 x.2 l w ht; rwa [hbr] at this : ∀ w, LTab w → Calls Tryd.prog 26 #[.int .i64 x.1, .int .i64 x.2, .int .i64 l] w fun e w' => e = .returned (.bool false) ∧ Below w.heap.size w w')
      have HP := Lib.hid (sel_miss l pre hbr)
      have HB := Lib.hid hB
      have HV := Lib.hid hv
      have HO := Lib.hid hrow
      have HL := Lib.hid hbl
      clear hbr hB hv hrow hbl
      gi_wp2_with (refine ⟨trivial, ?_⟩; gi_at_call 26; refine (CallsIn.inRound lp (callsIn_wide.2 (HR.out _ (HT.out.on HB.out)))).mono ?_; rintro e w1 ⟨rfl, hb1⟩)
      exact ⟨(keeps_below hb1).from _, hb1.mono HB.out.size, ⟨v, boxed_below HV.out hb1, by rw [HP.out]; exact World.ownsRow.kept HO.out (grown_of_below hb1 none) (by cases hv : v.ownBlock <;> simp), trivial⟩, boxed_below HL.out hb1, below_on HB.out hb1⟩
    · have HR := Lib.hid (fun w ht => by have := lbears_any x.1 x.2 l w ht; rwa [hbr] at this : ∀ w, LTab w → Calls Tryd.prog 26 #[.int .i64 x.1, .int .i64 x.2, .int .i64 l] w fun e w' => e = .returned (.bool true) ∧ Below w.heap.size w w')
      have HP := Lib.hid (sel_hit l pre hbr)
      have HB := Lib.hid hB
      have HV := Lib.hid hv
      have HO := Lib.hid hrow
      have HL := Lib.hid hbl
      clear hbr hB hv hrow hbl
      gi_wp2_with (first | (refine ⟨trivial, ?_⟩; gi_at_call 26; refine (CallsIn.inRound lp (callsIn_wide.2 (HR.out _ (HT.out.on HB.out)))).mono ?_; rintro e w1 ⟨rfl, hb1⟩; have hvc := (boxed_below HV.out hb1).cell) | (gi_at_builtin; refine wpListIn_append_own _ rfl _ _ 57 rfl w.heap.size 59 i0 (.agg #[.int .i64 0, .int .i64 0]) 2 16 Tryd.underlying57 hi hz0 hz1 hz2 rfl (by decide) _ _ _ rfl ((World.ownsRow.kept HO.out (grown_of_below hb1 none) (by cases hv : v.ownBlock <;> simp)).alloc _) ⟨w1.heap.size, 0, none⟩ 1 1 [.int .i64 x.1, .int .i64 x.2] rfl rfl (cell_two_new _ _ _ _) (by simp [Value.oneCell']) (by unfold maxLen; omega) (by omega) (by have := HB.out.size; have := hb1.size; simp; omega) ?_; intro v' w2 hown' hgrow _; obtain ⟨g', cap', rfl⟩ := ownsRow_succ hown'; obtain ⟨hv1, hv2, hr2, hk2, hb2, hl2⟩ := days_app hb1 HV.out (by decide) (by decide) HO.out HB.out.size (Nat.le_refl _) HL.out hown' hgrow; have hc1 := hv1.cell; have hf1 := hv1.frozen; have H1 := Lib.hid hv2; have H2 := Lib.hid hr2; have H3 := Lib.hid hk2; have H4 := Lib.hid hb2; have H5 := Lib.hid hl2; clear hv1 hv2 hr2 hk2 hb2 hl2 hown' hgrow))
      exact ⟨H3.out.from _, H4.out, ⟨_, H1.out, by rw [HP.out, List.length_append, flat_app]; exact H2.out, trivial⟩, H5.out, HB.out.trans H4.out⟩
  case done =>
    rintro D ys W hD rfl ⟨⟨v, hv, hrow, _⟩, hbl, hB⟩ hK
    have hc := hv.cell
    gi_wp2
    refine ⟨by simp, .inl ⟨_, _, rfl, run_takeDeferred hK, ?_⟩⟩
    exact ⟨_, results_tmp rfl _ _ _, v, rfl, ownsRow_putObj hrow _ hK rfl, hB.trans (belowK_b (w := w) (Nat.le_refl _) W D _ _ (by simp at hD; omega) hK rfl rfl)⟩
  case stop =>
    rintro D c pre W _ _ h _
    exact h.elim
end Go.Proofs.YtodmpmcnlbkhhaaDoor

namespace Go.Proofs.YtodmpmcnlbkhhaaDoor
open Go.RowKit

theorem lbears_is (m d l : Int) (b : Bool) (h : bears m d l = b) (w : World) (ht : LTab w) : Calls Tryd.prog 26 #[.int .i64 m, .int .i64 d, .int .i64 l] w fun e w' => e = .returned (.bool b) ∧ Below w.heap.size w w' := by
  rw [← h]; exact lbears_any m d l w ht
end Go.Proofs.YtodmpmcnlbkhhaaDoor

namespace Go.Proofs.YtodmpmcnlbkhhaaDoor
open Go.RowKit

theorem flat_at : ∀ (ps : List (Int × Int)) (i : Nat) (x : Int × Int), ps[i]? = some x → (flat ps)[i * 2]? = some (.int .i64 x.1) ∧ (flat ps)[i * 2 + 1]? = some (.int .i64 x.2)
  | [], i, x, h => by simp at h
  | p :: ps, 0, x, h => by
    simp at h; subst h; exact ⟨rfl, rfl⟩
  | p :: ps, i + 1, x, h => by
    have := flat_at ps i x (by simpa using h)
    rw [show (i + 1) * 2 = i * 2 + 1 + 1 by omega]
    simpa [flat] using this
structure PairsIn (g cap : Nat) (ps : List (Int × Int)) (w : World) : Prop where
  lt : g < w.heap.size
  le : ps.length ≤ cap
  mx : cap ≤ maxLen
  one : ∀ (i : Nat) (x : Int × Int), ps[i]? = some x → w.cell? ⟨g, i * 2, none⟩ = some (.int .i64 x.1)
  two : ∀ (i : Nat) (x : Int × Int), ps[i]? = some x → w.cell? ⟨g, i * 2 + 1, none⟩ = some (.int .i64 x.2)
theorem PairsIn.on {g cap : Nat} {ps : List (Int × Int)} {w w' : World} (h : PairsIn g cap ps w) (hb : Below w.heap.size w w') : PairsIn g cap ps w' :=
  ⟨Nat.lt_of_lt_of_le h.lt hb.size, h.le, h.mx, fun i x hi => cell_below (h.one i x hi) hb, fun i x hi => cell_below (h.two i x hi) hb⟩
theorem PairsAt.get {B : Nat} {v : Value} {ps : List (Int × Int)} {w : World} (h : PairsAt B v ps w) : (v = .slice none 0 0 ∧ ps = []) ∨ ∃ g cap, v = .slice (some ⟨g, 0, none⟩) ps.length cap ∧ PairsIn g cap ps w := by
  rcases h.2 with ⟨rfl, hn⟩ | ⟨g, cap, cur, rfl, hb, hg, hnc, hcm, hcs, htake⟩
  · exact .inl ⟨rfl, List.eq_nil_of_length_eq_zero hn⟩
  · have hadd : ∀ j, (⟨g, 0, none⟩ : Addr).add j = ⟨g, j, none⟩ := fun j => by unfold Addr.add; split <;> simp_all
    refine .inr ⟨g, cap, rfl, (Array.getElem?_eq_some_iff.1 hg).1, hnc, hcm, fun i x hi => ?_, fun i x hi => ?_⟩
    · have := World.ownsRow.cells h (g := g) rfl _ _ (flat_at ps i x hi).1
      rwa [hadd] at this
    · have := World.ownsRow.cells h (g := g) rfl _ _ (flat_at ps i x hi).2
      rwa [hadd] at this
/-- A slice of n pairs of the call's own, opened. -/
def RetPOpen (n : Nat) (ps : List (Int × Int)) (w : World) (e : Ending) (w' : World) : Prop := ∃ g cap, e = .returned (.slice (some ⟨g, 0, none⟩) n cap) ∧ PairsIn g cap ps w' ∧ Below w.heap.size w w'
theorem days_open (l : Int) (n : Nat) (hx : (days l).length = n) (hn : 0 < n) (w : World) (ht : LTab w) : Calls Tryd.prog 35 #[.int .i64 l] w (RetPOpen n (days l) w) :=
  (days_any l w ht).mono fun e w' h => by
    obtain ⟨v, rfl, hv, hb⟩ := h
    rcases hv.get with ⟨_, h0⟩ | ⟨g, cap, rfl, hi⟩
    · rw [h0] at hx; simp at hx; omega
    · exact ⟨g, cap, by rw [hx], hi, hb⟩
theorem days_lens {l : Int} (l1 : 1 ≤ l) (l2 : l ≤ 31) : (days l).length = 12 ∨ (days l).length = 13 := by
  have := all_l (fun l => (days l).length == 12 || (days l).length == 13) (by kernel_rfl) l l1 l2
  simpa using this

/-- What a round of LabelLunations keeps over its calls. -/
structure KeepL (W : World) (g cap : Nat) (ps : List (Int × Int)) (u : World) : Prop where
  t : LTab u
  b : Below W.heap.size W u
  p : PairsIn g cap ps u
theorem KeepL.on {W : World} {g cap : Nat} {ps : List (Int × Int)} {u u' : World} (h : KeepL W g cap ps u) (hb : Below u.heap.size u u') : KeepL W g cap ps u' := ⟨h.t.on hb, below_on h.b hb, h.p.on hb⟩
theorem KeepL.dn {W : World} {g cap : Nat} {ps : List (Int × Int)} {u : World} (h : KeepL W g cap ps u) (n : Nat) : KeepL W g cap ps (u.drewN n) := h.on (below_dn (Below.refl _ _) n)
theorem KeepL.drew {W : World} {g cap : Nat} {ps : List (Int × Int)} {u : World} (h : KeepL W g cap ps u) : KeepL W g cap ps u.drew := h.dn 1
def HasTwo (g i : Nat) (a b : Int) (u : World) : Prop := u.cell? ⟨g, i * 2, none⟩ = some (.int .i64 a) ∧ u.cell? ⟨g, i * 2 + 1, none⟩ = some (.int .i64 b)
theorem HasTwo.on {g i : Nat} {a b : Int} {u u' : World} (h : HasTwo g i a b u) (hb : Below u.heap.size u u') : HasTwo g i a b u' := ⟨cell_below h.1 hb, cell_below h.2 hb⟩
theorem KeepL.two {W : World} {g cap : Nat} {ps : List (Int × Int)} {u : World} {i : Nat} {a b : Int} (h : KeepL W g cap ps u) (hx : ps[i]? = some (a, b)) : HasTwo g i a b u := ⟨h.p.one i _ hx, h.p.two i _ hx⟩
end Go.Proofs.YtodmpmcnlbkhhaaDoor
