/- Package label's commonYear (the iterator over the days of a common year) and Days. -/
import Derived.Test.YtadapffmcdkfiaaDoorLe
import Derived.RangeFuncNested
import Derived.RangeFuncBound
import Derived.RangeFuncCalls
import Derived.RangeFuncLeaves
import Derived.RangeFuncBox
import Derived.Shelf.Abstract
import Derived.Shelf.RegionOpen
import Derived.OwnWalkIn
import Derived.TacticsInMore
import Derived.LoopNIn
import Derived.LoopIn
import Derived.Maps.AppendAt
namespace Go.Proofs.YtadapffmcdkfiaaDoor
open Go.RowKit Go.Shelf
attribute [local go_sem] Oper.semAt_some

theorem wpListIn_load_row {F : Fence} {n : Nat} {P : Program} {ops : Array Oper} {rest : List Oper} {o : Oper} {a : Act} {w : World} {Q : Exit → Act → World → Prop} (hgd : o.guard = none) (ty : TypeId) (x : Operand) (ho : o.op = .load ty x)
    (g : Nat) (hx : a.eval x = .pointer (some ⟨g, 0, none⟩)) (t : TypeId) (cs : Array Value) (fr : Nat × Nat) (d : TypeDesc) (hg : w.heap[g]? = some (.cells cs t fr))
    (hu : P.underlying ty = some d) (hd : (match d with | .struct _ | .array _ _ => true | _ => false) = true) (hi : (P.info? ty).map (·.size) = some cs.size)
    (h : wpListIn F n P ops Q rest (a.put o.dst (.agg cs)) w) : wpListIn F n P ops Q (o :: rest) a w :=
  wpListIn_plain hgd fun K hK => by
    unfold Oper.wpIn
    refine ⟨?_, ?_⟩
    · simp [Oper.about, ho]
    · rw [Oper.semAt_plain F _ _ (by rw [ho]; intro c hc'; cases hc')]
      unfold execOp
      simp only [ho, hx, Instr.loadAt, Instr.sureAddr, Sem.run_bind, Sem.run_pure, Result.andThen_ok, run_loadVar_row w g t ty cs fr d hg hu hd hi]
      exact hK _ _ h

def lensV : Array Value := (lens.map (Value.int .i64)).toArray
theorem len_index (i : Nat) (hi : i < 12) (w : World) : (Instr.index 46 (.agg lensV) (.int .i64 i)).run Tryd.prog w = .ok (.int .i64 (dim false (i + 1))) w := by
  have h : i = 0 ∨ i = 1 ∨ i = 2 ∨ i = 3 ∨ i = 4 ∨ i = 5 ∨ i = 6 ∨ i = 7 ∨ i = 8 ∨ i = 9 ∨ i = 10 ∨ i = 11 := by omega
  rcases h with rfl | rfl | rfl | rfl | rfl | rfl | rfl | rfl | rfl | rfl | rfl | rfl
  all_goals rfl
abbrev encs (x : Int × Int) : Array Value := #[.int .i64 x.1, .int .i64 x.2]
theorem year_at {m d : Int} (h : okD m d = true) : year.take (doy m d).toNat = year.take (doy m d - 1).toNat ++ [(m, d)] := by
  have hd := doy_bd h
  obtain ⟨m1, m2, d1, d2⟩ := okD_bd h
  have := all_md (fun m d => !okD m d || (year[(doy m d - 1).toNat]? == some (m, d))) (by kernel_rfl) m d m1 m2 d1 d2
  rw [h] at this
  have e : year[(doy m d - 1).toNat]? = some (m, d) := by simpa using this
  rw [show (doy m d).toNat = (doy m d - 1).toNat + 1 by omega, List.take_add_one, e]; rfl
theorem year_all : year.take 365 = year := by rw [← year_len, List.take_length]
theorem take_len {n : Nat} (h : n ≤ 365) : (year.take n).length = n := by rw [List.length_take, year_len]; omega

set_option maxRecDepth 100000 in
set_option maxHeartbeats 1000000 in
theorem cy_in (F : Fence) (n : Nat) (hF : F.fn 31) (hro : F.round = none) (hn : 1 ≤ n) (l n₀ : Nat) (J Jx : List (Int × Int) → World → Prop)
    (hY : ∀ pre x W, J pre W → pre.length < 365 → YieldAt F (n - 1) Tryd.prog l #[.int .i64 x.1, .int .i64 x.2] W fun e W' =>
      (e = .returned (.bool true) ∧ J (pre ++ [x]) W' ∧ Below n₀ W W') ∨ (e = .returned (.bool false) ∧ Jx (pre ++ [x]) W'))
    (W : World) (ht : LTab W) (h0 : J [] W) :
    CallsIn F n Tryd.prog 31 #[.func (.yield l) #[] #[]] W fun e W' => (∃ v, e = .returned v) ∧
      ((∃ ys, ys = year ∧ J ys W') ∨ (∃ pre, pre <+: year ∧ Jx pre W')) := by
  obtain ⟨t, fr, hg⟩ := ht.len
  have hi : (Tryd.prog.info? 46).map (·.size) = some lensV.size := by kernel_rfl
  clear ht
  refine callsIn_of_wp Tryd.func31 rfl hF ?_ hro
  simp only [Tryd.ntmps31, List.size_toArray, List.length_cons, List.length_nil, Nat.reduceAdd, Nat.reduceSub, Array.replicate_succ, Array.replicate_zero, List.push_toArray, List.append_toArray, List.nil_append, List.cons_append]
  gi_wp2_with (refine wpListIn_load_row rfl _ _ rfl 1 rfl t lensV fr _ hg Tryd.underlying46 rfl hi ?_)
  have HY := Lib.hid hY
  clear hY hg hi
  gi_loopw [6] (fun i wr => ∃ k : Nat, k ≤ 12 ∧ i = .int .i64 k ∧ J (year.take (cum false (k + 1)).toNat) wr) (fun i _ => 12 - (intOf i).toNat)
  case atStart => exact ⟨0, by omega, rfl, by rw [show ((0 : Nat) : Int) + 1 = 1 from rfl, cum_one]; exact h0⟩
  case round =>
    obtain ⟨k, hk, rfl, hJ⟩ := hrel
    have HJ := Lib.hid hJ
    clear hJ h0
    by_cases hlt : k < 12
    · have hx := len_index k hlt
      have e12 : decide ((k : Int) < 12) = true := decide_eq_true (by omega)
      have hdm := dim_bd false (k + 1) (by omega) (by omega)
      have hcb := cum_bd false (k + 1) (by omega) (by omega)
      have HS := Lib.hid (cum_succ false (k + 1) (by omega) (by omega))
      generalize hc : cum false (k + 1) = c at *
      have HC := Lib.hid hc
      clear hc
      gi_wp2
      gi_loopw [4] (fun d wr => ∃ i : Int, 1 ≤ i ∧ i ≤ dim false (k + 1) + 1 ∧ d = .int .i64 i ∧ J (year.take (c + i - 1).toNat) wr) (fun d _ => (dim false (k + 1) + 1 - intOf d).toNat)
      case atStart => exact ⟨1, by omega, by omega, rfl, by rw [show c + 1 - 1 = c by omega]; exact HJ.out⟩
      case round =>
        obtain ⟨i, ii1, ii2, rfl, hJ2⟩ := hrel
        have HJ2 := Lib.hid hJ2
        clear hJ2 hx
        by_cases hle : i ≤ dim false (k + 1)
        · have hok : okD (k + 1) i = true := okD_iff.2 ⟨ii1, hle⟩
          have hdo : doy (k + 1) i = c + i := by rw [doy, HC.out]
          have hb := doy_bd hok
          have hya := year_at hok
          rw [hdo] at hya hb
          have HA := Lib.hid hya
          clear hok hdo hya
          obtain ⟨fn, tmps, assign, body, hy, hR⟩ := HY.out _ ((k : Int) + 1, i) _ HJ2.out (by rw [take_len (by omega)]; omega)
          dsimp only at hy hR
          have HR := Lib.hid hR
          clear hR
          gi_wp2
          refine HR.out.mono ?_
          rintro e W3 (⟨rfl, hJ3, _⟩ | ⟨rfl, hJx3⟩)
          · have HJ3 := Lib.hid hJ3
            clear hJ3
            gi_wp2
            go_roundw
            case rel => exact ⟨i + 1, by omega, by omega, by go_num, by rw [show c + (i + 1) - 1 = c + i by omega, HA.out]; exact HJ3.out⟩
            case measure => simp [intOf]; omega
          · have HJ3 := Lib.hid hJx3
            clear hJx3
            gi_wp2
            refine bodyPost_ret (results_none rfl _ _ _) rfl ?_
            exact ⟨⟨_, rfl⟩, .inr ⟨_, by rw [← HA.out]; exact List.take_prefix _ _, HJ3.out⟩⟩
        · have HE : Hid (c + i - 1 = cum false (k + 1 + 1)) := Lib.hid (by rw [HS.out]; omega)
          gi_wp2
          go_roundw
          case rel => exact ⟨k + 1, by omega, by go_num, by have := HJ2.out; rwa [HE.out] at this⟩
          case measure => simp [intOf]; omega
    · obtain rfl : k = 12 := by omega
      gi_wp2
      go_end0
      exact ⟨⟨_, rfl⟩, .inl ⟨_, year_all, by have := HJ.out; rwa [show cum false (((12 : Nat) : Int) + 1) = 365 from cum_end false] at this⟩⟩
theorem cy_stops (F : Fence) (n : Nat) (hF : F.fn 31) (hro : F.round = none) (hn : 1 ≤ n) (n₀ : Nat) (w : World) (ht : LTab w) :
    SeqStopsK F n Tryd.prog 31 #[] encs (Below n₀) (fun ys => ys = year) (fun pre => pre <+: year) 365 w := fun l J Jx W hW _ _ hY h0 =>
  cy_in F n hF hro hn l n₀ J Jx hY W (ht.on hW) h0
theorem cy_any (w : World) :
    Calls Tryd.prog 28 #[] w fun e w' => e = .returned (.func (.func 31) #[] #[]) ∧ w = w' := by
  go_enter Tryd.func28, Tryd.ntmps28
  go_wp2
  go_ret
  exact ⟨rfl, rfl⟩
end Go.Proofs.YtadapffmcdkfiaaDoor
