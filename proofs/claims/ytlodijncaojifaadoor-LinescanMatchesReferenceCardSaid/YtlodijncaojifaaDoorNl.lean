/- Package linescan: indices, longest. -/
import Derived.Test.YtlodijncaojifaaDoorNk
import Derived.Laws.OwnMore
namespace Go.Proofs.YtlodijncaojifaaDoor
open Go.RowKit

theorem infoInt25 : (Tryd.prog.info? 3).map (fun i => (i.zero, i.size, i.bytes)) = some (some (.int .i64 0), 1, 8) := by kernel_rfl
/-- Where the loop of indices stands. -/
structure IdxI (h n j : Nat) (W wr : World) : Prop where
  lo : ∀ i, i < j → wr.cell? ⟨h, i, none⟩ = some (.int .i64 (i : Int))
  is : ∀ i, i < n → (wr.cell? ⟨h, i, none⟩).isSome = true
  fz : ∀ i, i < n → wr.frozen? ⟨h, i, none⟩ = false
  bl : Below W.heap.size W wr
theorem IdxI.step {h n j : Nat} {W wr : World} (H : IdxI h n j W wr) (hj : j < n) (hh : W.heap.size ≤ h) : IdxI h n (j + 1) W (wr.setCell ⟨h, j, none⟩ (.int .i64 (j : Int))) := by
  obtain ⟨old, ho⟩ := Option.isSome_iff_exists.1 (H.is j hj)
  have same := World.cell?_setCell_same wr ⟨h, j, none⟩ (.int .i64 (j : Int)) ho
  have other : ∀ i, i ≠ j → (wr.setCell ⟨h, j, none⟩ (.int .i64 (j : Int))).cell? ⟨h, i, none⟩ = wr.cell? ⟨h, i, none⟩ := fun i hi => World.cell?_setCell_other _ _ _ _ (by simp; try omega)
  refine ⟨fun i hi => ?_, fun i hi => ?_, fun i hi => by rw [World.frozen?_setCell]; exact H.fz i hi, H.bl.setCell (p := ⟨h, j, none⟩) hh _⟩
  · by_cases q : i = j
    · rw [q, same]
    · rw [other i q]; exact H.lo i (by omega)
  · by_cases q : i = j
    · rw [q, same]; rfl
    · rw [other i q]; exact H.is i hi
theorem rng_get {n i : Nat} (h : i < n) : (List.range n).getD i 0 = i := by
  rw [List.getD_eq_getElem?_getD, List.getElem?_range h]; rfl
set_option maxHeartbeats 1000000 in
set_option maxRecDepth 100000 in
theorem ind_any (v : Value) (n : Nat) (g cap : Nat) (hv : v = .slice (some ⟨g, 0, none⟩) n cap) (hn : n ≤ 1000000) (w : World) :
    Calls Tryd.prog 43 #[v] w fun e w' => e = .returned (.slice (some ⟨w.heap.size, 0, none⟩) n n) ∧ IntC w.heap.size (List.range n) w' ∧ Below w.heap.size w w' := by
  subst hv
  have hinf := infoInt25
  obtain ⟨i0, hi⟩ : ∃ i0, Tryd.prog.info? 3 = some i0 := by
    cases h : Tryd.prog.info? 3 with
    | none => rw [h] at hinf; cases hinf
    | some i => exact ⟨i, rfl⟩
  rw [hi] at hinf
  simp only [Option.map_some, Option.some.injEq, Prod.mk.injEq] at hinf
  obtain ⟨hz0, hz1, hz2⟩ := hinf
  obtain ⟨w1, hrun, hown, hgrow⟩ := run_make_full (P := Tryd.prog) (w := w) w.heap.size 62 3 i0 (.int .i64 0) 1 Tryd.underlying62 hi hz0 hz1 .i64 .i64 n (by rw [hz2]; omega) (by unfold maxLen; omega) (Nat.le_refl _)
  have hbl : Below w.heap.size w w1 := (Below.refl w.heap.size w).grown hgrow (Nat.le_refl _) (fun _ e => by cases e)
  have I0 : IdxI w.heap.size n 0 w w1 := by
    rcases hown.2 with ⟨e, _⟩ | ⟨g', cap', cur, e, hb, hg, hnc, hcm, hcs, htake⟩
    · cases e
    · injection e with e1 e2 e3
      injection e1 with e1
      injection e1 with e1
      subst e1
      refine ⟨fun i hi => absurd hi (by omega), fun i hi => ?_, fun i hi => frozen_of_row _ _ i _ _ hg, hbl⟩
      rw [cell_of_row _ _ i _ _ _ hg, Array.getElem?_eq_getElem (by omega)]
      rfl
  have I1 := Lib.hid I0
  clear I0 hown hgrow hbl hi hz0 hz1 hz2 i0
  go_enter Tryd.func43, Tryd.ntmps43
  go_wp2_with fail
  go_loopw [10] (fun vi wr => ∃ j : Nat, j ≤ n ∧ vi = .int .i64 j ∧ Hid (IdxI w.heap.size n j w wr)) (fun vi _ => n - (intOf vi).toNat)
  case atStart => exact ⟨0, Nat.zero_le _, rfl, I1⟩
  case round =>
    clear I1 hrun
    obtain ⟨j, hj, rfl, HI⟩ := hrel
    by_cases hlt : j < n
    · obtain ⟨old, ci⟩ := Option.isSome_iff_exists.1 (HI.out.is j hlt)
      have fi := HI.out.fz j hlt
      have b1 : (0 : Int) ≤ (j : Int) ∧ (j : Int) < (n : Int) := ⟨by omega, by omega⟩
      go_wp2_with fail
      go_roundw
      case rel => exact ⟨j + 1, by omega, by go_num, Lib.hid (HI.out.step hlt (Nat.le_refl _))⟩
      case measure => simp [intOf]; omega
    · obtain rfl : j = n := by omega
      go_wp2_with fail
      go_ret
      refine ⟨rfl, ⟨fun i hi => ?_, fun i hi => ?_⟩, HI.out.bl⟩
      · rw [List.length_range] at hi; rw [rng_get hi]; exact HI.out.lo i hi
      · rw [List.length_range] at hi; exact HI.out.fz i hi
theorem take_lg (ws : List ByteArray) {j : Nat} (h : j < ws.length) : lgW (ws.take (j + 1)) = max (lgW (ws.take j)) (ws.getD j ByteArray.empty).size := by
  rw [List.take_succ_eq_append_getElem h, lgW_snoc, List.getD_eq_getElem?_getD, List.getElem?_eq_getElem h]; rfl
theorem lon25_any {ws : List ByteArray} {g cap : Nat} {w : World} (hW : StrsIn g cap ws w) :
    Calls Tryd.prog 44 #[.slice (some ⟨g, 0, none⟩) ws.length cap] w fun e w' => e = .returned (.int .i64 (lgW ws : Nat)) ∧ w = w' := by
  have hl : ws.length ≤ 9223372036854775807 := by have := hW.le; have := hW.mx; unfold maxLen at this; omega
  have HC := Lib.hid hW.cell
  obtain ⟨n, hn⟩ : ∃ n, n = ws.length := ⟨_, rfl⟩
  rw [← hn] at hl ⊢
  have HN := Lib.hid hn
  clear hn hW
  go_enter Tryd.func44, Tryd.ntmps44
  go_wp2_with fail
  go_loop [8, 3] (fun vi vl => ∃ j : Nat, j ≤ n ∧ vi = .int .i64 j ∧ vl = .int .i64 (lgW (ws.take j) : Nat)) (fun vi _ => n - (intOf vi).toNat)
  case atStart => exact ⟨0, Nat.zero_le _, rfl, rfl⟩
  case round =>
    obtain ⟨j, hj, rfl, rfl⟩ := hrel
    by_cases hlt : j < n
    · have hc := HC.out j (by rw [← HN.out]; exact hlt)
      have hx : (if lgW (ws.take j) < (ws.getD j ByteArray.empty).size then ((ws.getD j ByteArray.empty).size : Int) else ((lgW (ws.take j) : Nat) : Int)) = ((lgW (ws.take (j + 1)) : Nat) : Int) := by
        rw [take_lg ws (by rw [← HN.out]; exact hlt)]
        split <;> omega
      have b1 : (0 : Int) ≤ (j : Int) ∧ (j : Int) < (n : Int) := ⟨by omega, by omega⟩
      generalize ws.getD j ByteArray.empty = x at *
      obtain ⟨U, hU⟩ : ∃ U, U = lgW (ws.take (j + 1)) := ⟨_, rfl⟩
      rw [← hU] at hx
      have HU := Lib.hid hU
      clear hU
      generalize lgW (ws.take j) = L at *
      go_wp2_with fail
      go_round
      case rel => exact ⟨j + 1, by omega, by go_num, by rw [← HU.out]⟩
      case measure => simp [intOf]; omega
    · obtain rfl : j = n := by omega
      go_wp2_with fail
      go_ret
      refine ⟨congrArg (fun z : Nat => Ending.returned (.int .i64 (z : Int))) ?_, rfl⟩
      have := HN.out
      rw [show ws.take j = ws from by rw [this]; exact List.take_length]
end Go.Proofs.YtlodijncaojifaaDoor
