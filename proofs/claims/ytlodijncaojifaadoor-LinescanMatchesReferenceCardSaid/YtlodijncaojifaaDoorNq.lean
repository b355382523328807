/- The reference of package linescan: Word and Number of a good state. -/
import Derived.Test.YtlodijncaojifaaDoorNp
namespace Go.Proofs.YtlodijncaojifaaDoor
open Go.RowKit

theorem mxW_app (S : ByteArray) (k : Nat) (xs : List ByteArray) (w : ByteArray) : mxW S k (xs ++ [w]) = max (mxW S k xs) (cm S k w) := by
  induction xs with
  | nil => simp [mxW]
  | cons a xs ih => simp only [List.cons_append, mxW, ih]; omega
theorem take_mx (S : ByteArray) (k : Nat) (ws : List ByteArray) {j : Nat} (h : j < ws.length) : mxW S k (ws.take (j + 1)) = max (mxW S k (ws.take j)) (cm S k (ws.getD j ByteArray.empty)) := by
  rw [List.take_succ_eq_append_getElem h, mxW_app, List.getD_eq_getElem?_getD, List.getElem?_eq_getElem h]; rfl
theorem wd_of_some {S : ByteArray} {k i : Nat} {ws : List ByteArray} (h : wdF S k ws = some i) : wdI S k ws = (i : Int) ∧ wdK S k ws = k + (ws.getD i ByteArray.empty).size ∧ wdB S k ws = false := by
  unfold wdI wdK wdB; rw [h]; exact ⟨rfl, rfl, rfl⟩
theorem wd_of_none {S : ByteArray} {k : Nat} {ws : List ByteArray} (h : wdF S k ws = none) : wdI S k ws = -1 ∧ wdK S k ws = k + mxW S k ws ∧ wdB S k ws = true := by
  unfold wdI wdK wdB; rw [h]; exact ⟨rfl, rfl, rfl⟩
set_option maxHeartbeats 2000000 in
set_option maxRecDepth 100000 in
theorem rwo_ok {S : ByteArray} {k g cap : Nat} {ws : List ByteArray} {w : World} (hk : k ≤ S.size) (hs : S.size < big) (hW : StrsIn g cap ws w) (h3 : ∀ i, i < ws.length → (ws.getD i ByteArray.empty).size < big) :
    Calls Tryd.prog 11 #[sv S k false, .slice (some ⟨g, 0, none⟩) ws.length cap] w fun e w' => e = .returned (.tuple #[sv S (wdK S k ws) (wdB S k ws), .int .i64 (wdI S k ws)]) ∧ Below w.heap.size w w' := by
  have hl : ws.length ≤ 9223372036854775807 := by have := hW.le; have := hW.mx; unfold maxLen at this; omega
  have hs' : S.size < 4611686018427387904 := hs
  have HP := Lib.hid (fun (i : Nat) (h : i < ws.length) (u : World) => rpf_any S (ws.getD i ByteArray.empty) k hk hs (h3 i h) u)
  have HZ := Lib.hid h3
  have hgl := hW.lt
  have rB : ((w.alloc (stO S k false)).alloc stZ).heap[w.heap.size]? = some (stO S k false) := row_on (heap_alloc_new w _) (al1 _ _)
  have rR : ((w.alloc (stO S k false)).alloc stZ).heap[w.heap.size + 1]? = some stZ := row_new1 w _ _
  have bl := al2 w (stO S k false) stZ
  have hW1 := hW.on bl
  have HF := Lib.hid (fun (m : Nat) (u : World) => rfa_any S k m false u)
  clear hs h3 hW
  go_enter Tryd.func11, Tryd.ntmps11
  go_wp2_with fail
  obtain ⟨u, hu⟩ : ∃ u, u = (w.alloc (stO S k false)).alloc stZ := ⟨_, rfl⟩
  rw [← hu] at rB rR bl hW1 ⊢
  clear hu
  obtain ⟨n, hn⟩ : ∃ n, n = ws.length := ⟨_, rfl⟩
  rw [← hn] at hl ⊢
  have HN := Lib.hid hn
  clear hn
  go_loopw [6, 7] (fun vm vi wr => ∃ j M : Nat, j ≤ n ∧ vi = .int .i64 j ∧ vm = .int .i64 M ∧ wr.heap[w.heap.size]? = some (stO S k false) ∧ wr.heap[w.heap.size + 1]? = some stZ ∧ Hid (StrsIn g cap ws wr ∧ Below w.heap.size w wr) ∧ Hid (M = mxW S k (ws.take j)) ∧ Hid (∀ p, p < j → hitB S k (ws.getD p ByteArray.empty) = false)) (fun _ vi _ => n - (intOf vi).toNat)
  case atStart => exact ⟨0, 0, Nat.zero_le _, rfl, rfl, rB, rR, Lib.hid ⟨hW1, bl⟩, Lib.hid rfl, Lib.hid fun p hp => absurd hp (by omega)⟩
  case round =>
    clear rB rR bl hW1
    obtain ⟨j, M, hj, rfl, rfl, rB, rR, HB, HM, HA⟩ := hrel
    obtain ⟨c0, c1, c2, f0, f1, f2, -⟩ := st_facts rB
    obtain ⟨e0, e1, e2, z0, z1, z2, -⟩ := st_facts rR
    by_cases hlt : j < n
    · have jl : j < ws.length := by rw [← HN.out]; exact hlt
      have hc := HB.out.1.cell j jl
      have hp := fun (q : Nat) => HP.out j jl (wr.drewN q)
      have zz : (ws.getD j ByteArray.empty).size < 4611686018427387904 := HZ.out j jl
      have cs := (cm_spec S k (ws.getD j ByteArray.empty)).1
      have ck : k + cm S k (ws.getD j ByteArray.empty) ≤ S.size := by
        have := mxW_size hk ws
        have := mxW_ge (S := S) (k := k) (getD_mem jl)
        omega
      have TM := Lib.hid (take_mx S k ws jl)
      have b1 : (0 : Int) ≤ (j : Int) ∧ (j : Int) < (n : Int) := ⟨by omega, by omega⟩
      obtain ⟨wd, hwd⟩ : ∃ wd, wd = ws.getD j ByteArray.empty := ⟨_, rfl⟩
      rw [← hwd] at hc hp zz cs ck TM
      have HWD := Lib.hid hwd
      obtain ⟨c, hcc⟩ : ∃ c, c = cm S k wd := ⟨_, rfl⟩
      rw [← hcc] at hp cs ck TM
      have HCC := Lib.hid hcc
      clear hwd hcc jl
      by_cases hz : c = wd.size
      · have q1 : ((c : Int) == (wd.size : Int)) = true := beq_iff_eq.2 (by omega)
        have q2 : (c == wd.size) = true := beq_iff_eq.2 hz
        have wk : IntKind.i64.wrap ((k : Int) + (c : Int)) = (k : Int) + (c : Int) := by rw [IntKind.wrap_i64]; omega
        have WF := Lib.hid (wd_of_some (wdF_is (by rw [← HN.out]; exact hlt) (by rw [← HWD.out]; exact decide_eq_true (by rw [← HCC.out]; exact hz)) HA.out))
        have HZZ := Lib.hid hz
        clear hz
        go_wp2_with fail
        go_quiet ((go_at_call 27; exact quiet_dn (hp _)))
        go_wp2_with fail
        have rR' := row_dn rR nq
        have bl' := below_dn HB.out.2 nq
        obtain ⟨u9, hu9⟩ : ∃ u9, u9 = (((wr.drewN nq).setCell ⟨w.heap.size + 1, 0, none⟩ (.string S)).setCell ⟨w.heap.size + 1, 1, none⟩ (.int .i64 ((k : Int) + (c : Int)))).setCell ⟨w.heap.size + 1, 2, none⟩ (.bool false) := ⟨_, rfl⟩
        obtain ⟨k0, k1, k2, kb⟩ := st_put (w := w) _ _ _ rR' bl' (by omega) hu9
        rw [← hu9]
        exact bodyPost_ret (v := .tuple #[.agg #[.string S, .int .i64 ((k : Int) + (c : Int)), .bool false], .int .i64 (j : Nat)]) (by simp [results, Tryd.results11, go_sem, k0, k1, k2]) rfl ⟨by rw [WF.out.1, WF.out.2.1, WF.out.2.2, ← HWD.out, ← HZZ.out]; rfl, kb⟩
      · have q1 : ((c : Int) == (wd.size : Int)) = false := beq_eq_false_iff_ne.2 (by omega)
        have q2 : (c == wd.size) = false := beq_eq_false_iff_ne.2 hz
        have NH := Lib.hid (show ∀ p, p < j + 1 → hitB S k (ws.getD p ByteArray.empty) = false from fun p hp => by
          by_cases q : p < j
          · exact HA.out p q
          · rw [show p = j by omega, ← HWD.out]; exact decide_eq_false (by rw [← HCC.out]; exact hz))
        clear hz
        by_cases hm : M < c
        · have m1 : decide (M < c) = true := dtrue hm
          have m2 : decide ((M : Int) < (c : Int)) = true := dtrue (by omega)
          go_wp2_with fail
          go_quiet ((go_at_call 27; exact quiet_dn (hp _)))
          go_wp2_with fail
          go_roundw
          case rel => exact ⟨j + 1, c, by omega, by go_num, rfl, row_dn rB nq, row_dn rR nq, Lib.hid ⟨HB.out.1.on (below_dn (Below.refl _ _) nq), below_dn HB.out.2 nq⟩, Lib.hid (by rw [TM.out, ← HM.out]; omega), NH⟩
          case measure => simp [intOf]; omega
        · have m1 : decide (M < c) = false := dfalse hm
          have m2 : decide ((M : Int) < (c : Int)) = false := dfalse (by omega)
          go_wp2_with fail
          go_quiet ((go_at_call 27; exact quiet_dn (hp _)))
          go_wp2_with fail
          go_roundw
          case rel => exact ⟨j + 1, M, by omega, by go_num, rfl, row_dn rB nq, row_dn rR nq, Lib.hid ⟨HB.out.1.on (below_dn (Below.refl _ _) nq), below_dn HB.out.2 nq⟩, Lib.hid (by rw [TM.out, ← HM.out]; omega), NH⟩
          case measure => simp [intOf]; omega
    · obtain rfl : j = n := by omega
      have eM : M = mxW S k ws := by rw [HM.out, HN.out, List.take_length]
      have mb := mxW_size hk ws
      rw [← eM] at mb
      have WF := Lib.hid (wd_of_none (wdF_is_none (by rw [← HN.out]; exact HA.out)))
      have HEM := Lib.hid eM
      have wk : IntKind.i64.wrap ((k : Int) + (M : Int)) = (k : Int) + (M : Int) := by rw [IntKind.wrap_i64]; omega
      have hf := HF.out (k + M)
      rw [show ((k + M : Nat) : Int) = (k : Int) + (M : Int) by omega] at hf
      clear eM
      go_wp2_with fail
      refine (hf _).mono ?_
      rintro e v ⟨rfl, hb⟩
      have rR' := row_kept rR hb
      have bl' := below_on HB.out.2 hb
      obtain ⟨y0, y1, y2, x0, x1, x2, -⟩ := st_facts rR'
      clear hb e0 e1 e2 z0 z1 z2
      go_wp2_with fail
      obtain ⟨u9, hu9⟩ : ∃ u9, u9 = (((v).setCell ⟨w.heap.size + 1, 0, none⟩ (.string S)).setCell ⟨w.heap.size + 1, 1, none⟩ (.int .i64 ((k : Int) + (M : Int)))).setCell ⟨w.heap.size + 1, 2, none⟩ (.bool true) := ⟨_, rfl⟩
      obtain ⟨k0, k1, k2, kb⟩ := st_put (w := w) _ _ _ rR' bl' (by omega) hu9
      rw [← hu9]
      exact bodyPost_ret (v := .tuple #[.agg #[.string S, .int .i64 ((k : Int) + (M : Int)), .bool true], .int .i64 (-1)]) (by simp [results, Tryd.results11, go_sem, k0, k1, k2]) rfl ⟨by rw [WF.out.1, WF.out.2.1, WF.out.2.2, ← HEM.out]; rfl, kb⟩
end Go.Proofs.YtlodijncaojifaaDoor
