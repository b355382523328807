/- What earlier stages proved: No Np Nq Nr Ns. -/
import Derived.Test.YtkhicgafhbecfaaGreatDoorM3
namespace Go.Proofs.YtkhicgafhbecfaaGreatDoor
open Go.RowKit

abbrev sv (S : ByteArray) (k : Nat) (bad : Bool) : Value := .agg #[.string S, .int .i64 k, .bool bad]
abbrev stO (S : ByteArray) (k : Nat) (bad : Bool) : Obj := .cells #[.string S, .int .i64 k, .bool bad] 52
abbrev stZ : Obj := .cells #[.string ⟨#[]⟩, .int .i64 0, .bool false] 52
theorem st_facts {w : World} {b t : Nat} {a0 a1 a2 : Value} (h : w.heap[b]? = some (.cells #[a0, a1, a2] t (0, 0))) :
    w.cell? ⟨b, 0, none⟩ = some a0 ∧ w.cell? ⟨b, 1, none⟩ = some a1 ∧ w.cell? ⟨b, 2, none⟩ = some a2 ∧ w.frozen? ⟨b, 0, none⟩ = false ∧ w.frozen? ⟨b, 1, none⟩ = false ∧ w.frozen? ⟨b, 2, none⟩ = false ∧ b < w.heap.size :=
  ⟨by rw [cell_of_row w b 0 _ _ _ h]; rfl, by rw [cell_of_row w b 1 _ _ _ h]; rfl, by rw [cell_of_row w b 2 _ _ _ h]; rfl, frozen_of_row w b 0 _ _ h, frozen_of_row w b 1 _ _ h, frozen_of_row w b 2 _ _ h, row_lt h⟩
theorem rdg_any (S : ByteArray) (i : Nat) (w : World) : Calls Tryz.prog 76 #[.string S, .int .i64 i] w fun e w' => e = .returned (.bool (dg S i)) ∧ w = w' := by
  unfold dg
  by_cases h1 : i < S.size
  · have d1 : decide (i < S.size) = true := dtrue h1
    have x1 := idx_str S i (by omega) (by omega)
    rw [Int.toNat_natCast] at x1
    rw [d1, Bool.true_and]
    generalize bt S i = x at *
    cases h2 : decide (48 ≤ x)
    · go_enter Tryz.func76, Tryz.ntmps76
      go_wp2
      go_ret
      exact ⟨rfl, rfl⟩
    · cases h3 : decide (x ≤ 57)
      all_goals
        go_enter Tryz.func76, Tryz.ntmps76
        go_wp2
        go_ret
        exact ⟨rfl, rfl⟩
  · have d1 : decide (i < S.size) = false := dfalse h1
    rw [d1, Bool.false_and]
    go_enter Tryz.func76, Tryz.ntmps76
    go_wp2
    go_ret
    exact ⟨rfl, rfl⟩
theorem rlt_any (S : ByteArray) (i : Nat) (w : World) : Calls Tryz.prog 77 #[.string S, .int .i64 i] w fun e w' => e = .returned (.bool (lt S i)) ∧ w = w' := by
  unfold lt
  by_cases h1 : i < S.size
  · have d1 : decide (i < S.size) = true := dtrue h1
    have x1 := idx_str S i (by omega) (by omega)
    rw [Int.toNat_natCast] at x1
    rw [d1, Bool.true_and]
    generalize bt S i = x at *
    cases h2 : decide (97 ≤ x)
    · go_enter Tryz.func77, Tryz.ntmps77
      go_wp2
      go_ret
      exact ⟨rfl, rfl⟩
    · cases h3 : decide (x ≤ 122)
      all_goals
        go_enter Tryz.func77, Tryz.ntmps77
        go_wp2
        go_ret
        exact ⟨rfl, rfl⟩
  · have d1 : decide (i < S.size) = false := dfalse h1
    rw [d1, Bool.false_and]
    go_enter Tryz.func77, Tryz.ntmps77
    go_wp2
    go_ret
    exact ⟨rfl, rfl⟩
theorem rfa_any (S : ByteArray) (k at' : Nat) (bad : Bool) (w : World) : Calls Tryz.prog 53 #[sv S k bad, .int .i64 at'] w fun e w' => e = .returned (sv S at' true) ∧ Below w.heap.size w w' := by
  go_enter Tryz.func53, Tryz.ntmps53
  go_wp2
  exact bodyPost_ret (v := sv S at' true) (by simp [results, Tryz.results53, go_sem]) rfl ⟨rfl, al2 w _ _⟩
/-- A state written whole into a row of the call's own. -/
theorem st_put {w v : World} {R : Nat} {a0 a1 a2 : Value} {t : TypeId} (x y z : Value) (h : v.heap[R]? = some (.cells #[a0, a1, a2] t (0, 0))) (hb : Below w.heap.size w v) (hR : w.heap.size ≤ R) {u : World} (hu : u = ((v.setCell ⟨R, 0, none⟩ x).setCell ⟨R, 1, none⟩ y).setCell ⟨R, 2, none⟩ z) :
    u.cell? ⟨R, 0, none⟩ = some x ∧ u.cell? ⟨R, 1, none⟩ = some y ∧ u.cell? ⟨R, 2, none⟩ = some z ∧ Below w.heap.size w u := by
  obtain ⟨k0, k1, k2⟩ := three_set x y z h hu.symm
  exact ⟨k0, k1, k2, below_set3 hb hR x y z hu.symm⟩
set_option maxHeartbeats 1000000 in
set_option maxRecDepth 100000 in
theorem rpf_any (S wd : ByteArray) (k : Nat) (hk : k ≤ S.size) (hs : S.size < big) (hw : wd.size < big) (w : World) : Calls Tryz.prog 52 #[.string S, .int .i64 k, .string wd] w fun e w' => e = .returned (.int .i64 (cm S k wd : Nat)) ∧ ∃ m, w' = w.drewN m := by
  have hs' : S.size < 4611686018427387904 := hs
  have hw' : wd.size < 4611686018427387904 := hw
  clear hs hw
  go_enter Tryz.func52, Tryz.ntmps52
  go_wp2_with fail
  go_loopw [7] (fun vn wr => ∃ n m : Nat, n ≤ wd.size ∧ vn = .int .i64 n ∧ wr = w.drewN m ∧ Hid (∀ j, j < n → k + j < S.size ∧ bt S (k + j) = bt wd j)) (fun vn _ => wd.size - (intOf vn).toNat)
  case atStart => exact ⟨0, 0, Nat.zero_le _, rfl, rfl, Lib.hid fun j hj => absurd hj (by omega)⟩
  case round =>
    obtain ⟨n, m, hn, rfl, rfl, HA⟩ := hrel
    by_cases h1 : n < wd.size
    · have d1 : decide (n < wd.size) = true := dtrue h1
      have wk : IntKind.i64.wrap ((k : Int) + (n : Int)) = (k : Int) + (n : Int) := by rw [IntKind.wrap_i64]; omega
      by_cases h2 : k + n < S.size
      · have d2 : decide ((k : Int) + (n : Int) < (S.size : Int)) = true := dtrue (by omega)
        have d2' : decide (k + n < S.size) = true := dtrue h2
        have x1 := idx_str S ((k : Int) + (n : Int)) (by omega) (by omega)
        rw [show ((k : Int) + (n : Int)).toNat = k + n by omega] at x1
        have x2 := idx_str wd n (by omega) (by omega)
        rw [Int.toNat_natCast] at x2
        have H2 := Lib.hid h2
        by_cases h3 : bt S (k + n) = bt wd n
        · have e3 : (bt S (k + n) == bt wd n) = true := beq_iff_eq.2 h3
          have H3 := Lib.hid h3
          clear h3 h2
          generalize bt S (k + n) = x at x1 e3
          generalize bt wd n = y at x2 e3
          go_wp2_with fail
          go_quiet (fail)
          go_wp2_with fail
          go_roundw
          case rel =>
            refine ⟨n + 1, m + nq, by omega, by go_num, rfl, Lib.hid fun j hj => ?_⟩
            by_cases q : j < n
            · exact HA.out j q
            · rw [show j = n by omega]; exact ⟨H2.out, H3.out⟩
          case measure => simp [intOf]; omega
        · have e3 : (bt S (k + n) == bt wd n) = false := beq_eq_false_iff_ne.2 h3
          have HE := Lib.hid (cm_eq hn HA.out (.inr fun g => h3 g.2))
          clear h3 h2
          generalize bt S (k + n) = x at x1 e3
          generalize bt wd n = y at x2 e3
          go_wp2_with fail
          go_quiet (fail)
          go_wp2_with fail
          go_ret
          exact ⟨by rw [HE.out]; rfl, _, dn_dn _ _ _⟩
      · have d2 : decide ((k : Int) + (n : Int) < (S.size : Int)) = false := dfalse (by omega)
        have d2' : decide (k + n < S.size) = false := dfalse h2
        have HE := Lib.hid (cm_eq hn HA.out (.inr fun g => h2 g.1))
        go_wp2_with fail
        go_quiet (fail)
        go_wp2_with fail
        go_ret
        exact ⟨by rw [HE.out]; rfl, _, dn_dn _ _ _⟩
    · have d1 : decide (n < wd.size) = false := dfalse h1
      have HE := Lib.hid (cm_eq hn HA.out (.inl (by omega)))
      go_wp2_with fail
      go_quiet (fail)
      go_wp2_with fail
      go_ret
      exact ⟨by rw [HE.out]; rfl, _, dn_dn _ _ _⟩
end Go.Proofs.YtkhicgafhbecfaaGreatDoor

namespace Go.Proofs.YtkhicgafhbecfaaGreatDoor
open Go.RowKit

theorem rwo_bad (S : ByteArray) (k : Nat) (v : Value) (w : World) : Calls Tryz.prog 23 #[sv S k true, v] w fun e w' => e = .returned (.tuple #[sv S k true, .int .i64 (-1)]) ∧ Below w.heap.size w w' := by
  go_enter Tryz.func23, Tryz.ntmps23
  go_wp2
  exact bodyPost_ret (v := .tuple #[sv S k true, .int .i64 (-1)]) (by simp [results, Tryz.results23, go_sem]) rfl ⟨rfl, al2 w _ _⟩
theorem rnu_bad (S : ByteArray) (k : Nat) (w : World) : Calls Tryz.prog 54 #[sv S k true] w fun e w' => e = .returned (.tuple #[sv S k true, .int .i64 0]) ∧ Below w.heap.size w w' := by
  go_enter Tryz.func54, Tryz.ntmps54
  go_wp2
  exact bodyPost_ret (v := .tuple #[sv S k true, .int .i64 0]) (by simp [results, Tryz.results54, go_sem]) rfl ⟨rfl, al2 w _ _⟩
theorem rid_bad (S : ByteArray) (k : Nat) (w : World) : Calls Tryz.prog 59 #[sv S k true] w fun e w' => e = .returned (.tuple #[sv S k true, .string ⟨#[]⟩]) ∧ Below w.heap.size w w' := by
  go_enter Tryz.func59, Tryz.ntmps59
  go_wp2
  exact bodyPost_ret (v := .tuple #[sv S k true, .string ⟨#[]⟩]) (by simp [results, Tryz.results59, go_sem]) rfl ⟨rfl, al2 w _ _⟩
theorem ren_bad (S : ByteArray) (k : Nat) (w : World) : Calls Tryz.prog 25 #[sv S k true] w fun e w' => e = .returned (sv S k true) ∧ Below w.heap.size w w' := by
  go_enter Tryz.func25, Tryz.ntmps25
  go_wp2
  exact bodyPost_ret (v := sv S k true) (by simp [results, Tryz.results25, go_sem]) rfl ⟨rfl, al2 w _ _⟩
theorem ren_ok (S : ByteArray) (k : Nat) (hk : S.size ≤ k) (w : World) : Calls Tryz.prog 25 #[sv S k false] w fun e w' => e = .returned (sv S k false) ∧ Below w.heap.size w w' := by
  have d1 : ¬ k < S.size := by omega
  go_enter Tryz.func25, Tryz.ntmps25
  go_wp2
  exact bodyPost_ret (v := sv S k false) (by simp [results, Tryz.results25, go_sem]) rfl ⟨rfl, al2 w _ _⟩
theorem ren_no (S : ByteArray) (k : Nat) (hk : k < S.size) (w : World) : Calls Tryz.prog 25 #[sv S k false] w fun e w' => e = .returned (sv S k true) ∧ Below w.heap.size w w' := by
  have HF := fun u => rfa_any S k k false u
  go_enter Tryz.func25, Tryz.ntmps25
  go_wp2_with fail
  refine (HF _).mono ?_
  rintro e v ⟨rfl, hb⟩
  have rR := row_kept (row_new1 w (stO S k false) stZ) hb
  have bl := below_on (al2 w (stO S k false) stZ) hb
  obtain ⟨e0, e1, e2, z0, z1, z2, -⟩ := st_facts rR
  clear hb
  go_wp2_with fail
  obtain ⟨u9, hu9⟩ : ∃ u9, u9 = (((v).setCell ⟨w.heap.size + 1, 0, none⟩ (.string S)).setCell ⟨w.heap.size + 1, 1, none⟩ (.int .i64 k)).setCell ⟨w.heap.size + 1, 2, none⟩ (.bool true) := ⟨_, rfl⟩
  obtain ⟨k0, k1, k2, kb⟩ := st_put (w := w) _ _ _ rR bl (by omega) hu9
  rw [← hu9]
  exact bodyPost_ret (v := .agg #[.string S, .int .i64 k, .bool true]) (by simp [results, Tryz.results25, go_sem, k0, k1, k2]) rfl ⟨rfl, kb⟩
end Go.Proofs.YtkhicgafhbecfaaGreatDoor

namespace Go.Proofs.YtkhicgafhbecfaaGreatDoor
open Go.RowKit

theorem mxW_app (S : ByteArray) (k : Nat) (xs : List ByteArray) (w : ByteArray) : mxW S k (xs ++ [w]) = max (mxW S k xs) (cm S k w) := by
  induction xs with
  | nil => simp [mxW]
  | cons a xs ih => simp only [List.cons_append, mxW, ih]; omega
theorem take_mx (S : ByteArray) (k : Nat) (ws : List ByteArray) {j : Nat} (h : j < ws.length) : mxW S k (ws.take (j + 1)) = max (mxW S k (ws.take j)) (cm S k (ws.getD j ByteArray.empty)) := by
  rw [List.take_succ_eq_append_getElem h, mxW_app, List.getD_eq_getElem?_getD, List.getElem?_eq_getElem h]; rfl
theorem wd_of_some {S : ByteArray} {k i : Nat} {ws : List ByteArray} (h : wdF S k ws = some i) : wdI S k ws = (i : Int) ∧ wdK S k ws = k + (ws.getD i ByteArray.empty).size ∧ wdB S k ws = false := by
  unfold wdI wdK wdB; rw [h]; exact ⟨rfl, rfl, rfl⟩
theorem wd_of_none {S : ByteArray} {k : Nat} {ws : List ByteArray} (h : wdF S k ws = none) : wdI S k ws = -1 ∧ wdK S k ws = k + mxW S k ws ∧ wdB S k ws = true := by
  unfold wdI wdK wdB; rw [h]; exact ⟨rfl, rfl, rfl⟩
set_option maxHeartbeats 2000000 in
set_option maxRecDepth 100000 in
theorem rwo_ok {S : ByteArray} {k g cap : Nat} {ws : List ByteArray} {w : World} (hk : k ≤ S.size) (hs : S.size < big) (hW : StrsIn g cap ws w) (h3 : ∀ i, i < ws.length → (ws.getD i ByteArray.empty).size < big) :
    Calls Tryz.prog 23 #[sv S k false, .slice (some ⟨g, 0, none⟩) ws.length cap] w fun e w' => e = .returned (.tuple #[sv S (wdK S k ws) (wdB S k ws), .int .i64 (wdI S k ws)]) ∧ Below w.heap.size w w' := by
  have hl : ws.length ≤ 9223372036854775807 := by have := hW.le; have := hW.mx; unfold maxLen at this; omega
  have hs' : S.size < 4611686018427387904 := hs
  have HP := Lib.hid (fun (i : Nat) (h : i < ws.length) (u : World) => rpf_any S (ws.getD i ByteArray.empty) k hk hs (h3 i h) u)
  have HZ := Lib.hid h3
  have hgl := hW.lt
  have rB : ((w.alloc (stO S k false)).alloc stZ).heap[w.heap.size]? = some (stO S k false) := row_on (heap_alloc_new w _) (al1 _ _)
  have rR : ((w.alloc (stO S k false)).alloc stZ).heap[w.heap.size + 1]? = some stZ := row_new1 w _ _
  have bl := al2 w (stO S k false) stZ
  have hW1 := hW.on bl
  have HF := Lib.hid (fun (m : Nat) (u : World) => rfa_any S k m false u)
  clear hs h3 hW
  go_enter Tryz.func23, Tryz.ntmps23
  go_wp2_with fail
  obtain ⟨u, hu⟩ : ∃ u, u = (w.alloc (stO S k false)).alloc stZ := ⟨_, rfl⟩
  rw [← hu] at rB rR bl hW1 ⊢
  clear hu
  obtain ⟨n, hn⟩ : ∃ n, n = ws.length := ⟨_, rfl⟩
  rw [← hn] at hl ⊢
  have HN := Lib.hid hn
  clear hn
  go_loopw [6, 7] (fun vm vi wr => ∃ j M : Nat, j ≤ n ∧ vi = .int .i64 j ∧ vm = .int .i64 M ∧ wr.heap[w.heap.size]? = some (stO S k false) ∧ wr.heap[w.heap.size + 1]? = some stZ ∧ Hid (StrsIn g cap ws wr ∧ Below w.heap.size w wr) ∧ Hid (M = mxW S k (ws.take j)) ∧ Hid (∀ p, p < j → hitB S k (ws.getD p ByteArray.empty) = false)) (fun _ vi _ => n - (intOf vi).toNat)
  case atStart => exact ⟨0, 0, Nat.zero_le _, rfl, rfl, rB, rR, Lib.hid ⟨hW1, bl⟩, Lib.hid rfl, Lib.hid fun p hp => absurd hp (by omega)⟩
  case round =>
    clear rB rR bl hW1
    obtain ⟨j, M, hj, rfl, rfl, rB, rR, HB, HM, HA⟩ := hrel
    obtain ⟨c0, c1, c2, f0, f1, f2, -⟩ := st_facts rB
    obtain ⟨e0, e1, e2, z0, z1, z2, -⟩ := st_facts rR
    by_cases hlt : j < n
    · have jl : j < ws.length := by rw [← HN.out]; exact hlt
      have hc := HB.out.1.cell j jl
      have hp := fun (q : Nat) => HP.out j jl (wr.drewN q)
      have zz : (ws.getD j ByteArray.empty).size < 4611686018427387904 := HZ.out j jl
      have cs := (cm_spec S k (ws.getD j ByteArray.empty)).1
      have ck : k + cm S k (ws.getD j ByteArray.empty) ≤ S.size := by
        have := mxW_size hk ws
        have := mxW_ge (S := S) (k := k) (getD_mem jl)
        omega
      have TM := Lib.hid (take_mx S k ws jl)
      have b1 : (0 : Int) ≤ (j : Int) ∧ (j : Int) < (n : Int) := ⟨by omega, by omega⟩
      obtain ⟨wd, hwd⟩ : ∃ wd, wd = ws.getD j ByteArray.empty := ⟨_, rfl⟩
      rw [← hwd] at hc hp zz cs ck TM
      have HWD := Lib.hid hwd
      obtain ⟨c, hcc⟩ : ∃ c, c = cm S k wd := ⟨_, rfl⟩
      rw [← hcc] at hp cs ck TM
      have HCC := Lib.hid hcc
      clear hwd hcc jl
      by_cases hz : c = wd.size
      · have q1 : ((c : Int) == (wd.size : Int)) = true := beq_iff_eq.2 (by omega)
        have q2 : (c == wd.size) = true := beq_iff_eq.2 hz
        have wk : IntKind.i64.wrap ((k : Int) + (c : Int)) = (k : Int) + (c : Int) := by rw [IntKind.wrap_i64]; omega
        have WF := Lib.hid (wd_of_some (wdF_is (by rw [← HN.out]; exact hlt) (by rw [← HWD.out]; exact decide_eq_true (by rw [← HCC.out]; exact hz)) HA.out))
        have HZZ := Lib.hid hz
        clear hz
        go_wp2_with fail
        go_quiet ((go_at_call 52; exact quiet_dn (hp _)))
        go_wp2_with fail
        have rR' := row_dn rR nq
        have bl' := below_dn HB.out.2 nq
        obtain ⟨u9, hu9⟩ : ∃ u9, u9 = (((wr.drewN nq).setCell ⟨w.heap.size + 1, 0, none⟩ (.string S)).setCell ⟨w.heap.size + 1, 1, none⟩ (.int .i64 ((k : Int) + (c : Int)))).setCell ⟨w.heap.size + 1, 2, none⟩ (.bool false) := ⟨_, rfl⟩
        obtain ⟨k0, k1, k2, kb⟩ := st_put (w := w) _ _ _ rR' bl' (by omega) hu9
        rw [← hu9]
        exact bodyPost_ret (v := .tuple #[.agg #[.string S, .int .i64 ((k : Int) + (c : Int)), .bool false], .int .i64 (j : Nat)]) (by simp [results, Tryz.results23, go_sem, k0, k1, k2]) rfl ⟨by rw [WF.out.1, WF.out.2.1, WF.out.2.2, ← HWD.out, ← HZZ.out]; rfl, kb⟩
      · have q1 : ((c : Int) == (wd.size : Int)) = false := beq_eq_false_iff_ne.2 (by omega)
        have q2 : (c == wd.size) = false := beq_eq_false_iff_ne.2 hz
        have NH := Lib.hid (show ∀ p, p < j + 1 → hitB S k (ws.getD p ByteArray.empty) = false from fun p hp => by
          by_cases q : p < j
          · exact HA.out p q
          · rw [show p = j by omega, ← HWD.out]; exact decide_eq_false (by rw [← HCC.out]; exact hz))
        clear hz
        by_cases hm : M < c
        · have m1 : decide (M < c) = true := dtrue hm
          have m2 : decide ((M : Int) < (c : Int)) = true := dtrue (by omega)
          go_wp2_with fail
          go_quiet ((go_at_call 52; exact quiet_dn (hp _)))
          go_wp2_with fail
          go_roundw
          case rel => exact ⟨j + 1, c, by omega, by go_num, rfl, row_dn rB nq, row_dn rR nq, Lib.hid ⟨HB.out.1.on (below_dn (Below.refl _ _) nq), below_dn HB.out.2 nq⟩, Lib.hid (by rw [TM.out, ← HM.out]; omega), NH⟩
          case measure => simp [intOf]; omega
        · have m1 : decide (M < c) = false := dfalse hm
          have m2 : decide ((M : Int) < (c : Int)) = false := dfalse (by omega)
          go_wp2_with fail
          go_quiet ((go_at_call 52; exact quiet_dn (hp _)))
          go_wp2_with fail
          go_roundw
          case rel => exact ⟨j + 1, M, by omega, by go_num, rfl, row_dn rB nq, row_dn rR nq, Lib.hid ⟨HB.out.1.on (below_dn (Below.refl _ _) nq), below_dn HB.out.2 nq⟩, Lib.hid (by rw [TM.out, ← HM.out]; omega), NH⟩
          case measure => simp [intOf]; omega
    · obtain rfl : j = n := by omega
      have eM : M = mxW S k ws := by rw [HM.out, HN.out, List.take_length]
      have mb := mxW_size hk ws
      rw [← eM] at mb
      have WF := Lib.hid (wd_of_none (wdF_is_none (by rw [← HN.out]; exact HA.out)))
      have HEM := Lib.hid eM
      have wk : IntKind.i64.wrap ((k : Int) + (M : Int)) = (k : Int) + (M : Int) := by rw [IntKind.wrap_i64]; omega
      have hf := HF.out (k + M)
      rw [show ((k + M : Nat) : Int) = (k : Int) + (M : Int) by omega] at hf
      clear eM
      go_wp2_with fail
      refine (hf _).mono ?_
      rintro e v ⟨rfl, hb⟩
      have rR' := row_kept rR hb
      have bl' := below_on HB.out.2 hb
      obtain ⟨y0, y1, y2, x0, x1, x2, -⟩ := st_facts rR'
      clear hb e0 e1 e2 z0 z1 z2
      go_wp2_with fail
      obtain ⟨u9, hu9⟩ : ∃ u9, u9 = (((v).setCell ⟨w.heap.size + 1, 0, none⟩ (.string S)).setCell ⟨w.heap.size + 1, 1, none⟩ (.int .i64 ((k : Int) + (M : Int)))).setCell ⟨w.heap.size + 1, 2, none⟩ (.bool true) := ⟨_, rfl⟩
      obtain ⟨k0, k1, k2, kb⟩ := st_put (w := w) _ _ _ rR' bl' (by omega) hu9
      rw [← hu9]
      exact bodyPost_ret (v := .tuple #[.agg #[.string S, .int .i64 ((k : Int) + (M : Int)), .bool true], .int .i64 (-1)]) (by simp [results, Tryz.results23, go_sem, k0, k1, k2]) rfl ⟨by rw [WF.out.1, WF.out.2.1, WF.out.2.2, ← HEM.out]; rfl, kb⟩
end Go.Proofs.YtkhicgafhbecfaaGreatDoor

namespace Go.Proofs.YtkhicgafhbecfaaGreatDoor
open Go.RowKit

theorem rdg_at (S : ByteArray) (i : Nat) (x : Int) (h : x = (i : Int)) (b : Bool) (hb : dg S i = b) (w : World) : Calls Tryz.prog 76 #[.string S, .int .i64 x] w fun e w' => e = .returned (.bool b) ∧ w = w' := by subst h; subst hb; exact rdg_any S i w
theorem rfa_at (S : ByteArray) (k i : Nat) (x : Int) (h : x = (i : Int)) (bad : Bool) (w : World) : Calls Tryz.prog 53 #[sv S k bad, .int .i64 x] w fun e w' => e = .returned (sv S i true) ∧ Below w.heap.size w w' := by subst h; exact rfa_any S k i bad w
theorem idx_at25 {S : ByteArray} {i : Nat} {x : Int} (h : x = (i : Int)) (hi : i < S.size) (w : World) : (Instr.index 9 (.string S) (.int .i64 x)).run Tryz.prog w = .ok (.int .u8 (bt S i)) w := by
  subst h
  have := idx_str S i (by omega) (by omega) w
  rwa [Int.toNat_natCast] at this
theorem nu_z {S : ByteArray} {k : Nat} (h : nuZ S k = true) : nuK S k = k + 1 ∧ nuB S k = false ∧ nuV S k = 0 := by
  unfold nuK nuB nuV; rw [h]; exact ⟨rfl, rfl, rfl⟩
theorem nu_f {S : ByteArray} {k : Nat} (h : nuZ S k = false) (hd : nuD S k = false) : nuK S k = nuI S k ∧ nuB S k = true ∧ nuV S k = 0 := by
  unfold nuK nuB nuV; rw [h, hd]; exact ⟨rfl, rfl, rfl⟩
theorem nu_d {S : ByteArray} {k : Nat} (h : nuZ S k = false) (hd : nuD S k = true) : nuK S k = nuI S k + dgs S (nuI S k) 10 ∧ nuB S k = false ∧ nuV S k = (if nuN S k then - vl S (nuI S k) (dgs S (nuI S k) 10) else vl S (nuI S k) (dgs S (nuI S k) 10)) := by
  unfold nuK nuB nuV; rw [h, hd]; exact ⟨rfl, rfl, rfl⟩
theorem vl_word {S : ByteArray} {i j : Nat} (h : ∀ p, p < j → dg S (i + p) = true) (hj : j ≤ 10) : 0 ≤ vl S i j ∧ vl S i j < 10000000000 := vl_lt h hj
set_option maxHeartbeats 2000000 in
set_option maxRecDepth 100000 in
theorem rnu_zero {S : ByteArray} {k : Nat} {w : World} (hs : S.size < big) (hz : nuZ S k = true) :
    Calls Tryz.prog 54 #[sv S k false] w fun e w' => e = .returned (.tuple #[sv S (nuK S k) (nuB S k), .int .i64 (nuV S k)]) ∧ Below w.heap.size w w' := by
  have hs' : S.size < 4611686018427387904 := hs
  clear hs
  obtain ⟨z1, z2⟩ := nuZ_yes hz
  have V := Lib.hid (nu_z hz)
  have x1 := fun u => idx_at25 (S := S) (i := k) (x := (k : Int)) rfl z1 u
  have d1 : decide (k < S.size) = true := dtrue z1
  have q1 : (bt S k == 48) = true := beq_iff_eq.2 z2
  generalize bt S k = x at *
  clear hz z2
  have wk : (k : Int) + 1 ≤ 9223372036854775807 := by omega
  go_enter Tryz.func54, Tryz.ntmps54
  go_wp2
  exact bodyPost_ret (v := .tuple #[.agg #[.string S, .int .i64 ((k : Int) + 1), .bool false], .int .i64 0]) (by simp [results, Tryz.results54, go_sem]) rfl ⟨by rw [V.out.1, V.out.2.1, V.out.2.2]; rfl, al2 w _ _⟩
set_option maxHeartbeats 2000000 in
set_option maxRecDepth 100000 in
theorem rnu_end {S : ByteArray} {k : Nat} {w : World} (hs : S.size < big) (hk : ¬ k < S.size) (hz : nuZ S k = false) (hn : nuN S k = false) (hd : nuD S k = false) :
    Calls Tryz.prog 54 #[sv S k false] w fun e w' => e = .returned (.tuple #[sv S (nuK S k) (nuB S k), .int .i64 (nuV S k)]) ∧ Below w.heap.size w w' := by
  have hs' : S.size < 4611686018427387904 := hs
  clear hs
  have V := Lib.hid (nu_f hz hd)
  rw [(nuN_no hn).2] at V
  have d1 : decide (k < S.size) = false := dfalse hk
  have hg := fun u => rdg_at S k (k : Int) rfl false (dg_no fun h => hk h.1) u
  have hf := fun u => rfa_at S k k (k : Int) rfl false u
  clear hz hn hd
  go_enter Tryz.func54, Tryz.ntmps54
  go_wp2_with fail
  refine (hg _).mono ?_
  rintro e w1 ⟨rfl, rfl⟩
  go_wp2_with fail
  refine (hf _).mono ?_
  rintro e v ⟨rfl, hb⟩
  have rR := row_kept (row_new1 w (stO S k false) stZ) hb
  have bl := below_on (al2 w (stO S k false) stZ) hb
  obtain ⟨e0, e1, e2, y0, y1, y2, -⟩ := st_facts rR
  clear hb
  go_wp2_with fail
  obtain ⟨u9, hu9⟩ : ∃ u9, u9 = ((v.setCell ⟨w.heap.size + 1, 0, none⟩ (.string S)).setCell ⟨w.heap.size + 1, 1, none⟩ (.int .i64 ((k : Int)))).setCell ⟨w.heap.size + 1, 2, none⟩ (.bool true) := ⟨_, rfl⟩
  obtain ⟨k0, k1, k2, kb⟩ := st_put (w := w) _ _ _ rR bl (by omega) hu9
  rw [← hu9]
  exact bodyPost_ret (v := .tuple #[.agg #[.string S, .int .i64 ((k : Int)), .bool true], .int .i64 0]) (by simp [results, Tryz.results54, go_sem, k0, k1, k2]) rfl ⟨by rw [V.out.1, V.out.2.1, V.out.2.2], kb⟩
set_option maxHeartbeats 2000000 in
set_option maxRecDepth 100000 in
theorem rnu_neg_no {S : ByteArray} {k : Nat} {w : World} (hs : S.size < big) (hk : k < S.size) (h48 : ¬ bt S k = 48) (h45 : bt S k = 45) (hz : nuZ S k = false) (hn : nuN S k = true) (hd : nuD S k = false) (hg0 : dg S (k + 1) = false) :
    Calls Tryz.prog 54 #[sv S k false] w fun e w' => e = .returned (.tuple #[sv S (nuK S k) (nuB S k), .int .i64 (nuV S k)]) ∧ Below w.heap.size w w' := by
  have hs' : S.size < 4611686018427387904 := hs
  clear hs
  have V := Lib.hid (nu_f hz hd)
  rw [(nuN_yes hn).2.2] at V
  have x1 := fun u => idx_at25 (S := S) (i := k) (x := (k : Int)) rfl hk u
  have d1 : decide (k < S.size) = true := dtrue hk
  have q1 : (bt S k == 48) = false := beq_eq_false_iff_ne.2 h48
  have q2 : (bt S k == 45) = true := beq_iff_eq.2 h45
  have hg := fun u => rdg_at S (k + 1) ((k : Int) + 1) (by omega) false hg0 u
  have hf := fun u => rfa_at S k (k + 1) ((k : Int) + 1) (by omega) false u
  have wk : (k : Int) + 1 ≤ 9223372036854775807 := by omega
  generalize bt S k = x at x1 q1 q2
  clear hz hn hd h45 h48 hg0
  go_enter Tryz.func54, Tryz.ntmps54
  go_wp2_with fail
  refine (hg _).mono ?_
  rintro e w1 ⟨rfl, rfl⟩
  go_wp2_with fail
  refine (hf _).mono ?_
  rintro e v ⟨rfl, hb⟩
  have rR := row_kept (row_new1 w (stO S k false) stZ) hb
  have bl := below_on (al2 w (stO S k false) stZ) hb
  obtain ⟨e0, e1, e2, y0, y1, y2, -⟩ := st_facts rR
  clear hb
  go_wp2_with fail
  obtain ⟨u9, hu9⟩ : ∃ u9, u9 = ((v.setCell ⟨w.heap.size + 1, 0, none⟩ (.string S)).setCell ⟨w.heap.size + 1, 1, none⟩ (.int .i64 ((k : Int) + 1))).setCell ⟨w.heap.size + 1, 2, none⟩ (.bool true) := ⟨_, rfl⟩
  obtain ⟨k0, k1, k2, kb⟩ := st_put (w := w) _ _ _ rR bl (by omega) hu9
  rw [← hu9]
  exact bodyPost_ret (v := .tuple #[.agg #[.string S, .int .i64 ((k : Int) + 1), .bool true], .int .i64 0]) (by simp [results, Tryz.results54, go_sem, k0, k1, k2]) rfl ⟨by rw [V.out.1, V.out.2.1, V.out.2.2]; rfl, kb⟩
set_option maxHeartbeats 2000000 in
set_option maxRecDepth 100000 in
theorem rnu_neg_nz {S : ByteArray} {k : Nat} {w : World} (hs : S.size < big) (hk : k < S.size) (h48 : ¬ bt S k = 48) (h45 : bt S k = 45) (hz : nuZ S k = false) (hn : nuN S k = true) (hd : nuD S k = false) (hg0 : dg S (k + 1) = true) (h48b : bt S (k + 1) = 48) :
    Calls Tryz.prog 54 #[sv S k false] w fun e w' => e = .returned (.tuple #[sv S (nuK S k) (nuB S k), .int .i64 (nuV S k)]) ∧ Below w.heap.size w w' := by
  have hs' : S.size < 4611686018427387904 := hs
  clear hs
  have V := Lib.hid (nu_f hz hd)
  rw [(nuN_yes hn).2.2] at V
  have x1 := fun u => idx_at25 (S := S) (i := k) (x := (k : Int)) rfl hk u
  have d1 : decide (k < S.size) = true := dtrue hk
  have q1 : (bt S k == 48) = false := beq_eq_false_iff_ne.2 h48
  have q2 : (bt S k == 45) = true := beq_iff_eq.2 h45
  have hg := fun u => rdg_at S (k + 1) ((k : Int) + 1) (by omega) true hg0 u
  have hf := fun u => rfa_at S k (k + 1) ((k : Int) + 1) (by omega) false u
  have il := (dg_iff.1 hg0).1
  have x2 := fun u => idx_at25 (S := S) (i := k + 1) (x := (k : Int) + 1) (by omega) il u
  have q3 : (bt S (k + 1) == 48) = true := beq_iff_eq.2 h48b
  generalize bt S (k + 1) = y at x2 q3
  have wk : (k : Int) + 1 ≤ 9223372036854775807 := by omega
  generalize bt S k = x at x1 q1 q2
  clear hz hn hd h45 h48 hg0 h48b
  go_enter Tryz.func54, Tryz.ntmps54
  go_wp2_with fail
  refine (hg _).mono ?_
  rintro e w1 ⟨rfl, rfl⟩
  go_wp2_with fail
  refine (hf _).mono ?_
  rintro e v ⟨rfl, hb⟩
  have rR := row_kept (row_new1 w (stO S k false) stZ) hb
  have bl := below_on (al2 w (stO S k false) stZ) hb
  obtain ⟨e0, e1, e2, y0, y1, y2, -⟩ := st_facts rR
  clear hb
  go_wp2_with fail
  obtain ⟨u9, hu9⟩ : ∃ u9, u9 = ((v.setCell ⟨w.heap.size + 1, 0, none⟩ (.string S)).setCell ⟨w.heap.size + 1, 1, none⟩ (.int .i64 ((k : Int) + 1))).setCell ⟨w.heap.size + 1, 2, none⟩ (.bool true) := ⟨_, rfl⟩
  obtain ⟨k0, k1, k2, kb⟩ := st_put (w := w) _ _ _ rR bl (by omega) hu9
  rw [← hu9]
  exact bodyPost_ret (v := .tuple #[.agg #[.string S, .int .i64 ((k : Int) + 1), .bool true], .int .i64 0]) (by simp [results, Tryz.results54, go_sem, k0, k1, k2]) rfl ⟨by rw [V.out.1, V.out.2.1, V.out.2.2]; rfl, kb⟩
set_option maxHeartbeats 2000000 in
set_option maxRecDepth 100000 in
theorem rnu_neg_ok {S : ByteArray} {k : Nat} {w : World} (hs : S.size < big) (hk : k < S.size) (h48 : ¬ bt S k = 48) (h45 : bt S k = 45) (hz : nuZ S k = false) (hn : nuN S k = true) (hd : nuD S k = true) :
    Calls Tryz.prog 54 #[sv S k false] w fun e w' => e = .returned (.tuple #[sv S (nuK S k) (nuB S k), .int .i64 (nuV S k)]) ∧ Below w.heap.size w w' := by
  have hs' : S.size < 4611686018427387904 := hs
  clear hs
  have V := nu_d hz hd
  rw [(nuN_yes hn).2.2, hn] at V
  obtain ⟨y1, y2, y3⟩ := nuD_yes hd
  rw [(nuN_yes hn).2.2] at y1 y2 y3
  have x1 := fun u => idx_at25 (S := S) (i := k) (x := (k : Int)) rfl hk u
  have d1 : decide (k < S.size) = true := dtrue hk
  have q1 : (bt S k == 48) = false := beq_eq_false_iff_ne.2 h48
  have q2 : (bt S k == 45) = true := beq_iff_eq.2 h45
  have hg := fun u => rdg_at S (k + 1) ((k : Int) + 1) (by omega) true (dg_iff.2 ⟨y1, by omega, y3⟩) u
  have x2 := fun u => idx_at25 (S := S) (i := k + 1) (x := (k : Int) + 1) (by omega) y1 u
  have q3 : (bt S (k + 1) == 48) = false := beq_eq_false_iff_ne.2 (by omega)
  generalize bt S (k + 1) = y at x2 q3
  have wk : (k : Int) + 1 ≤ 9223372036854775807 := by omega
  obtain ⟨i0, hi0⟩ : ∃ i0, i0 = k + 1 := ⟨_, rfl⟩
  rw [← hi0] at V y1
  have HI0 := Lib.hid hi0
  have HV := Lib.hid V
  generalize bt S k = x at x1 q1 q2
  clear hz hn hd h45 h48 y2 y3 V hi0
  go_enter Tryz.func54, Tryz.ntmps54
  go_wp2_with fail
  refine (hg _).mono ?_
  rintro e w1 ⟨rfl, rfl⟩
  clear x1 q1 q2 hg
  go_wp2_with fail
  clear wk x2 q3
  go_loop [4, 6, 7] (fun vi vn vk => ∃ j I : Nat, Hid (I = i0 + j) ∧ j ≤ 10 ∧ vi = .int .i64 I ∧ vn = .int .i64 (vl S i0 j) ∧ vk = .int .i64 j ∧ Hid (∀ p, p < j → dg S (i0 + p) = true)) (fun _ _ vk => 10 - (intOf vk).toNat)
  case atStart => exact ⟨0, i0, Lib.hid rfl, by omega, by rw [HI0.out]; rfl, rfl, rfl, Lib.hid fun p hp => absurd hp (by omega)⟩
  case round =>
    obtain ⟨j, I, HI, hj, rfl, rfl, rfl, HA⟩ := hrel
    have hv := vl_word HA.out hj
    by_cases j9 : j < 10
    · have d2 : decide (j < 10) = true := dtrue j9
      have d3 : decide ((j : Int) < 10) = true := dtrue (by omega)
      cases hq : dg S I
      · have hg := fun u => rdg_at S I (I : Int) rfl false hq u
        have HE := Lib.hid (dgs_eq (by omega) HA.out (.inr (by rw [← HI.out]; exact hq)))
        clear hq
        have EN := Lib.hid (show -(vl S i0 j) = - vl S i0 (dgs S i0 10) by rw [HE.out])
        generalize vl S i0 j = acc at *
        go_wp2_with fail
        refine (hg _).mono ?_
        rintro e w2 ⟨rfl, rfl⟩
        go_wp2_with fail
        exact bodyPost_ret (v := .tuple #[.agg #[.string S, .int .i64 (I : Int), .bool false], .int .i64 (-acc)]) (by simp [results, Tryz.results54, go_sem]) rfl ⟨by rw [HV.out.1, HV.out.2.1, HV.out.2.2, HI.out, EN.out, HE.out]; rfl, al2 w _ _⟩
      · have hg := fun u => rdg_at S I (I : Int) rfl true hq u
        obtain ⟨il, p1, p2⟩ := dg_iff.1 hq
        have HQ := Lib.hid hq
        have x3 := fun u => idx_at25 (S := S) (i := I) (x := (I : Int)) rfl il u
        have EV := Lib.hid (vl_succ S i0 j)
        rw [← HI.out] at EV
        clear hq
        generalize bt S I = x at *
        generalize vl S i0 j = acc at *
        go_wp2_with fail
        refine (hg _).mono ?_
        rintro e w2 ⟨rfl, rfl⟩
        go_wp2_with fail
        go_round
        case rel =>
          refine ⟨j + 1, I + 1, Lib.hid (by rw [HI.out]; omega), by omega, by go_num, by rw [EV.out]; first | go_num | (congr 1; omega), by go_num, Lib.hid fun p hp => ?_⟩
          by_cases q : p < j
          · exact HA.out p q
          · rw [show p = j by omega, ← HI.out]; exact HQ.out
        case measure => simp [intOf]; omega
    · obtain rfl : j = 10 := by omega
      have HE := Lib.hid (dgs_eq (n := 10) (by omega) HA.out (.inl rfl))
      have EN := Lib.hid (show -(vl S i0 10) = - vl S i0 (dgs S i0 10) by rw [HE.out])
      generalize vl S i0 10 = acc at *
      go_wp2_with fail
      exact bodyPost_ret (v := .tuple #[.agg #[.string S, .int .i64 (I : Int), .bool false], .int .i64 (-acc)]) (by simp [results, Tryz.results54, go_sem]) rfl ⟨by rw [HV.out.1, HV.out.2.1, HV.out.2.2, HI.out, EN.out, HE.out]; rfl, al2 w _ _⟩
set_option maxHeartbeats 2000000 in
set_option maxRecDepth 100000 in
theorem rnu_pos_no {S : ByteArray} {k : Nat} {w : World} (hs : S.size < big) (hk : k < S.size) (h48 : ¬ bt S k = 48) (h45 : ¬ bt S k = 45) (hz : nuZ S k = false) (hn : nuN S k = false) (hd : nuD S k = false) (hg0 : dg S (k) = false) :
    Calls Tryz.prog 54 #[sv S k false] w fun e w' => e = .returned (.tuple #[sv S (nuK S k) (nuB S k), .int .i64 (nuV S k)]) ∧ Below w.heap.size w w' := by
  have hs' : S.size < 4611686018427387904 := hs
  clear hs
  have V := Lib.hid (nu_f hz hd)
  rw [(nuN_no hn).2] at V
  have x1 := fun u => idx_at25 (S := S) (i := k) (x := (k : Int)) rfl hk u
  have d1 : decide (k < S.size) = true := dtrue hk
  have q1 : (bt S k == 48) = false := beq_eq_false_iff_ne.2 h48
  have q2 : (bt S k == 45) = false := beq_eq_false_iff_ne.2 h45
  have hg := fun u => rdg_at S (k) ((k : Int)) (by omega) false hg0 u
  have hf := fun u => rfa_at S k (k) ((k : Int)) (by omega) false u
  have wk : (k : Int) + 1 ≤ 9223372036854775807 := by omega
  generalize bt S k = x at x1 q1 q2
  clear hz hn hd h45 h48 hg0
  go_enter Tryz.func54, Tryz.ntmps54
  go_wp2_with fail
  refine (hg _).mono ?_
  rintro e w1 ⟨rfl, rfl⟩
  go_wp2_with fail
  refine (hf _).mono ?_
  rintro e v ⟨rfl, hb⟩
  have rR := row_kept (row_new1 w (stO S k false) stZ) hb
  have bl := below_on (al2 w (stO S k false) stZ) hb
  obtain ⟨e0, e1, e2, y0, y1, y2, -⟩ := st_facts rR
  clear hb
  go_wp2_with fail
  obtain ⟨u9, hu9⟩ : ∃ u9, u9 = ((v.setCell ⟨w.heap.size + 1, 0, none⟩ (.string S)).setCell ⟨w.heap.size + 1, 1, none⟩ (.int .i64 ((k : Int)))).setCell ⟨w.heap.size + 1, 2, none⟩ (.bool true) := ⟨_, rfl⟩
  obtain ⟨k0, k1, k2, kb⟩ := st_put (w := w) _ _ _ rR bl (by omega) hu9
  rw [← hu9]
  exact bodyPost_ret (v := .tuple #[.agg #[.string S, .int .i64 ((k : Int)), .bool true], .int .i64 0]) (by simp [results, Tryz.results54, go_sem, k0, k1, k2]) rfl ⟨by rw [V.out.1, V.out.2.1, V.out.2.2], kb⟩
set_option maxHeartbeats 2000000 in
set_option maxRecDepth 100000 in
theorem rnu_pos_ok {S : ByteArray} {k : Nat} {w : World} (hs : S.size < big) (hk : k < S.size) (h48 : ¬ bt S k = 48) (h45 : ¬ bt S k = 45) (hz : nuZ S k = false) (hn : nuN S k = false) (hd : nuD S k = true) :
    Calls Tryz.prog 54 #[sv S k false] w fun e w' => e = .returned (.tuple #[sv S (nuK S k) (nuB S k), .int .i64 (nuV S k)]) ∧ Below w.heap.size w w' := by
  have hs' : S.size < 4611686018427387904 := hs
  clear hs
  have V := nu_d hz hd
  rw [(nuN_no hn).2, hn] at V
  obtain ⟨y1, y2, y3⟩ := nuD_yes hd
  rw [(nuN_no hn).2] at y1 y2 y3
  have x1 := fun u => idx_at25 (S := S) (i := k) (x := (k : Int)) rfl hk u
  have d1 : decide (k < S.size) = true := dtrue hk
  have q1 : (bt S k == 48) = false := beq_eq_false_iff_ne.2 h48
  have q2 : (bt S k == 45) = false := beq_eq_false_iff_ne.2 h45
  have hg := fun u => rdg_at S (k) ((k : Int)) (by omega) true (dg_iff.2 ⟨y1, by omega, y3⟩) u
  have wk : (k : Int) + 1 ≤ 9223372036854775807 := by omega
  have HV := Lib.hid V
  generalize bt S k = x at x1 q1 q2
  clear hz hn hd h45 h48 y2 y3 V
  go_enter Tryz.func54, Tryz.ntmps54
  go_wp2_with fail
  refine (hg _).mono ?_
  rintro e w1 ⟨rfl, rfl⟩
  clear hg
  go_wp2_with fail
  clear wk x1 q1 q2
  go_loop [4, 6, 7] (fun vi vn vk => ∃ j I : Nat, Hid (I = k + j) ∧ j ≤ 10 ∧ vi = .int .i64 I ∧ vn = .int .i64 (vl S k j) ∧ vk = .int .i64 j ∧ Hid (∀ p, p < j → dg S (k + p) = true)) (fun _ _ vk => 10 - (intOf vk).toNat)
  case atStart => exact ⟨0, k, Lib.hid rfl, by omega, rfl, rfl, rfl, Lib.hid fun p hp => absurd hp (by omega)⟩
  case round =>
    obtain ⟨j, I, HI, hj, rfl, rfl, rfl, HA⟩ := hrel
    have hv := vl_word HA.out hj
    by_cases j9 : j < 10
    · have d2 : decide (j < 10) = true := dtrue j9
      have d3 : decide ((j : Int) < 10) = true := dtrue (by omega)
      cases hq : dg S I
      · have hg := fun u => rdg_at S I (I : Int) rfl false hq u
        have HE := Lib.hid (dgs_eq (by omega) HA.out (.inr (by rw [← HI.out]; exact hq)))
        clear hq
        have EN := Lib.hid (show (vl S k j) = vl S k (dgs S k 10) by rw [HE.out])
        generalize vl S k j = acc at *
        go_wp2_with fail
        refine (hg _).mono ?_
        rintro e w2 ⟨rfl, rfl⟩
        go_wp2_with fail
        exact bodyPost_ret (v := .tuple #[.agg #[.string S, .int .i64 (I : Int), .bool false], .int .i64 (acc)]) (by simp [results, Tryz.results54, go_sem]) rfl ⟨by rw [HV.out.1, HV.out.2.1, HV.out.2.2, HI.out, EN.out, HE.out]; rfl, al2 w _ _⟩
      · have hg := fun u => rdg_at S I (I : Int) rfl true hq u
        obtain ⟨il, p1, p2⟩ := dg_iff.1 hq
        have HQ := Lib.hid hq
        have x3 := fun u => idx_at25 (S := S) (i := I) (x := (I : Int)) rfl il u
        have EV := Lib.hid (vl_succ S k j)
        rw [← HI.out] at EV
        clear hq
        generalize bt S I = x at *
        generalize vl S k j = acc at *
        go_wp2_with fail
        refine (hg _).mono ?_
        rintro e w2 ⟨rfl, rfl⟩
        go_wp2_with fail
        go_round
        case rel =>
          refine ⟨j + 1, I + 1, Lib.hid (by rw [HI.out]; omega), by omega, by go_num, by rw [EV.out]; first | go_num | (congr 1; omega), by go_num, Lib.hid fun p hp => ?_⟩
          by_cases q : p < j
          · exact HA.out p q
          · rw [show p = j by omega, ← HI.out]; exact HQ.out
        case measure => simp [intOf]; omega
    · obtain rfl : j = 10 := by omega
      have HE := Lib.hid (dgs_eq (n := 10) (by omega) HA.out (.inl rfl))
      have EN := Lib.hid (show (vl S k 10) = vl S k (dgs S k 10) by rw [HE.out])
      generalize vl S k 10 = acc at *
      go_wp2_with fail
      exact bodyPost_ret (v := .tuple #[.agg #[.string S, .int .i64 (I : Int), .bool false], .int .i64 (acc)]) (by simp [results, Tryz.results54, go_sem]) rfl ⟨by rw [HV.out.1, HV.out.2.1, HV.out.2.2, HI.out, EN.out, HE.out]; rfl, al2 w _ _⟩
theorem rnu_ok {S : ByteArray} {k : Nat} (hs : S.size < big) (w : World) :
    Calls Tryz.prog 54 #[sv S k false] w fun e w' => e = .returned (.tuple #[sv S (nuK S k) (nuB S k), .int .i64 (nuV S k)]) ∧ Below w.heap.size w w' := by
  cases hz : nuZ S k
  · by_cases hl : k < S.size
    · have h48 : ¬ bt S k = 48 := fun c => by rw [show nuZ S k = true by simp [nuZ, hl, c]] at hz; cases hz
      by_cases h45 : bt S k = 45
      · have hn : nuN S k = true := by simp [nuN, hl, h45]
        have eI := (nuN_yes hn).2.2
        cases hd : nuD S k
        · cases hg : dg S (k + 1)
          · exact rnu_neg_no hs hl h48 h45 hz hn hd hg
          · refine rnu_neg_nz hs hl h48 h45 hz hn hd hg ?_
            refine Classical.byContradiction fun c => ?_
            unfold nuD at hd
            rw [eI, hg, decide_eq_false c] at hd
            cases hd
        · exact rnu_neg_ok hs hl h48 h45 hz hn hd
      · have hn : nuN S k = false := by simp [nuN, h45]
        have eI := (nuN_no hn).2
        cases hd : nuD S k
        · refine rnu_pos_no hs hl h48 h45 hz hn hd ?_
          unfold nuD at hd
          rw [eI, decide_eq_false h48] at hd
          simpa using hd
        · exact rnu_pos_ok hs hl h48 h45 hz hn hd
    · have hn : nuN S k = false := by simp [nuN, hl]
      refine rnu_end hs hl hz hn ?_
      unfold nuD
      rw [(nuN_no hn).2, dg_no fun h => hl h.1]
      rfl
  · exact rnu_zero hs hz
end Go.Proofs.YtkhicgafhbecfaaGreatDoor

namespace Go.Proofs.YtkhicgafhbecfaaGreatDoor
open Go.RowKit

theorem rlt_at (S : ByteArray) (i : Nat) (x : Int) (h : x = (i : Int)) (b : Bool) (hb : lt S i = b) (w : World) : Calls Tryz.prog 77 #[.string S, .int .i64 x] w fun e w' => e = .returned (.bool b) ∧ w = w' := by subst h; subst hb; exact rlt_any S i w
theorem id_none {S : ByteArray} {k : Nat} (h : lt S k = false) : idL S k = 0 ∧ idB S k = true ∧ idV S k = ⟨#[]⟩ := by
  have e : idL S k = 0 := idL_eq (fun j hj => absurd hj (by omega)) (fun hp => by
    obtain ⟨p1, p2, p3⟩ := hp
    rw [Nat.add_zero] at p1 p3
    rcases p3 with h1 | ⟨_, _, h1⟩ | ⟨_, h1, _⟩
    · rw [lt_iff.2 ⟨p1, h1⟩] at h; cases h
    · omega
    · exact h1 rfl)
  have b : idB S k = true := by unfold idB; rw [e]; rfl
  exact ⟨e, b, by unfold idV; rw [b]; rfl⟩
theorem id_end {S : ByteArray} {k j : Nat} (h1 : ∀ p, p < j → idP S k p) (h2 : ¬ idP S k j) (h3 : bfo S k j ≠ 45) : idL S k = j ∧ idB S k = false ∧ idV S k = S.extract k (k + j) := by
  have e := idL_eq h1 h2
  have b : idB S k = false := by unfold idB; rw [e]; exact decide_eq_false h3
  exact ⟨e, b, by unfold idV; rw [b, e]; rfl⟩
theorem id_hyp {S : ByteArray} {k j : Nat} (h1 : ∀ p, p < j → idP S k p) (h2 : ¬ idP S k j) (h3 : bfo S k j = 45) : idL S k = j ∧ idB S k = true ∧ idV S k = ⟨#[]⟩ := by
  have e := idL_eq h1 h2
  have b : idB S k = true := by unfold idB; rw [e]; exact decide_eq_true h3
  exact ⟨e, b, by unfold idV; rw [b]; rfl⟩
theorem idP_letter {S : ByteArray} {k j : Nat} (h : lt S (k + j) = true) (hj : j < 40) : idP S k j := by
  obtain ⟨a, b⟩ := lt_iff.1 h
  exact ⟨a, hj, .inl b⟩
theorem idP_digit {S : ByteArray} {k j : Nat} (h : dg S (k + j) = true) (hj : j < 40) (h0 : 0 < j) : idP S k j := by
  obtain ⟨a, b, c⟩ := dg_iff.1 h
  exact ⟨a, hj, .inr (.inl ⟨b, c, h0⟩)⟩
theorem idP_no {S : ByteArray} {k j : Nat} (h1 : lt S (k + j) = false) (h2 : dg S (k + j) = false) (h3 : bt S (k + j) = 45 → bfo S k j ≠ 45 → j = 39) : ¬ idP S k j := by
  rintro ⟨a, b, c | ⟨c, d, _⟩ | ⟨c, d, f⟩⟩
  · rw [lt_iff.2 ⟨a, c⟩] at h1; cases h1
  · rw [dg_iff.2 ⟨a, c, d⟩] at h2; cases h2
  · exact f (h3 c d)
theorem bfo_let {S : ByteArray} {k j : Nat} (h : lt S (k + j) = true) : bfo S k (j + 1) ≠ 45 := by
  rw [bfo_succ]; have := (lt_iff.1 h).2; omega
theorem bfo_dig {S : ByteArray} {k j : Nat} (h : dg S (k + j) = true) : bfo S k (j + 1) ≠ 45 := by
  rw [bfo_succ]; have := (dg_iff.1 h).2; omega
theorem all_succ {S : ByteArray} {k j : Nat} (h1 : ∀ p, p < j → idP S k p) (h2 : idP S k j) : ∀ p, p < j + 1 → idP S k p := fun p hp => by
  by_cases q : p < j
  · exact h1 p q
  · rw [show p = j by omega]; exact h2
set_option maxHeartbeats 2000000 in
set_option maxRecDepth 100000 in
theorem rid_none {S : ByteArray} {k : Nat} {w : World} (hl : lt S k = false) :
    Calls Tryz.prog 59 #[sv S k false] w fun e w' => e = .returned (.tuple #[sv S (k + idL S k) (idB S k), .string (idV S k)]) ∧ Below w.heap.size w w' := by
  have V := Lib.hid (id_none hl)
  have hg := fun u => rlt_at S k (k : Int) rfl false hl u
  have hf := fun u => rfa_at S k k (k : Int) rfl false u
  clear hl
  go_enter Tryz.func59, Tryz.ntmps59
  go_wp2_with fail
  refine (hg _).mono ?_
  rintro e w1 ⟨rfl, rfl⟩
  go_wp2_with fail
  refine (hf _).mono ?_
  rintro e v ⟨rfl, hb⟩
  have rR := row_kept (row_new1 w (stO S k false) stZ) hb
  have bl := below_on (al2 w (stO S k false) stZ) hb
  obtain ⟨e0, e1, e2, y0, y1, y2, -⟩ := st_facts rR
  clear hb
  go_wp2_with fail
  obtain ⟨u9, hu9⟩ : ∃ u9, u9 = ((v.setCell ⟨w.heap.size + 1, 0, none⟩ (.string S)).setCell ⟨w.heap.size + 1, 1, none⟩ (.int .i64 ((k : Int)))).setCell ⟨w.heap.size + 1, 2, none⟩ (.bool true) := ⟨_, rfl⟩
  obtain ⟨k0, k1, k2, kb⟩ := st_put (w := w) _ _ _ rR bl (by omega) hu9
  rw [← hu9]
  exact bodyPost_ret (v := .tuple #[.agg #[.string S, .int .i64 ((k : Int)), .bool true], .string ⟨#[]⟩]) (by simp [results, Tryz.results59, go_sem, k0, k1, k2]) rfl ⟨by rw [V.out.1, V.out.2.1, V.out.2.2]; rfl, kb⟩
set_option maxHeartbeats 4000000 in
set_option maxRecDepth 100000 in
theorem rid_some {S : ByteArray} {k : Nat} {w : World} (hs : S.size < big) (hl : lt S k = true) :
    Calls Tryz.prog 59 #[sv S k false] w fun e w' => e = .returned (.tuple #[sv S (k + idL S k) (idB S k), .string (idV S k)]) ∧ Below w.heap.size w w' := by
  have hs' : S.size < 4611686018427387904 := hs
  clear hs
  have hg := fun u => rlt_at S k (k : Int) rfl true hl u
  have ks := (lt_iff.1 hl).1
  have P0 := Lib.hid (show ∀ p, p < 1 → idP S k p from fun p hp => by rw [show p = 0 by omega]; exact idP_letter (by rw [Nat.add_zero]; exact hl) (by omega))
  have B0 := Lib.hid (show bfo S k 1 ≠ 45 from bfo_let (j := 0) (by rw [Nat.add_zero]; exact hl))
  clear hl
  go_enter Tryz.func59, Tryz.ntmps59
  go_wp2_with fail
  refine (hg _).mono ?_
  rintro e w1 ⟨rfl, rfl⟩
  clear hg
  go_wp2_with fail
  go_loop [4] (fun vi => ∃ j I : Nat, Hid (I = k + j) ∧ 1 ≤ j ∧ j ≤ 40 ∧ I ≤ S.size ∧ vi = .int .i64 I ∧ Hid (∀ p, p < j → idP S k p) ∧ Hid (bfo S k j ≠ 45)) (fun vi => S.size + 1 - (intOf vi).toNat)
  case atStart => exact ⟨1, k + 1, Lib.hid rfl, by omega, by omega, by omega, by go_num, P0, B0⟩
  case round =>
    clear P0 B0
    obtain ⟨j, I, HI, hj1, hj, hIs, rfl, HA, HB⟩ := hrel
    have wj : IntKind.i64.wrap ((I : Int) - (k : Int)) = (j : Int) := by rw [IntKind.wrap_i64, HI.out]; omega
    by_cases j40 : j < 40
    · have d1 : decide (j < 40) = true := dtrue j40
      have d2 : decide ((j : Int) < 40) = true := dtrue (by omega)
      by_cases hI : I < S.size
      · have d3 : decide (I < S.size) = true := dtrue hI
        have sI : (I : Int) + 1 ≤ 9223372036854775807 := by omega
        cases hl : lt S I
        · have h1 := fun u => rlt_at S I (I : Int) rfl false hl u
          cases hd : dg S I
          · have h2 := fun u => rdg_at S I (I : Int) rfl false hd u
            have x1 := fun u => idx_at25 (S := S) (i := I) (x := (I : Int)) rfl hI u
            by_cases h45 : bt S I = 45
            · have q1 : (bt S I != 45) = false := by rw [h45]; rfl
              have q2 : (bt S I == 45) = true := beq_iff_eq.2 h45
              by_cases j39 : j = 39
              · have q3 : ((j : Int) == 39) = true := beq_iff_eq.2 (by omega)
                have q4 : (j == 39) = true := beq_iff_eq.2 j39
                have V := id_end HA.out (idP_no (by rw [← HI.out]; exact hl) (by rw [← HI.out]; exact hd) (fun _ _ => j39)) HB.out
                rw [← HI.out] at V
                have HV := Lib.hid V
                have HS := ext_run S k I (by rw [HI.out]; omega) hIs
                clear V
                clear j39 hl hd h45
                generalize bt S I = x at *
                go_wp2_with fail
                refine (h1 _).mono ?_
                rintro e w2 ⟨rfl, rfl⟩
                go_wp2_with fail
                refine (h2 _).mono ?_
                rintro e w2 ⟨rfl, rfl⟩
                go_wp2_with fail
                go_region
                go_wp2_with fail
                exact bodyPost_ret (v := .tuple #[.agg #[.string S, .int .i64 (I : Int), .bool false], .string (S.extract k I)]) (by simp [results, Tryz.results59, go_sem]) rfl ⟨by rw [HV.out.2.1, HV.out.2.2, HV.out.1, ← HI.out], (al2 w _ _).drew⟩
              · have q3 : ((j : Int) == 39) = false := beq_eq_false_iff_ne.2 (by omega)
                have q4 : (j == 39) = false := beq_eq_false_iff_ne.2 j39
                have PJ : idP S k j := ⟨by rw [← HI.out]; exact hI, j40, .inr (.inr ⟨by rw [← HI.out]; exact h45, HB.out, j39⟩)⟩
                have hy : bfo S k (j + 1) = 45 := by rw [bfo_succ, ← HI.out]; exact h45
                cases hl2 : lt S (I + 1)
                · have h3 := fun u => rlt_at S (I + 1) ((I : Int) + 1) (by omega) false hl2 u
                  cases hd2 : dg S (I + 1)
                  · have h4 := fun u => rdg_at S (I + 1) ((I : Int) + 1) (by omega) false hd2 u
                    have V := id_hyp (all_succ HA.out PJ) (idP_no (by rw [show k + (j + 1) = I + 1 by rw [HI.out]; omega]; exact hl2) (by rw [show k + (j + 1) = I + 1 by rw [HI.out]; omega]; exact hd2) (fun _ h => absurd hy h)) hy
                    have HV := Lib.hid V
                    have hf := fun u => rfa_at S k (I + 1) ((I : Int) + 1) (by omega) false u
                    clear j39 hl hd h45 hl2 hd2 V PJ hy
                    generalize bt S I = x at *
                    go_wp2_with fail
                    refine (h1 _).mono ?_
                    rintro e w2 ⟨rfl, rfl⟩
                    go_wp2_with fail
                    refine (h2 _).mono ?_
                    rintro e w2 ⟨rfl, rfl⟩
                    go_wp2_with fail
                    refine (h3 _).mono ?_
                    rintro e w2 ⟨rfl, rfl⟩
                    go_wp2_with fail
                    refine (h4 _).mono ?_
                    rintro e w2 ⟨rfl, rfl⟩
                    go_wp2_with fail
                    refine (hf _).mono ?_
                    rintro e v ⟨rfl, hb⟩
                    have rR := row_kept (row_new1 w (stO S k false) stZ) hb
                    have bl := below_on (al2 w (stO S k false) stZ) hb
                    obtain ⟨e0, e1, e2, y0, y1, y2, -⟩ := st_facts rR
                    clear hb
                    go_wp2_with fail
                    obtain ⟨u9, hu9⟩ : ∃ u9, u9 = ((v.setCell ⟨w.heap.size + 1, 0, none⟩ (.string S)).setCell ⟨w.heap.size + 1, 1, none⟩ (.int .i64 ((I : Int) + 1))).setCell ⟨w.heap.size + 1, 2, none⟩ (.bool true) := ⟨_, rfl⟩
                    obtain ⟨k0, k1, k2, kb⟩ := st_put (w := w) _ _ _ rR bl (by omega) hu9
                    rw [← hu9]
                    exact bodyPost_ret (v := .tuple #[.agg #[.string S, .int .i64 ((I : Int) + 1), .bool true], .string ⟨#[]⟩]) (by simp [results, Tryz.results59, go_sem, k0, k1, k2]) rfl ⟨by rw [HV.out.2.1, HV.out.2.2, HV.out.1, show k + (j + 1) = I + 1 by rw [HI.out]; omega]; rfl, kb⟩
                  · have h4 := fun u => rdg_at S (I + 1) ((I : Int) + 1) (by omega) true hd2 u
                    have i1 := (dg_iff.1 hd2).1
                    have PN := Lib.hid (all_succ (all_succ HA.out PJ) (idP_digit (by rw [show k + (j + 1) = I + 1 by rw [HI.out]; omega]; exact hd2) (by omega) (by omega)))
                    have BN := Lib.hid (show bfo S k (j + 1 + 1) ≠ 45 from bfo_dig (by rw [show k + (j + 1) = I + 1 by rw [HI.out]; omega]; exact hd2))
                    have sI2 : (I : Int) + 1 + 1 ≤ 9223372036854775807 := by omega
                    have J39 : j ≤ 38 := by omega
                    clear j39 hl hd h45 hl2 hd2 PJ hy
                    generalize bt S I = x at *
                    go_wp2_with fail
                    refine (h1 _).mono ?_
                    rintro e w2 ⟨rfl, rfl⟩
                    go_wp2_with fail
                    refine (h2 _).mono ?_
                    rintro e w2 ⟨rfl, rfl⟩
                    go_wp2_with fail
                    refine (h3 _).mono ?_
                    rintro e w2 ⟨rfl, rfl⟩
                    go_wp2_with fail
                    refine (h4 _).mono ?_
                    rintro e w2 ⟨rfl, rfl⟩
                    go_wp2_with fail
                    go_round
                    case rel => exact ⟨j + 1 + 1, I + 1 + 1, Lib.hid (by rw [HI.out]; omega), by omega, by omega, by omega, by go_num, PN, BN⟩
                    case measure => simp [intOf]; omega
                · have h3 := fun u => rlt_at S (I + 1) ((I : Int) + 1) (by omega) true hl2 u
                  have i1 := (lt_iff.1 hl2).1
                  have PN := Lib.hid (all_succ (all_succ HA.out PJ) (idP_letter (by rw [show k + (j + 1) = I + 1 by rw [HI.out]; omega]; exact hl2) (by omega)))
                  have BN := Lib.hid (show bfo S k (j + 1 + 1) ≠ 45 from bfo_let (by rw [show k + (j + 1) = I + 1 by rw [HI.out]; omega]; exact hl2))
                  have sI2 : (I : Int) + 1 + 1 ≤ 9223372036854775807 := by omega
                  have J39 : j ≤ 38 := by omega
                  clear j39 hl hd h45 hl2 PJ hy
                  generalize bt S I = x at *
                  go_wp2_with fail
                  refine (h1 _).mono ?_
                  rintro e w2 ⟨rfl, rfl⟩
                  go_wp2_with fail
                  refine (h2 _).mono ?_
                  rintro e w2 ⟨rfl, rfl⟩
                  go_wp2_with fail
                  refine (h3 _).mono ?_
                  rintro e w2 ⟨rfl, rfl⟩
                  go_wp2_with fail
                  go_round
                  case rel => exact ⟨j + 1 + 1, I + 1 + 1, Lib.hid (by rw [HI.out]; omega), by omega, by omega, by omega, by go_num, PN, BN⟩
                  case measure => simp [intOf]; omega
            · have q1 : (bt S I != 45) = true := by simp [h45]
              have q2 : (bt S I == 45) = false := beq_eq_false_iff_ne.2 h45
              have V := id_end HA.out (idP_no (by rw [← HI.out]; exact hl) (by rw [← HI.out]; exact hd) (fun h _ => absurd (by rw [HI.out]; exact h) h45)) HB.out
              rw [← HI.out] at V
              have HV := Lib.hid V
              have HS := ext_run S k I (by rw [HI.out]; omega) hIs
              clear V
              clear hl hd h45
              generalize bt S I = x at *
              go_wp2_with fail
              refine (h1 _).mono ?_
              rintro e w2 ⟨rfl, rfl⟩
              go_wp2_with fail
              refine (h2 _).mono ?_
              rintro e w2 ⟨rfl, rfl⟩
              go_wp2_with fail
              go_region
              go_wp2_with fail
              exact bodyPost_ret (v := .tuple #[.agg #[.string S, .int .i64 (I : Int), .bool false], .string (S.extract k I)]) (by simp [results, Tryz.results59, go_sem]) rfl ⟨by rw [HV.out.2.1, HV.out.2.2, HV.out.1, ← HI.out], (al2 w _ _).drew⟩
          · have h2 := fun u => rdg_at S I (I : Int) rfl true hd u
            have PN := Lib.hid (all_succ HA.out (idP_digit (by rw [← HI.out]; exact hd) j40 hj1))
            have BN := Lib.hid (show bfo S k (j + 1) ≠ 45 from bfo_dig (by rw [← HI.out]; exact hd))
            clear hl hd
            go_wp2_with fail
            refine (h1 _).mono ?_
            rintro e w2 ⟨rfl, rfl⟩
            go_wp2_with fail
            refine (h2 _).mono ?_
            rintro e w2 ⟨rfl, rfl⟩
            go_wp2_with fail
            go_round
            case rel => exact ⟨j + 1, I + 1, Lib.hid (by rw [HI.out]; omega), by omega, by omega, by omega, by go_num, PN, BN⟩
            case measure => simp [intOf]; omega
        · have h1 := fun u => rlt_at S I (I : Int) rfl true hl u
          have PN := Lib.hid (all_succ HA.out (idP_letter (by rw [← HI.out]; exact hl) j40))
          have BN := Lib.hid (show bfo S k (j + 1) ≠ 45 from bfo_let (by rw [← HI.out]; exact hl))
          clear hl
          go_wp2_with fail
          refine (h1 _).mono ?_
          rintro e w2 ⟨rfl, rfl⟩
          go_wp2_with fail
          go_round
          case rel => exact ⟨j + 1, I + 1, Lib.hid (by rw [HI.out]; omega), by omega, by omega, by omega, by go_num, PN, BN⟩
          case measure => simp [intOf]; omega
      · have d3 : decide (I < S.size) = false := dfalse hI
        have V := id_end HA.out (fun h => hI (by rw [HI.out]; exact h.1)) HB.out
        rw [← HI.out] at V
        have HV := Lib.hid V
        have HS := ext_run S k I (by rw [HI.out]; omega) hIs
        clear V
        go_wp2_with fail
        go_region
        go_wp2_with fail
        exact bodyPost_ret (v := .tuple #[.agg #[.string S, .int .i64 (I : Int), .bool false], .string (S.extract k I)]) (by simp [results, Tryz.results59, go_sem]) rfl ⟨by rw [HV.out.2.1, HV.out.2.2, HV.out.1, ← HI.out], (al2 w _ _).drew⟩
    · have d1 : decide (j < 40) = false := dfalse j40
      have d2 : decide ((j : Int) < 40) = false := dfalse (by omega)
      have V := id_end HA.out (fun h => j40 h.2.1) HB.out
      rw [← HI.out] at V
      have HV := Lib.hid V
      have HS := ext_run S k I (by rw [HI.out]; omega) hIs
      clear V
      go_wp2_with fail
      go_region
      go_wp2_with fail
      exact bodyPost_ret (v := .tuple #[.agg #[.string S, .int .i64 (I : Int), .bool false], .string (S.extract k I)]) (by simp [results, Tryz.results59, go_sem]) rfl ⟨by rw [HV.out.2.1, HV.out.2.2, HV.out.1, ← HI.out], (al2 w _ _).drew⟩
theorem rid_ok {S : ByteArray} {k : Nat} (hs : S.size < big) (w : World) :
    Calls Tryz.prog 59 #[sv S k false] w fun e w' => e = .returned (.tuple #[sv S (k + idL S k) (idB S k), .string (idV S k)]) ∧ Below w.heap.size w w' := by
  cases h : lt S k
  · exact rid_none h
  · exact rid_some hs h
end Go.Proofs.YtkhicgafhbecfaaGreatDoor
