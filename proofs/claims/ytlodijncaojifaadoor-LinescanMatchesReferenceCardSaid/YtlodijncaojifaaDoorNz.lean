/- The law Offset of package linescan. -/
import Derived.Test.YtlodijncaojifaaDoorNy
namespace Go.Proofs.YtlodijncaojifaaDoor
open Go.RowKit

/-- Word on a good scanner, whether it fails or not. -/
theorem wo_new {S : ByteArray} {b k g cap : Nat} {ws : List ByteArray} {w : World} (h : w.heap[b]? = some (scO S k false)) (hk : k ≤ S.size) (hs : S.size < big) (hW : StrsIn g cap ws w) (hgb : g ≠ b) (hw : Wds ws) :
    Calls Tryd.prog 9 #[xp b, .slice (some ⟨g, 0, none⟩) ws.length cap] w fun e w' => e = .returned (.int .i64 (wdI S k ws)) ∧ w'.heap[b]? = some (scO S (wdK S k ws) (wdB S k ws)) ∧ Bt b w w' := by
  cases hf : wdF S k ws with
  | some i =>
    rw [(wd_of_some hf).1, (wd_of_some hf).2.2]
    exact wo_ok h hk hs hW hgb hw.ok hw.l1 hw.l2 hw.lg hf
  | none =>
    rw [(wd_of_none hf).1, (wd_of_none hf).2.2]
    exact wo_no h hk hs hW hgb hw.ok hw.l1 hw.l2 hw.lg hf
theorem l25o_long (s : ByteArray) (n : Int) (h : 1000 < s.size) (W : World) : Calls Tryd.prog 6 #[.string s, .int .u8 n] W fun e w' => e = .returned (.bool true) ∧ Below W.heap.size W w' := by
  have d1 : decide (1000 < s.size) = true := dtrue h
  go_enter Tryd.func6, Tryd.ntmps6
  go_wp2_with fail
  refine (c25awake_any _).mono ?_
  rintro e w1 ⟨rfl, b1⟩
  go_wp2_with fail
  refine (c25awake_any _).mono ?_
  rintro e w2 ⟨rfl, b2⟩
  go_wp2_with fail
  go_ret
  exact ⟨rfl, below_on b1 b2⟩
set_option maxHeartbeats 4000000 in
set_option maxRecDepth 100000 in
theorem l25o_ok (s : ByteArray) (n : Nat) (h : ¬ 1000 < s.size) (hn : n ≤ 255) (W : World) : Calls Tryd.prog 6 #[.string s, .int .u8 n] W fun e w' => e = .returned (.bool true) ∧ Below W.heap.size W w' := by
  have d1 : decide (1000 < s.size) = false := dfalse h
  have wn : IntKind.i64.wrap (n : Int) = (n : Int) := by rw [IntKind.wrap_i64]; omega
  have hwd := fun u => wds_any n (by omega) u
  have ss : s.size < big := by show s.size < 4611686018427387904; omega
  have hwk := wds_n n
  generalize wl n = ws at *
  have HW := Lib.hid (fun (u : World) (b g : Nat) (h : u.heap[b]? = some (scO s 0 false)) (hg : StrsIn g ws.length ws u) (hne : g ≠ b) => wo_new h (Nat.zero_le _) ss hg hne hwk)
  have L1 := hwk.l1
  have L2 := hwk.l2
  have SZ := Lib.hid hwk.sz
  clear hwk ss
  go_enter Tryd.func6, Tryd.ntmps6
  go_wp2_with fail
  refine (c25awake_any _).mono ?_
  rintro e w1 ⟨rfl, b1⟩
  go_wp2_with fail
  refine (hwd _).mono ?_
  rintro e w2 ⟨rfl, g2, b2⟩
  go_wp2_with fail
  refine (new25_any _ _).mono ?_
  rintro e w3 ⟨rfl, r3, b3⟩
  have gx : w1.heap.size < w2.heap.size := g2.lt
  have g3 := g2.on b3
  have gW : W.heap.size ≤ w1.heap.size := b1.size
  have bl := below_on (below_on b1 b2) b3
  generalize w1.heap.size = g at *
  generalize w2.heap.size = xb at *
  clear b1 b2 b3 g2 hwd wn
  go_wp2_with fail
  refine (HW.out _ _ _ r3 g3 (by omega)).mono ?_
  rintro e w4 ⟨rfl, r4, b4⟩
  have g4 := g3.bt b4 (by omega)
  have bl4 := b4.bel bl (by omega)
  clear r3 g3 b4 bl HW
  obtain ⟨m, hm⟩ : ∃ m, m = ws.length := ⟨_, rfl⟩
  rw [← hm] at L1 L2 g4 ⊢
  have HMM := Lib.hid hm
  clear hm
  generalize hI : wdI s 0 ws = I at *
  generalize hK : wdK s 0 ws = K at *
  generalize hB : wdB s 0 ws = B at *
  have HI := Lib.hid hI
  have HK := Lib.hid hK
  have HB := Lib.hid hB
  clear hI hK hB
  go_wp2_with fail
  go_loopw [8, 9] (fun vm vi wr => ∃ i M : Nat, i ≤ m ∧ vi = .int .i64 i ∧ vm = .int .i64 M ∧ wr.heap[xb]? = some (scO s K B) ∧ Hid (StrsIn g m ws wr ∧ Below W.heap.size W wr) ∧ Hid (M = mxW s 0 (ws.take i)) ∧ Hid (∀ p, p < i → hitB s 0 (ws.getD p ByteArray.empty) = false)) (fun _ vi _ => m - (intOf vi).toNat)
  case atStart => exact ⟨0, 0, Nat.zero_le _, rfl, rfl, r4, Lib.hid ⟨g4, bl4⟩, Lib.hid rfl, Lib.hid fun p hp => absurd hp (by omega)⟩
  case round =>
    clear r4 g4 bl4
    obtain ⟨i, M, hi, rfl, rfl, r, HG, HM, HA⟩ := hrel
    by_cases hlt : i < m
    · have il : i < ws.length := by rw [← HMM.out]; exact hlt
      have b1 : (0 : Int) ≤ (i : Int) ∧ (i : Int) < (m : Int) := ⟨by omega, by omega⟩
      obtain ⟨wd, hwd⟩ : ∃ wd, wd = ws.getD i ByteArray.empty := ⟨_, rfl⟩
      have HWD := Lib.hid hwd
      have zz : wd.size < 4611686018427387904 := by rw [hwd]; exact SZ.out i il
      have TM := Lib.hid (take_mx s 0 ws il)
      rw [← hwd] at TM
      have HIL := Lib.hid il
      clear hwd il
      go_wp2_with fail
      go_loopw [10] (fun vc wv => ∃ c : Nat, c ≤ wd.size ∧ c ≤ s.size ∧ vc = .int .i64 c ∧ wv.heap[xb]? = some (scO s K B) ∧ Hid (StrsIn g m ws wv ∧ Below W.heap.size W wv) ∧ Hid (∀ j, j < c → 0 + j < s.size ∧ bt s (0 + j) = bt wd j)) (fun vc _ => wd.size - (intOf vc).toNat)
      case atStart => exact ⟨0, Nat.zero_le _, Nat.zero_le _, rfl, r, HG, Lib.hid fun j hj => absurd hj (by omega)⟩
      case round =>
        clear r HG
        obtain ⟨c, hc1, hc2, rfl, r, HG, HC⟩ := hrel
        have cw := HG.out.1.cell i HIL.out
        rw [← HWD.out] at cw
        by_cases q1 : c < wd.size
        · have f1 : decide (c < wd.size) = true := dtrue q1
          by_cases q2 : c < s.size
          · have f2 : decide (c < s.size) = true := dtrue q2
            have x1 := fun u => idx_at25 (S := s) (i := c) (x := (c : Int)) rfl q2 u
            have x2 := fun u => idx_at25 (S := wd) (i := c) (x := (c : Int)) rfl q1 u
            by_cases q3 : bt wd c = bt s c
            · have f3 : (bt wd c == bt s c) = true := beq_iff_eq.2 q3
              have Q3 := Lib.hid q3
              have Q2 := Lib.hid q2
              clear q3
              generalize bt wd c = y at x2 f3
              generalize bt s c = z at x1 f3
              go_wp2_with fail
              go_quiet (fail)
              go_wp2_with fail
              go_roundw
              case rel =>
                refine ⟨c + 1, by omega, by omega, by go_num, row_dn r _, Lib.hid ⟨HG.out.1.on (below_dn (Below.refl _ _) _), below_dn HG.out.2 _⟩, Lib.hid fun j hj => ?_⟩
                by_cases q : j < c
                · exact HC.out j q
                · rw [show j = c by omega, Nat.zero_add]; exact ⟨Q2.out, Q3.out.symm⟩
              case measure => simp [intOf]; omega
            · have f3 : (bt wd c == bt s c) = false := beq_eq_false_iff_ne.2 q3
              have CE := Lib.hid (show cm s 0 wd = c from cm_eq hc1 HC.out (.inr fun g => q3 (by rw [← g.2, Nat.zero_add])))
              have nz1 : (c == wd.size) = false := beq_eq_false_iff_ne.2 (by omega)
              have nz2 : ((c : Int) == (wd.size : Int)) = false := beq_eq_false_iff_ne.2 (by omega)
              clear q3
              generalize bt wd c = y at x2 f3
              generalize bt s c = z at x1 f3
              have hx : (if M < c then (c : Int) else (M : Int)) = ((max M c : Nat) : Int) := by split <;> omega
              have hmx : max M c = mxW s 0 (ws.take (i + 1)) := by rw [TM.out, CE.out, ← HM.out]
              generalize max M c = U at hx hmx
              have HU := Lib.hid hmx
              have NH := Lib.hid (show ∀ p, p < i + 1 → hitB s 0 (ws.getD p ByteArray.empty) = false from fun p hp => by
                by_cases q : p < i
                · exact HA.out p q
                · rw [show p = i by omega, ← HWD.out]; exact decide_eq_false (by rw [CE.out]; omega))
              clear hmx
              go_wp2_with fail
              go_quiet (fail)
              have cw1 : (wr.drewN nq).cell? ⟨g, i, none⟩ = some (.string wd) := cw
              go_wp2_with fail
              go_roundw
              case rel => exact ⟨i + 1, U, by omega, by go_num, rfl, row_dn r _, Lib.hid ⟨HG.out.1.on (below_dn (Below.refl _ _) _), below_dn HG.out.2 _⟩, HU, NH⟩
              case measure => simp [intOf]; omega
          · have f2 : decide (c < s.size) = false := dfalse q2
            have CE := Lib.hid (show cm s 0 wd = c from cm_eq hc1 HC.out (.inr fun g => q2 (by have := g.1; omega)))
            have nz1 : (c == wd.size) = false := beq_eq_false_iff_ne.2 (by omega)
            have nz2 : ((c : Int) == (wd.size : Int)) = false := beq_eq_false_iff_ne.2 (by omega)
            have hx : (if M < c then (c : Int) else (M : Int)) = ((max M c : Nat) : Int) := by split <;> omega
            have hmx : max M c = mxW s 0 (ws.take (i + 1)) := by rw [TM.out, CE.out, ← HM.out]
            generalize max M c = U at hx hmx
            have HU := Lib.hid hmx
            have NH := Lib.hid (show ∀ p, p < i + 1 → hitB s 0 (ws.getD p ByteArray.empty) = false from fun p hp => by
              by_cases q : p < i
              · exact HA.out p q
              · rw [show p = i by omega, ← HWD.out]; exact decide_eq_false (by rw [CE.out]; omega))
            clear hmx
            go_wp2_with fail
            go_quiet (fail)
            have cw1 : (wr.drewN nq).cell? ⟨g, i, none⟩ = some (.string wd) := cw
            go_wp2_with fail
            go_roundw
            case rel => exact ⟨i + 1, U, by omega, by go_num, rfl, row_dn r _, Lib.hid ⟨HG.out.1.on (below_dn (Below.refl _ _) _), below_dn HG.out.2 _⟩, HU, NH⟩
            case measure => simp [intOf]; omega
        · have f1 : decide (c < wd.size) = false := dfalse q1
          have ce : c = wd.size := by omega
          have CE := Lib.hid (show cm s 0 wd = wd.size from cm_eq (Nat.le_refl _) (by rw [← ce]; exact HC.out) (.inl rfl))
          have wf := wd_of_some (wdF_is HIL.out (by rw [← HWD.out]; exact decide_eq_true CE.out) HA.out)
          rw [HI.out, HK.out, HB.out, ← HWD.out, Nat.zero_add] at wf
          obtain ⟨v1, v2, v3⟩ := wf
          subst v1 v2 v3
          have nz1 : (c == wd.size) = true := beq_iff_eq.2 ce
          have nz2 : ((c : Int) == (wd.size : Int)) = true := beq_iff_eq.2 (by omega)
          have cc : ((wd.size : Int) == (c : Int)) = true := beq_iff_eq.2 (by omega)
          have cc2 : (wd.size == c) = true := beq_iff_eq.2 (by omega)
          clear ce
          go_wp2_with fail
          go_quiet (fail)
          have r1 := row_dn r nq
          have bl1 := below_dn HG.out.2 nq
          have cw1 : (wr.drewN nq).cell? ⟨g, i, none⟩ = some (.string wd) := cw
          go_wp2_with fail
          refine (err_ok r1).mono ?_
          rintro e w5 ⟨rfl, b5⟩
          have r5 := row_kept r1 b5
          have bl5 := below_on bl1 b5
          go_wp2_with fail
          refine (off_any r5).mono ?_
          rintro e w6 ⟨rfl, b6⟩
          go_wp2_with fail
          go_ret
          exact ⟨rfl, below_on bl5 b6⟩
    · obtain rfl : i = m := by omega
      have wf := wd_of_none (wdF_is_none (by rw [← HMM.out]; exact HA.out))
      have eM := HM.out
      rw [HMM.out, List.take_length] at eM
      rw [HI.out, HK.out, HB.out, Nat.zero_add, ← eM] at wf
      obtain ⟨v1, v2, v3⟩ := wf
      subst v1 v2 v3
      clear eM
      go_wp2_with fail
      refine (err_bad r).mono ?_
      rintro e w5 ⟨rfl, b5⟩
      have r5 := row_kept r b5
      have bl5 := below_on HG.out.2 b5
      go_wp2_with fail
      refine (off_any r5).mono ?_
      rintro e w6 ⟨rfl, b6⟩
      go_wp2_with fail
      go_ret
      exact ⟨rfl, below_on bl5 b6⟩
theorem l25o_any (s : ByteArray) (n : Int) (n0 : 0 ≤ n) (n1 : n ≤ 255) (W : World) : Calls Tryd.prog 6 #[.string s, .int .u8 n] W fun e w' => e = .returned (.bool true) ∧ Below W.heap.size W w' := by
  by_cases h : 1000 < s.size
  · exact l25o_long s n h W
  · obtain ⟨j, rfl⟩ : ∃ j : Nat, n = (j : Int) := ⟨n.toNat, by omega⟩
    exact l25o_ok s j h (by omega) W
end Go.Proofs.YtlodijncaojifaaDoor
