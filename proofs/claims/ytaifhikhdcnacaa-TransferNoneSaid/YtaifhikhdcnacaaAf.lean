/- The laws TransferEarliest and TransferOrder, given what package transfer must answer. -/
import Derived.Test.YtaifhikhdcnacaaAe
namespace Go.Proofs.Ytaifhikhdcnacaa
open Go.RowKit

set_option maxRecDepth 100000 in
theorem l22e_no (M : TP) (fr : List Bool) (imp : List (List Int)) (vf vi : Value) (W : World) (h1 : BlAt W vf fr) (h2 : LsAt W vi imp) (hf : fewT fr imp = false) : Calls Try.prog 4 #[vf, vi] W fun e w' => e = .returned (.bool true) ∧ Below W.heap.size W w' := by
  have G1 := Lib.hid h1
  have G2 := Lib.hid h2
  have HF := Lib.hid (fun u (q1 : BlAt u vf fr) (q2 : LsAt u vi imp) => show Calls Try.prog 10 #[vf, vi] u fun e w' => e = .returned (.bool false) ∧ u = w' from hf ▸ r22few_any fr imp vf vi u q1 q2)
  clear hf
  clear h1 h2
  go_enter Try.func4, Try.ntmps4
  go_wp2_with fail
  refine (c22awake_any M _).mono ?_
  rintro e w1 ⟨rfl, hb⟩
  have S1 := Lib.hid hb
  clear hb
  go_wp2_with fail
  refine (HF.out _ (G1.out.on S1.out) (G2.out.on S1.out)).mono ?_
  rintro e wq ⟨rfl, rfl⟩
  go_wp2_with fail
  refine (c22awake_any M _).mono ?_
  rintro e w2 ⟨rfl, hb⟩
  have S2 := Lib.hid (below_on S1.out hb)
  clear hb
  go_wp2_with fail
  go_ret
  exact ⟨rfl, S2.out⟩
set_option maxRecDepth 100000 in
theorem l22e_bad (M : TP) (fr : List Bool) (imp : List (List Int)) (vf vi : Value) (W : World) (h1 : BlAt W vf fr) (h2 : LsAt W vi imp) (hf : fewT fr imp = true) (E : Int) (hE : (E != 0) = true) (HA : ∀ u, BlAt u vf fr → LsAt u vi imp → Calls Try.prog 11 #[vf, vi] u (RetA 36 u E [])) : Calls Try.prog 4 #[vf, vi] W fun e w' => e = .returned (.bool true) ∧ Below W.heap.size W w' := by
  have G1 := Lib.hid h1
  have G2 := Lib.hid h2
  have HF := Lib.hid (fun u (q1 : BlAt u vf fr) (q2 : LsAt u vi imp) => show Calls Try.prog 10 #[vf, vi] u fun e w' => e = .returned (.bool true) ∧ u = w' from hf ▸ r22few_any fr imp vf vi u q1 q2)
  clear hf
  have HA := Lib.hid HA
  clear h1 h2
  go_enter Try.func4, Try.ntmps4
  go_wp2_with fail
  refine (c22awake_any M _).mono ?_
  rintro e w1 ⟨rfl, hb⟩
  have S1 := Lib.hid hb
  clear hb
  go_wp2_with fail
  refine (HF.out _ (G1.out.on S1.out) (G2.out.on S1.out)).mono ?_
  rintro e wq ⟨rfl, rfl⟩
  go_wp2_with fail
  refine (HA.out _ (G1.out.on S1.out) (G2.out.on S1.out)).mono ?_
  rintro e w2 ⟨v, rfl, hm, hb⟩
  obtain ⟨A, cap, rfl, hc1, hc2, hcell⟩ := hm.at
  have S2 := Lib.hid (below_on S1.out hb)
  have QC := Lib.hid hcell
  clear hb hm hcell
  clear QC
  go_wp2_with fail
  go_ret
  exact ⟨rfl, S2.out⟩
set_option maxHeartbeats 1000000 in
set_option maxRecDepth 100000 in
theorem l22e_ok (M : TP) (fr : List Bool) (imp : List (List Int)) (vf vi : Value) (W : World) (h1 : BlAt W vf fr) (h2 : LsAt W vi imp) (hf : fewT fr imp = true) (hl : fr.length = imp.length) (ms : List Mv) (L : List Bool) (hI : InvF fr L (jobsF imp imp.length) ms) (HA : ∀ u, BlAt u vf fr → LsAt u vi imp → Calls Try.prog 11 #[vf, vi] u (RetA 36 u 0 ms)) : Calls Try.prog 4 #[vf, vi] W fun e w' => e = .returned (.bool true) ∧ Below W.heap.size W w' := by
  have G1 := Lib.hid h1
  have G2 := Lib.hid h2
  have HF := Lib.hid (fun u (q1 : BlAt u vf fr) (q2 : LsAt u vi imp) => show Calls Try.prog 10 #[vf, vi] u fun e w' => e = .returned (.bool true) ∧ u = w' from hf ▸ r22few_any fr imp vf vi u q1 q2)
  have HA := Lib.hid HA
  obtain ⟨f1, f2, f3, f4⟩ := fewT_iff.1 hf
  have hml : ms.length ≤ 400 := by rw [hI.n, jobs_len imp _ (Nat.le_refl _)]; exact f4
  have HI := Lib.hid hI
  clear hI
  have HL := Lib.hid hl
  clear hf h2 f3 f4 hl
  have HB1 := Lib.hid (fun (j : Nat) (hj : j < fr.length) => show ∃ A c b o, vf = .slice A fr.length c ∧ A = some ⟨b, o, none⟩ ∧ b < W.heap.size ∧ W.cell? ⟨b, o + j, none⟩ = some (.bool (fr.getD j false)) by
    obtain ⟨A, c, e, _, _, h3⟩ := h1
    obtain ⟨b, o, e1, e2, e3⟩ := h3 j hj
    exact ⟨A, c, b, o, e, e1, e2, e3⟩)
  obtain ⟨A1, c1, hvf, -, -, -⟩ := h1
  subst hvf
  go_enter Try.func4, Try.ntmps4
  go_wp2_with fail
  refine (c22awake_any M _).mono ?_
  rintro e w1 ⟨rfl, hb⟩
  have S1 := Lib.hid hb
  clear hb
  go_wp2_with fail
  refine (HF.out _ (G1.out.on S1.out) (G2.out.on S1.out)).mono ?_
  rintro e wq ⟨rfl, rfl⟩
  go_wp2_with fail
  refine (HA.out _ (G1.out.on S1.out) (G2.out.on S1.out)).mono ?_
  rintro e w2 ⟨v, rfl, hm, hb⟩
  obtain ⟨A, cap, rfl, hc1, hc2, hcell⟩ := hm.at
  have S2 := Lib.hid (below_on S1.out hb)
  have QC := Lib.hid hcell
  clear hb hm hcell
  go_wp2_with fail
  go_loopw [7] (fun i wr => ∃ k : Nat, k ≤ ms.length ∧ i = .int .i64 k ∧ Below W.heap.size W wr ∧ Below w2.heap.size w2 wr) (fun i _ => ms.length - (intOf i).toNat)
  case atStart => exact ⟨0, Nat.zero_le _, rfl, S2.out, Below.refl _ _⟩
  case round =>
    obtain ⟨k, hk, rfl, hb, hb2⟩ := hrel
    have QB := Lib.hid hb
    have QB2 := Lib.hid hb2
    clear hb hb2
    by_cases hlt : k < ms.length
    · obtain ⟨m, hm⟩ : ∃ m, ms[k]? = some m := ⟨_, List.getElem?_eq_getElem hlt⟩
      obtain ⟨b, o, rfl, hbl, d1, d2, d3⟩ := QC.out k m hm
      obtain ⟨d, t, q1, q2, q3, q4, q5, q6, q7, q8⟩ := HI.out.one k m hm
      have T1 := Lib.hid (fun u (hu : MvAt u (.slice (some ⟨b, o, none⟩) ms.length cap) ms) => show Calls Try.prog 17 #[.slice (some ⟨b, o, none⟩) ms.length cap, .int .i64 k, .int .i64 t] u fun e w' => e = .returned (.bool false) ∧ u = w' by have := l22tb_any ms _ k t u (by omega) hml hu; rwa [q7] at this)
      have T2 := Lib.hid (fun s (s1 : d < s) (s2 : s < t) (s3 : fr.getD s false = true) u (hu : MvAt u (.slice (some ⟨b, o, none⟩) ms.length cap) ms) => show Calls Try.prog 17 #[.slice (some ⟨b, o, none⟩) ms.length cap, .int .i64 k, .int .i64 s] u fun e w' => e = .returned (.bool true) ∧ u = w' by have := l22tb_any ms _ k s u (by omega) hml hu; rwa [q8 s s1 s2 s3] at this)
      have MU := Lib.hid (show MvAt w2 (.slice (some ⟨b, o, none⟩) ms.length cap) ms from ⟨_, cap, rfl, hc1, hc2, QC.out⟩)
      have z1 := cell_below d1 QB2.out
      have z2 := cell_below d2 QB2.out
      have z3 := cell_below d3 QB2.out
      clear q1 q7 q8 d1 d2 d3 hm
      obtain ⟨f, x2, x3⟩ := m
      dsimp only at *
      subst q2 q3
      obtain ⟨A', c', bf, of, hv, hA, e2, e3⟩ := HB1.out t q5
      obtain ⟨rfl, -, rfl⟩ : A1 = A' ∧ fr.length = fr.length ∧ c1 = c' := by simpa using hv
      subst hA
      clear hv
      rw [q6] at e3
      have BO := Lib.hid ((Below.refl wr.heap.size wr).alloc (Nat.le_refl _) (Obj.cells #[.int .i64 f, .int .i64 d, .int .i64 t] 36))
      have RO := Lib.hid (heap_alloc_new wr (Obj.cells #[.int .i64 f, .int .i64 d, .int .i64 t] 36))
      have y1 : (wr.alloc (Obj.cells #[.int .i64 f, .int .i64 d, .int .i64 t] 36)).cell? ⟨bf, of + t, none⟩ = some (.bool true) := cell_below (cell_below e3 QB.out) BO.out
      have y0 := cell_below e3 QB.out
      have k1 : ¬ (d : Int) < 0 := by omega
      have k1' : decide ((d : Int) < 0) = false := decide_eq_false k1
      have k2 : ¬ t ≤ d := by omega
      have k2' : decide (t ≤ d) = false := decide_eq_false k2
      have k3 : ¬ fr.length ≤ t := by omega
      have k3' : decide (fr.length ≤ t) = false := decide_eq_false k3
      go_wp2_with fail
      generalize hU : wr.alloc (Obj.cells #[.int .i64 f, .int .i64 d, .int .i64 t] 36) = U at *
      clear hU y1 y0 z1 z2 z3 e3 q6
      obtain ⟨r0, r1, r2, g0, g1, g2, rz⟩ := row3 RO.out
      have MV := Lib.hid ((MU.out.on QB2.out).on BO.out)
      have CU := Lib.hid (fun (s : Nat) (hs : s < fr.length) => show U.cell? ⟨bf, of + s, none⟩ = some (.bool (fr.getD s false)) by
        obtain ⟨A', c', b', o', hv, hA, e2, e3⟩ := HB1.out s hs
        obtain ⟨rfl, rfl⟩ : bf = b' ∧ of = o' := by
          obtain ⟨rfl, -, -⟩ : some (⟨bf, of, none⟩ : Addr) = A' ∧ fr.length = fr.length ∧ c1 = c' := by simpa using hv
          simpa using hA
        exact cell_below (cell_below e3 QB.out) BO.out)
      go_loop [9] (fun i => ∃ s : Nat, d + 1 ≤ s ∧ s ≤ t ∧ i = .int .i64 s) (fun i => t - (intOf i).toNat)
      case atStart => exact ⟨d + 1, Nat.le_refl _, by omega, by go_num⟩
      case round =>
        obtain ⟨s, s1, s2, rfl⟩ := hrel
        by_cases hst : s < t
        · have cs := CU.out s (by omega)
          cases hfs : fr.getD s false
          · rw [hfs] at cs
            clear hfs
            go_wp2_with fail
            go_round
            case rel => exact ⟨s + 1, by omega, by omega, by go_num⟩
            case measure => simp [intOf]; omega
          · rw [hfs] at cs
            have HT := Lib.hid (T2.out s (by omega) hst hfs)
            clear hfs
            go_wp2_with fail
            refine (HT.out _ MV.out).mono ?_
            rintro e wq ⟨rfl, rfl⟩
            go_wp2_with fail
            go_round
            case rel => exact ⟨s + 1, by omega, by omega, by go_num⟩
            case measure => simp [intOf]; omega
        · obtain rfl : s = t := by omega
          go_wp2_with fail
          refine (T1.out _ MV.out).mono ?_
          rintro e wq ⟨rfl, rfl⟩
          go_wp2_with fail
          go_roundw
          case rel => exact ⟨k + 1, by omega, by go_num, below_on QB.out BO.out, below_on QB2.out BO.out⟩
          case measure => simp [intOf]; omega
    · obtain rfl : k = ms.length := by omega
      go_wp2_with fail
      go_ret
      exact ⟨rfl, QB.out⟩
theorem l22e_any (M : TP) (fr : List Bool) (imp : List (List Int)) (vf vi : Value) (W : World) (h1 : BlAt W vf fr) (h2 : LsAt W vi imp) : Calls Try.prog 4 #[vf, vi] W fun e w' => e = .returned (.bool true) ∧ Below W.heap.size W w' := by
  cases hf : fewT fr imp
  · exact l22e_no M fr imp vf vi W h1 h2 hf
  · rcases as_cases fr imp with ⟨e, hl, L, hr⟩ | ⟨e, e', _⟩ | ⟨e, e', _⟩
    · exact l22e_ok M fr imp vf vi W h1 h2 hf hl (asM fr imp) L (run_inv fr _ _ rfl L _ hr) (fun u q1 q2 => by have := M.asg fr imp vf vi u q1 q2 hf; rwa [e] at this)
    · exact l22e_bad M fr imp vf vi W h1 h2 hf 3 (by decide) (fun u q1 q2 => by have := M.asg fr imp vf vi u q1 q2 hf; rwa [e, e'] at this)
    · exact l22e_bad M fr imp vf vi W h1 h2 hf 5 (by decide) (fun u q1 q2 => by have := M.asg fr imp vf vi u q1 q2 hf; rwa [e, e'] at this)
set_option maxRecDepth 100000 in
theorem l22o_no (M : TP) (fr : List Bool) (imp : List (List Int)) (vf vi : Value) (W : World) (h1 : BlAt W vf fr) (h2 : LsAt W vi imp) (hf : fewT fr imp = false) : Calls Try.prog 5 #[vf, vi] W fun e w' => e = .returned (.bool true) ∧ Below W.heap.size W w' := by
  have G1 := Lib.hid h1
  have G2 := Lib.hid h2
  have HF := Lib.hid (fun u (q1 : BlAt u vf fr) (q2 : LsAt u vi imp) => show Calls Try.prog 10 #[vf, vi] u fun e w' => e = .returned (.bool false) ∧ u = w' from hf ▸ r22few_any fr imp vf vi u q1 q2)
  clear hf
  clear h1 h2
  go_enter Try.func5, Try.ntmps5
  go_wp2_with fail
  refine (c22awake_any M _).mono ?_
  rintro e w1 ⟨rfl, hb⟩
  have S1 := Lib.hid hb
  clear hb
  go_wp2_with fail
  refine (HF.out _ (G1.out.on S1.out) (G2.out.on S1.out)).mono ?_
  rintro e wq ⟨rfl, rfl⟩
  go_wp2_with fail
  refine (c22awake_any M _).mono ?_
  rintro e w2 ⟨rfl, hb⟩
  have S2 := Lib.hid (below_on S1.out hb)
  clear hb
  go_wp2_with fail
  go_ret
  exact ⟨rfl, S2.out⟩
set_option maxRecDepth 100000 in
theorem l22o_bad (M : TP) (fr : List Bool) (imp : List (List Int)) (vf vi : Value) (W : World) (h1 : BlAt W vf fr) (h2 : LsAt W vi imp) (hf : fewT fr imp = true) (E : Int) (hE : (E != 0) = true) (HA : ∀ u, BlAt u vf fr → LsAt u vi imp → Calls Try.prog 11 #[vf, vi] u (RetA 36 u E [])) : Calls Try.prog 5 #[vf, vi] W fun e w' => e = .returned (.bool true) ∧ Below W.heap.size W w' := by
  have G1 := Lib.hid h1
  have G2 := Lib.hid h2
  have HF := Lib.hid (fun u (q1 : BlAt u vf fr) (q2 : LsAt u vi imp) => show Calls Try.prog 10 #[vf, vi] u fun e w' => e = .returned (.bool true) ∧ u = w' from hf ▸ r22few_any fr imp vf vi u q1 q2)
  clear hf
  have HA := Lib.hid HA
  clear h1 h2
  go_enter Try.func5, Try.ntmps5
  go_wp2_with fail
  refine (c22awake_any M _).mono ?_
  rintro e w1 ⟨rfl, hb⟩
  have S1 := Lib.hid hb
  clear hb
  go_wp2_with fail
  refine (HF.out _ (G1.out.on S1.out) (G2.out.on S1.out)).mono ?_
  rintro e wq ⟨rfl, rfl⟩
  go_wp2_with fail
  refine (HA.out _ (G1.out.on S1.out) (G2.out.on S1.out)).mono ?_
  rintro e w2 ⟨v, rfl, hm, hb⟩
  obtain ⟨A, cap, rfl, hc1, hc2, hcell⟩ := hm.at
  have S2 := Lib.hid (below_on S1.out hb)
  have QC := Lib.hid hcell
  clear hb hm hcell
  clear QC
  go_wp2_with fail
  go_ret
  exact ⟨rfl, S2.out⟩
set_option maxHeartbeats 1000000 in
set_option maxRecDepth 100000 in
theorem l22o_ok (M : TP) (fr : List Bool) (imp : List (List Int)) (vf vi : Value) (W : World) (h1 : BlAt W vf fr) (h2 : LsAt W vi imp) (hf : fewT fr imp = true) (hl : fr.length = imp.length) (ms : List Mv) (L : List Bool) (hI : InvF fr L (jobsF imp imp.length) ms) (HA : ∀ u, BlAt u vf fr → LsAt u vi imp → Calls Try.prog 11 #[vf, vi] u (RetA 36 u 0 ms)) : Calls Try.prog 5 #[vf, vi] W fun e w' => e = .returned (.bool true) ∧ Below W.heap.size W w' := by
  have G1 := Lib.hid h1
  have G2 := Lib.hid h2
  have HF := Lib.hid (fun u (q1 : BlAt u vf fr) (q2 : LsAt u vi imp) => show Calls Try.prog 10 #[vf, vi] u fun e w' => e = .returned (.bool true) ∧ u = w' from hf ▸ r22few_any fr imp vf vi u q1 q2)
  have HA := Lib.hid HA
  obtain ⟨f1, f2, f3, f4⟩ := fewT_iff.1 hf
  have hml : ms.length ≤ 400 := by rw [hI.n, jobs_len imp _ (Nat.le_refl _)]; exact f4
  have HI := Lib.hid hI
  clear hI
  have H100 := Lib.hid (fun d (hd : d < imp.length) => f3 (imp.getD d []) (by rw [List.getD_eq_getElem?_getD, List.getElem?_eq_getElem hd]; exact List.getElem_mem hd))
  obtain ⟨A2, c2, hvi, hday⟩ := h2.day
  have HDy := Lib.hid hday
  subst hvi
  clear hf h1 h2 hday f3
  go_enter Try.func5, Try.ntmps5
  go_wp2_with fail
  refine (c22awake_any M _).mono ?_
  rintro e w1 ⟨rfl, hb⟩
  have S1 := Lib.hid hb
  clear hb
  go_wp2_with fail
  refine (HF.out _ (G1.out.on S1.out) (G2.out.on S1.out)).mono ?_
  rintro e wq ⟨rfl, rfl⟩
  go_wp2_with fail
  refine (HA.out _ (G1.out.on S1.out) (G2.out.on S1.out)).mono ?_
  rintro e w2 ⟨v, rfl, hm, hb⟩
  obtain ⟨A, cap, rfl, hc1, hc2, hcell⟩ := hm.at
  have S2 := Lib.hid (below_on S1.out hb)
  have QC := Lib.hid hcell
  clear hb hm hcell
  go_wp2_with fail
  go_loopw [7, 8] (fun q i wr => ∃ day : Nat, day ≤ imp.length ∧ i = .int .i64 day ∧ q = .int .i64 (sumF imp day) ∧ Below W.heap.size W wr ∧ Below w2.heap.size w2 wr) (fun _ i _ => imp.length - (intOf i).toNat)
  case atStart => exact ⟨0, Nat.zero_le _, rfl, rfl, S2.out, Below.refl _ _⟩
  case round =>
    obtain ⟨day, hd, rfl, rfl, hb, hb2⟩ := hrel
    have QB := Lib.hid hb
    have QB2 := Lib.hid hb2
    clear hb hb2
    by_cases hlt : day < imp.length
    · obtain ⟨b, o, A3, c3, rfl, e2, e3, p2, h5⟩ := HDy.out day hlt
      have E3 := Lib.hid e3
      have H5 := Lib.hid h5
      have hq := H100.out day hlt
      have hsd := sumF_succ hlt
      have hsm := sumF_mono (show day + 1 ≤ imp.length by omega) (Nat.le_refl _)
      have HSd := Lib.hid hsd
      have JA := Lib.hid (fun (i : Nat) (f : Int) (h : (imp.getD day [])[i]? = some f) => jobs_at hlt h)
      clear h5 e3
      obtain ⟨X, hX⟩ : ∃ X, imp.getD day [] = X := ⟨_, rfl⟩
      rw [hX] at E3 p2 H5 hq HSd hsd JA
      clear hX
      generalize hs0 : sumF imp day = s0 at *
      have HS0 := Lib.hid hs0
      clear hs0
      have hc0 : wr.cell? ⟨b, o + day, none⟩ = some (.slice A3 X.length c3) := cell_below E3.out QB.out
      have hs4 : s0 + X.length ≤ 400 := by omega
      clear hsd hsm
      go_wp2_with fail
      go_loopw [7, 9] (fun q i wr => ∃ k n : Nat, k ≤ X.length ∧ i = .int .i64 k ∧ n = s0 + k ∧ q = .int .i64 n ∧ Below W.heap.size W wr ∧ Below w2.heap.size w2 wr) (fun _ i _ => X.length - (intOf i).toNat)
      case atStart => exact ⟨0, s0, Nat.zero_le _, rfl, rfl, rfl, QB.out, QB2.out⟩
      case round =>
        clear hc0 QB QB2
        obtain ⟨k, n, hk, rfl, hnk, rfl, hb, hb2⟩ := hrel
        have QB := Lib.hid hb
        have QB2 := Lib.hid hb2
        have HNK := Lib.hid hnk
        clear hb hb2
        have hc0 : wr.cell? ⟨b, o + day, none⟩ = some (.slice A3 X.length c3) := cell_below E3.out QB.out
        by_cases hlk : k < X.length
        · obtain ⟨f, hf⟩ : ∃ f, X[k]? = some f := ⟨_, List.getElem?_eq_getElem hlk⟩
          obtain ⟨b3, o3, rfl, e5, e6⟩ := H5.out k f hf
          have hj := JA.out k f hf
          rw [← hnk] at hj
          have hkm : n < ms.length := by
            have := (List.getElem?_eq_some_iff.1 hj).1
            rw [HI.out.n]; exact this
          obtain ⟨m, hm⟩ : ∃ m, ms[n]? = some m := ⟨_, List.getElem?_eq_getElem hkm⟩
          obtain ⟨d, t, q1, q2, -⟩ := HI.out.one (n) m hm
          rw [hj] at q1
          obtain ⟨b4, o4, rfl, hbl, d1, d2, d3⟩ := QC.out (n) m hm
          have z1 := cell_below d1 QB2.out
          have z2 := cell_below d2 QB2.out
          have z4 := cell_below e6 QB.out
          obtain ⟨x1, x2, x3⟩ := m
          dsimp only at *
          obtain ⟨rfl, rfl⟩ : day = d ∧ f = x1 := by simpa using q1
          subst q2
          have k1 : ¬ ms.length ≤ n := by omega
          have k2 : decide (ms.length ≤ n) = false := decide_eq_false k1
          have k3 : decide ((ms.length : Int) ≤ n) = false := decide_eq_false (by omega)
          clear hnk q1 hj d1 d2 d3 hm hf e6
          go_wp2_with fail
          go_quiet (fail)
          go_wp2_with fail
          go_roundw
          case rel => exact ⟨k + 1, n + 1, by omega, by go_num, by have := HNK.out; omega, by go_num, below_dn QB.out _, below_dn QB2.out _⟩
          case measure => simp [intOf]; omega
        · obtain rfl : k = X.length := by omega
          go_wp2_with fail
          go_roundw
          case rel => exact ⟨day + 1, by omega, by go_num, by rw [HSd.out, HNK.out], QB.out, QB2.out⟩
          case measure => simp [intOf]; omega
    · obtain rfl : day = imp.length := by omega
      have hn : ms.length = sumF imp imp.length := by rw [HI.out.n, jobs_len imp _ (Nat.le_refl _)]
      have HN := Lib.hid hn
      have k2 : ((sumF imp imp.length : Int) == (ms.length : Int)) = true := by rw [hn]; exact beq_self_eq_true _
      clear hn
      go_wp2_with fail
      go_ret
      exact ⟨rfl, QB.out⟩
theorem l22o_any (M : TP) (fr : List Bool) (imp : List (List Int)) (vf vi : Value) (W : World) (h1 : BlAt W vf fr) (h2 : LsAt W vi imp) : Calls Try.prog 5 #[vf, vi] W fun e w' => e = .returned (.bool true) ∧ Below W.heap.size W w' := by
  cases hf : fewT fr imp
  · exact l22o_no M fr imp vf vi W h1 h2 hf
  · rcases as_cases fr imp with ⟨e, hl, L, hr⟩ | ⟨e, e', _⟩ | ⟨e, e', _⟩
    · exact l22o_ok M fr imp vf vi W h1 h2 hf hl (asM fr imp) L (run_inv fr _ _ rfl L _ hr) (fun u q1 q2 => by have := M.asg fr imp vf vi u q1 q2 hf; rwa [e] at this)
    · exact l22o_bad M fr imp vf vi W h1 h2 hf 3 (by decide) (fun u q1 q2 => by have := M.asg fr imp vf vi u q1 q2 hf; rwa [e, e'] at this)
    · exact l22o_bad M fr imp vf vi W h1 h2 hf 5 (by decide) (fun u q1 q2 => by have := M.asg fr imp vf vi u q1 q2 hf; rwa [e, e'] at this)
end Go.Proofs.Ytaifhikhdcnacaa
