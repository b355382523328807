/- The laws TransferNone and TransferMonotone, given what package transfer must answer. -/
import Derived.Test.YtaifhikhdcnacaaAf
namespace Go.Proofs.Ytaifhikhdcnacaa
open Go.RowKit

abbrev repF (n : Nat) : List (List Int) := List.replicate n []
theorem rep_get (n d : Nat) : (repF n).getD d [] = [] := by
  rw [List.getD_eq_getElem?_getD, List.getElem?_replicate]
  split <;> rfl
theorem jobs_rep (n : Nat) : ∀ m, jobsF (repF n) m = []
  | 0 => rfl
  | m + 1 => by rw [jobsF_succ, jobs_rep n m]; unfold dayF; rw [rep_get]; rfl
theorem as_rep (fr : List Bool) : asE fr (repF fr.length) = 0 ∧ asM fr (repF fr.length) = [] :=
  as_yes (L := fr) (by simp) (by rw [jobs_rep]; rfl)
theorem lst_rep (n : Nat) : ∀ m, lstF (repF n) m = 0
  | 0 => rfl
  | m + 1 => by unfold lstF; rw [rep_get, if_pos (show ([] : List Int).length = 0 from rfl)]; exact lst_rep n m
theorem room_rep (fr : List Bool) : roomF fr (repF fr.length) = cntF fr [] 0 fr.length := by
  unfold roomF
  rw [if_pos (as_rep fr).1, (as_rep fr).2, lst_rep]
theorem sum_rep (n : Nat) : ∀ m, m ≤ n → sumF (repF n) m = 0
  | 0, _ => rfl
  | m + 1, h => by rw [sumF_succ (by rw [List.length_replicate]; omega), rep_get, sum_rep n m (by omega)]; rfl
theorem few_rep {fr : List Bool} (h : fr.length ≤ 400) : fewT fr (repF fr.length) = true := by
  refine fewT_iff.2 ⟨h, by simpa using h, fun l hl => ?_, ?_⟩
  · rw [List.eq_of_mem_replicate hl]; exact Nat.zero_le _
  · rw [List.length_replicate, sum_rep _ _ (Nat.le_refl _)]; exact Nat.zero_le _
theorem infoInts : (Try.prog.info? 40).map (fun i => (i.zero, i.size, i.bytes)) = some (some (.slice none 0 0), 1, 24) := by kernel_rfl
theorem in_nil (W : World) : InAt W (.slice none 0 0) [] := SlV.nil W _
/-- A slice of n nil slices that make gives. -/
theorem make_rep (w : World) (n : Nat) (hn : n ≤ 400) : ∃ w', (Instr.makeSlice 23 (.int .i64 n) (.int .i64 n)).run Try.prog w = .ok (.slice (some ⟨w.heap.size, 0, none⟩) n n) w' ∧ LsAt w' (.slice (some ⟨w.heap.size, 0, none⟩) n n) (repF n) ∧ Below w.heap.size w w' := by
  obtain ⟨i0, hi, hz0, hz1, hz2⟩ := info_parts infoInts
  obtain ⟨w', hrun, r1, r2⟩ := run_make_full (P := Try.prog) w w.heap.size 23 40 i0 (.slice none 0 0) 1 Try.underlying23 hi hz0 hz1 .i64 .i64 n (by rw [hz2]; omega) (by unfold maxLen; omega) (Nat.le_refl _)
  rw [show (Value.slice none 0 0).cells = #[Value.slice none 0 0] from rfl, Nat.mul_one, toList_madeCells_one] at r1
  have hs := own_at r1 (by simp) (.slice none 0 0)
  refine ⟨w', hrun, ⟨_, (by simpa [repF] using hs), fun i hi => ?_⟩, (Below.refl _ _).grown r2 (Nat.le_refl _) (fun _ e => by cases e)⟩
  rw [rep_get]
  rw [show (List.replicate n (Value.slice none 0 0))[i]?.getD (.slice none 0 0) = .slice none 0 0 by rw [List.getElem?_replicate]; split <;> rfl]
  exact in_nil w'
set_option maxRecDepth 100000 in
theorem l22n_long (M : TP) (fr : List Bool) (vf : Value) (W : World) (h1 : BlAt W vf fr) (hf : 400 < fr.length) : Calls Try.prog 8 #[vf] W fun e w' => e = .returned (.bool true) ∧ Below W.heap.size W w' := by
  obtain ⟨A1, c1, rfl, -, -, -⟩ := h1
  have k1 : decide ((400 : Int) < fr.length) = true := decide_eq_true (by omega)
  clear hf
  go_enter Try.func8, Try.ntmps8
  go_wp2_with fail
  refine (c22awake_any M _).mono ?_
  rintro e w1 ⟨rfl, hb⟩
  have S1 := Lib.hid hb
  clear hb
  go_wp2_with fail
  refine (c22awake_any M _).mono ?_
  rintro e w2 ⟨rfl, hb⟩
  have S2 := Lib.hid (below_on S1.out hb)
  clear hb
  go_wp2_with fail
  go_ret
  exact ⟨rfl, S2.out⟩
set_option maxHeartbeats 1000000 in
set_option maxRecDepth 100000 in
theorem l22n_ok (M : TP) (fr : List Bool) (vf : Value) (W : World) (h1 : BlAt W vf fr) (hf : fr.length ≤ 400) : Calls Try.prog 8 #[vf] W fun e w' => e = .returned (.bool true) ∧ Below W.heap.size W w' := by
  have HA := Lib.hid (fun vi u (q1 : BlAt u vf fr) (q2 : LsAt u vi (repF fr.length)) => show Calls Try.prog 11 #[vf, vi] u (RetA 36 u 0 []) by have := M.asg fr _ vf vi u q1 q2 (few_rep hf); rwa [(as_rep fr).1, (as_rep fr).2] at this)
  have HR := Lib.hid (fun vi u (q1 : BlAt u vf fr) (q2 : LsAt u vi (repF fr.length)) => show Calls Try.prog 16 #[vf, vi] u fun e w' => e = .returned (.int .i64 (cntF fr [] 0 fr.length)) ∧ Below u.heap.size u w' by have := M.rm fr _ vf vi u q1 q2 (few_rep hf); rwa [room_rep] at this)
  have G1 := Lib.hid h1
  have HM := Lib.hid (fun u => make_rep u fr.length hf)
  have HB1 := Lib.hid (fun (j : Nat) (hj : j < fr.length) => show ∃ A c b o, vf = .slice A fr.length c ∧ A = some ⟨b, o, none⟩ ∧ b < W.heap.size ∧ W.cell? ⟨b, o + j, none⟩ = some (.bool (fr.getD j false)) by
    obtain ⟨A, c, e, _, _, h3⟩ := h1
    obtain ⟨b, o, e1, e2, e3⟩ := h3 j hj
    exact ⟨A, c, b, o, e, e1, e2, e3⟩)
  obtain ⟨A1, c1, hvf, -, -, -⟩ := h1
  subst hvf
  have k1 : decide ((400 : Int) < fr.length) = false := decide_eq_false (by omega)
  have hC := Lib.hid (fun k => cntF_succ fr [] (Nat.zero_le k))
  have hC0 := Lib.hid (fun k => show cntF fr [] 0 k ≤ k by unfold cntF; refine Nat.le_trans (List.length_filter_le _ _) ?_; simp)
  generalize hn : fr.length = n at *
  have HN := Lib.hid hn
  clear hn
  go_enter Try.func8, Try.ntmps8
  go_wp2_with fail
  refine (c22awake_any M _).mono ?_
  rintro e w1 ⟨rfl, hb⟩
  have S1 := Lib.hid hb
  clear hb
  go_wp2_with fail
  go_loop [3, 4] (fun q i => ∃ k : Nat, k ≤ n ∧ i = .int .i64 k ∧ q = .int .i64 (cntF fr [] 0 k)) (fun _ i => n - (intOf i).toNat)
  case atStart => exact ⟨0, Nat.zero_le _, rfl, rfl⟩
  case round =>
    obtain ⟨k, hk, rfl, rfl⟩ := hrel
    by_cases hlt : k < n
    · obtain ⟨A', c', b, o, hv, hA, e2, e3⟩ := HB1.out k hlt
      obtain ⟨rfl, -, rfl⟩ : A1 = A' ∧ n = n ∧ c1 = c' := by simpa using hv
      subst hA
      clear hv
      have cs := cell_below e3 S1.out
      have hck := hC.out k
      have hcb := hC0.out k
      have HCk := Lib.hid hck
      clear hck
      generalize cntF fr [] 0 k = q at *
      cases hfk : fr.getD k false
      · rw [hfk] at cs e3
        have HX : Hid (cntF fr [] 0 (k + 1) = q) := Lib.hid (by rw [HCk.out, hfk, if_neg (fun h => by cases h.1)]; rfl)
        clear hfk e3
        go_wp2_with fail
        go_round
        case rel => exact ⟨k + 1, by omega, by go_num, by rw [HX.out]⟩
        case measure => simp [intOf]; omega
      · rw [hfk] at cs e3
        have HX : Hid (cntF fr [] 0 (k + 1) = q + 1) := Lib.hid (by rw [HCk.out, hfk, if_pos ⟨rfl, rfl⟩])
        clear hfk e3
        go_wp2_with fail
        go_round
        case rel => exact ⟨k + 1, by omega, by go_num, by rw [HX.out]; go_num⟩
        case measure => simp [intOf]; omega
    · obtain rfl : k = n := by omega
      obtain ⟨u1, hrun1, L1, b1⟩ := HM.out w1
      have L1' := Lib.hid L1
      have N1 := Lib.hid (below_on S1.out b1)
      clear L1 b1
      generalize cntF fr [] 0 k = q at *
      go_wp2_with fail
      refine (HA.out _ _ (G1.out.on N1.out) L1'.out).mono ?_
      rintro e w2 ⟨v, rfl, hm, hb⟩
      obtain ⟨A, cap, rfl, -, -, -⟩ := hm.at
      have S2 := Lib.hid (below_on N1.out hb)
      clear hb hm hrun1
      obtain ⟨u2, hrun2, L2, b2⟩ := HM.out w2
      have L2' := Lib.hid L2
      have N2 := Lib.hid (below_on S2.out b2)
      clear L2 b2
      go_wp2_with fail
      refine (HR.out _ _ (G1.out.on N2.out) L2'.out).mono ?_
      rintro e w3 ⟨rfl, hb⟩
      have S3 := Lib.hid (below_on N2.out hb)
      clear hb
      go_wp2_with fail
      go_ret
      exact ⟨rfl, S3.out⟩
theorem l22n_any (M : TP) (fr : List Bool) (vf : Value) (W : World) (h1 : BlAt W vf fr) : Calls Try.prog 8 #[vf] W fun e w' => e = .returned (.bool true) ∧ Below W.heap.size W w' := by
  rcases Nat.lt_or_ge 400 fr.length with h | h
  · exact l22n_long M fr vf W h1 h
  · exact l22n_ok M fr vf W h1 h
end Go.Proofs.Ytaifhikhdcnacaa
