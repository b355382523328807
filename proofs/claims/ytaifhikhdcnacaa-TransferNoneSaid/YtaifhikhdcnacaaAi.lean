/- The law TransferMatchesReference, given what package transfer must answer. -/
import Derived.Test.YtaifhikhdcnacaaAh
namespace Go.Proofs.Ytaifhikhdcnacaa
open Go.RowKit

/-- Is none of the moves to a day, or which is the first one? -/
theorem first_mv (ms : List Mv) (day : Int) : (∀ (j : Nat) (u : Mv), ms[j]? = some u → u.2.2 ≠ day) ∨ ∃ (K : Nat) (m : Mv), ms[K]? = some m ∧ m.2.2 = day ∧ ∀ (j : Nat) (u : Mv), j < K → ms[j]? = some u → u.2.2 ≠ day := by
  induction ms with
  | nil => exact .inl fun j u h => by simp at h
  | cons a ms ih =>
    by_cases ha : a.2.2 = day
    · exact .inr ⟨0, a, rfl, ha, fun j u h => by omega⟩
    · rcases ih with h | ⟨K, m, h1, h2, h3⟩
      · exact .inl fun j u hj => by
          cases j with
          | zero => obtain rfl : a = u := by simpa using hj
                    exact ha
          | succ j => exact h j u (by simpa using hj)
      · refine .inr ⟨K + 1, m, by simpa using h1, h2, fun j u hj hu => ?_⟩
        cases j with
        | zero => obtain rfl : a = u := by simpa using hu
                  exact ha
        | succ j => exact h3 j u (by omega) (by simpa using hu)
theorem cnt_hits {fr L : List Bool} {js : List (Nat × Int)} {ms : List Mv} (h : InvF fr L js ms) {a t : Nat} (ht : a ≤ t) : (cntF fr ms a (t + 1) : Int) = cntF fr ms a t + (if fr.getD t false = true then 1 else 0) - hits ms t ms.length := by
  rw [cntF_succ fr ms ht, hits_tkn h t ms.length (Nat.le_refl _), List.take_length]
  cases hk : tkn ms t
  · cases hf : fr.getD t false <;> simp
  · rw [hits_free h hk]; simp
theorem hits_le (ms : List Mv) (t : Int) (k : Nat) : hits ms t k ≤ k := by
  unfold hits
  refine Nat.le_trans (List.length_filter_le _ _) ?_
  rw [List.length_take]; exact Nat.min_le_left _ _
theorem cntF_le (fr : List Bool) (ms : List Mv) (a b : Nat) : cntF fr ms a b ≤ b := by
  unfold cntF
  refine Nat.le_trans (List.length_filter_le _ _) ?_
  rw [List.length_range']; omega
theorem neq_mvm (m : Mv) (u : World) : (binOp .neq 36 (mvv m) (mvv m)).run Try.prog u = .ok (.bool false) u := by simp [go_sem]
set_option maxRecDepth 100000 in
theorem l22x_no (M : TP) (fr : List Bool) (imp : List (List Int)) (vf vi : Value) (day : Int) (W : World) (h1 : BlAt W vf fr) (h2 : LsAt W vi imp) (hf : fewT fr imp = false) : Calls Try.prog 3 #[vf, vi, .int .i64 day] W fun e w' => e = .returned (.bool true) ∧ Below W.heap.size W w' := by
  have G1 := Lib.hid h1
  have G2 := Lib.hid h2
  have HF := Lib.hid (fun u (q1 : BlAt u vf fr) (q2 : LsAt u vi imp) => show Calls Try.prog 10 #[vf, vi] u fun e w' => e = .returned (.bool false) ∧ u = w' from hf ▸ r22few_any fr imp vf vi u q1 q2)
  clear hf
  clear h1 h2
  go_enter Try.func3, Try.ntmps3
  go_wp2_with fail
  refine (c22awake_any M _).mono ?_
  rintro e w1 ⟨rfl, hb⟩
  have S1 := Lib.hid hb
  clear hb
  go_wp2_with fail
  refine (HF.out _ (G1.out.on S1.out) (G2.out.on S1.out)).mono ?_
  rintro e wq ⟨rfl, rfl⟩
  go_wp2_with fail
  refine (c22awake_any M _).mono ?_
  rintro e w2 ⟨rfl, hb⟩
  have S2 := Lib.hid (below_on S1.out hb)
  clear hb
  go_wp2_with fail
  go_ret
  exact ⟨rfl, S2.out⟩
set_option maxHeartbeats 4000000 in
set_option maxRecDepth 100000 in
theorem l22x_a (M : TP) (fr : List Bool) (imp : List (List Int)) (vf vi : Value) (day : Int) (W : World) (h1 : BlAt W vf fr) (h2 : LsAt W vi imp) (hf : fewT fr imp = true) (ms : List Mv) (hml : ms.length ≤ 400) (hl : fr.length = imp.length) (L : List Bool) (hI : InvF fr L (jobsF imp imp.length) ms) (hno : ∀ (j : Nat) (u : Mv), ms[j]? = some u → u.2.2 ≠ day)
    (HA : ∀ u, BlAt u vf fr → LsAt u vi imp → Calls Try.prog 11 #[vf, vi] u (RetA 36 u 0 ms))
    (HR : ∀ u, BlAt u vf fr → LsAt u vi imp → Calls Try.prog 12 #[vf, vi] u (RetA 39 u 0 ms))
    (HO : ∀ u, BlAt u vf fr → LsAt u vi imp → Calls Try.prog 16 #[vf, vi] u fun e w' => e = .returned (.int .i64 (cntF fr ms (lstF imp imp.length) fr.length : Nat)) ∧ Below u.heap.size u w')
    (HT : ∀ v u, MvAt u v ms → Calls Try.prog 15 #[v, .int .i64 day] u fun e w' => e = .returned (.tuple #[mvv (0, 0, 0), .bool false]) ∧ Below u.heap.size u w') : Calls Try.prog 3 #[vf, vi, .int .i64 day] W fun e w' => e = .returned (.bool true) ∧ Below W.heap.size W w' := by
  have HLen := Lib.hid hl
  have HI := Lib.hid hI
  have HNo := Lib.hid hno
  clear hl hI hno
  obtain ⟨f1, f2, f3, f4⟩ := fewT_iff.1 hf
  clear f3 f4
  have G1 := Lib.hid h1
  have G2 := Lib.hid h2
  have HF := Lib.hid (fun u (q1 : BlAt u vf fr) (q2 : LsAt u vi imp) => show Calls Try.prog 10 #[vf, vi] u fun e w' => e = .returned (.bool true) ∧ u = w' from hf ▸ r22few_any fr imp vf vi u q1 q2)
  clear hf
  have HA := Lib.hid HA
  have HR := Lib.hid HR
  have HO := Lib.hid HO
  have HT := Lib.hid HT
  have hNE := neq_mvm
  have HB1 := Lib.hid (fun (j : Nat) (hj : j < fr.length) => show ∃ A c b o, vf = .slice A fr.length c ∧ A = some ⟨b, o, none⟩ ∧ b < W.heap.size ∧ W.cell? ⟨b, o + j, none⟩ = some (.bool (fr.getD j false)) by
    obtain ⟨A, c, e, _, _, h3⟩ := h1
    obtain ⟨b, o, e1, e2, e3⟩ := h3 j hj
    exact ⟨A, c, b, o, e, e1, e2, e3⟩)
  obtain ⟨A1, c1, hvf, -, -, -⟩ := h1
  subst hvf
  obtain ⟨A2, c2, hvi, hday⟩ := h2.day
  have HDy := Lib.hid hday
  subst hvi
  clear h2 hday
  go_enter Try.func3, Try.ntmps3
  go_wp2_with fail
  refine (c22awake_any M _).mono ?_
  rintro e w1 ⟨rfl, hb⟩
  have S1 := Lib.hid hb
  clear hb
  go_wp2_with fail
  refine (HF.out _ (G1.out.on S1.out) (G2.out.on S1.out)).mono ?_
  rintro e wq ⟨rfl, rfl⟩
  go_wp2_with fail
  refine (HA.out _ (G1.out.on S1.out) (G2.out.on S1.out)).mono ?_
  rintro e w2 ⟨v1, rfl, hm, hb⟩
  have S2 := Lib.hid (below_on S1.out hb)
  have M2 := Lib.hid hm.at
  clear hb hm
  go_wp2_with fail
  refine (HR.out _ (G1.out.on S2.out) (G2.out.on S2.out)).mono ?_
  rintro e w3 ⟨v2, rfl, hm, hb⟩
  have S3 := Lib.hid (below_on S2.out hb)
  have M3 := Lib.hid (M2.out.on hb)
  have R3 := Lib.hid hm.at
  clear hb hm
  go_wp2_with fail
  refine (l22mv_any v1 ms w3 hml M3.out).mono ?_
  rintro e w4 ⟨v3, rfl, hm, hb⟩
  have S4 := Lib.hid (below_on S3.out hb)
  have M4 := Lib.hid (M3.out.on hb)
  have R4 := Lib.hid (R3.out.on hb)
  have C4 := Lib.hid hm.at
  clear hb hm
  go_wp2_with fail
  refine (r22same_eq v3 v2 ms w4 hml C4.out R4.out).mono ?_
  rintro e w5 ⟨rfl, hb⟩
  have S5 := Lib.hid (below_on S4.out hb)
  have M5 := Lib.hid (M4.out.on hb)
  have R5 := Lib.hid (R4.out.on hb)
  clear hb
  go_wp2_with fail
  refine (HT.out v1 w5 M5.out).mono ?_
  rintro e w6 ⟨rfl, hb⟩
  have S6 := Lib.hid (below_on S5.out hb)
  have R6 := Lib.hid (R5.out.on hb)
  clear hb
  obtain ⟨A, cap, rfl, -, -, hcell⟩ := R6.out
  have QC := Lib.hid hcell
  clear hcell
  have RO := Lib.hid (heap_alloc_new w6 (Obj.cells #[.int .i64 0, .int .i64 0, .int .i64 0] 36))
  have BO := Lib.hid ((Below.refl w6.heap.size w6).alloc (Nat.le_refl _) (Obj.cells #[.int .i64 0, .int .i64 0, .int .i64 0] 36))
  go_wp2_with fail
  generalize hU : w6.alloc (Obj.cells #[.int .i64 0, .int .i64 0, .int .i64 0] 36) = U at *
  clear hU
  go_loop [13, 14] (fun b i => ∃ k : Nat, k ≤ ms.length ∧ i = .int .i64 k ∧ b = .bool false) (fun _ i => ms.length - (intOf i).toNat)
  case atStart => exact ⟨0, Nat.zero_le _, rfl, rfl⟩
  case round =>
    obtain ⟨k, hk, rfl, rfl⟩ := hrel
    by_cases hlt : k < ms.length
    · obtain ⟨m, hm⟩ : ∃ m, ms[k]? = some m := ⟨_, List.getElem?_eq_getElem hlt⟩
      obtain ⟨b, o, rfl, hbl, d1, d2, d3⟩ := QC.out k m hm
      have z3 := cell_below d3 BO.out
      have hne : (m.2.2 == day) = false := beq_eq_false_iff_ne.2 (HNo.out k m hm)
      obtain ⟨x1, x2, x3⟩ := m
      dsimp only at *
      clear hm d1 d2 d3
      go_wp2_with fail
      go_round
      case rel => exact ⟨k + 1, by omega, by go_num, rfl⟩
      case measure => simp [intOf]; omega
    · obtain rfl : k = ms.length := by omega
      have rr := RO.out
      obtain ⟨r0, r1, r2, g0, g1, g2, rz⟩ := row3 rr
      clear rr
      have SU := Lib.hid (below_on S6.out BO.out)
      have BU := Lib.hid BO.out
      go_wp2_with fail
      go_loop [15, 16] (fun q i => ∃ k : Nat, k ≤ imp.length ∧ i = .int .i64 k ∧ q = .int .i64 ((lstF imp k : Int) - 1)) (fun _ i => imp.length - (intOf i).toNat)
      case atStart => exact ⟨0, Nat.zero_le _, rfl, rfl⟩
      case round =>
        obtain ⟨k, hk, rfl, rfl⟩ := hrel
        by_cases hlt : k < imp.length
        · obtain ⟨b, o, A3, c3, rfl, e2, e3, p2, -⟩ := HDy.out k hlt
          have z := cell_below e3 SU.out
          have HL : Hid (lstF imp (k + 1) = if (imp.getD k []).length = 0 then lstF imp k else k + 1) := Lib.hid rfl
          have hq := lstF_le imp k
          generalize (imp.getD k []).length = q at *
          by_cases g : q = 0
          · subst g
            rw [if_pos rfl] at HL
            clear e3
            go_wp2_with fail
            go_round
            case rel => exact ⟨k + 1, by omega, by go_num, by rw [HL.out]⟩
            case measure => simp [intOf]; omega
          · rw [if_neg g] at HL
            have g' : 0 < q := by omega
            clear e3
            go_wp2_with fail
            go_round
            case rel => exact ⟨k + 1, by omega, by go_num, by rw [HL.out]; go_num⟩
            case measure => simp [intOf]; omega
        · obtain rfl : k = imp.length := by omega
          have HLL := Lib.hid (lstF_le imp imp.length)
          generalize hLst : lstF imp imp.length = lst at *
          clear hLst
          have hl4 : lst ≤ 400 := by have := HLL.out; omega
          go_wp2_with fail
          -- the error is none: the days behind the last one are counted
          go_loop [17, 18] (fun q i => ∃ t : Nat, lst ≤ t ∧ t ≤ fr.length ∧ i = .int .i64 t ∧ q = .int .i64 (cntF fr ms lst t)) (fun _ i => fr.length - (intOf i).toNat)
          case atStart => exact ⟨lst, Nat.le_refl _, by have := HLL.out; have := HLen.out; omega, by go_num, by rw [cntF_self]; rfl⟩
          case round =>
            obtain ⟨t, t1, t2, rfl, rfl⟩ := hrel
            by_cases hlt : t < fr.length
            · obtain ⟨A', c', b, o, hv, hA, e2, e3⟩ := HB1.out t hlt
              obtain ⟨rfl, -, rfl⟩ : A1 = A' ∧ fr.length = fr.length ∧ c1 = c' := by simpa using hv
              subst hA
              clear hv
              have cs := cell_below e3 SU.out
              have HC := Lib.hid (cnt_hits HI.out t1)
              have hcb := cntF_le fr ms lst t
              generalize cntF fr ms lst t = q at *
              cases hfk : fr.getD t false
              · rw [hfk] at cs e3
                simp only [hfk] at HC
                clear hfk e3
                go_wp2_with fail
                go_loop [17, 19] (fun q' i => ∃ k : Nat, k ≤ ms.length ∧ i = .int .i64 k ∧ q' = .int .i64 ((q : Int) + 0 - hits ms t k)) (fun _ i => ms.length - (intOf i).toNat)
                case atStart => exact ⟨0, Nat.zero_le _, rfl, by rw [hits_zero]; go_num⟩
                case round =>
                  obtain ⟨k, hk, rfl, rfl⟩ := hrel
                  have hh := hits_le ms t k
                  by_cases hlk : k < ms.length
                  · obtain ⟨m, hm⟩ : ∃ m, ms[k]? = some m := ⟨_, List.getElem?_eq_getElem hlk⟩
                    obtain ⟨b, o, rfl, hbl, d1, d2, d3⟩ := QC.out k m hm
                    have z3 := cell_below d3 BU.out
                    have HS := Lib.hid (hits_succ (t := t) hm)
                    obtain ⟨x1, x2, x3⟩ := m
                    dsimp only at *
                    clear hm d1 d2 d3
                    generalize hits ms t k = hk0 at *
                    cases heq : (x3 == (t : Int))
                    · have HS' : Hid (hits ms t (k + 1) = hk0) := Lib.hid (by rw [HS.out, if_neg (beq_eq_false_iff_ne.1 heq)]; rfl)
                      go_wp2_with fail
                      go_round
                      case rel => exact ⟨k + 1, by omega, by go_num, by rw [HS'.out]⟩
                      case measure => simp [intOf]; omega
                    · have HS' : Hid (hits ms t (k + 1) = hk0 + 1) := Lib.hid (by rw [HS.out, if_pos (beq_iff_eq.1 heq)])
                      go_wp2_with fail
                      go_round
                      case rel => exact ⟨k + 1, by omega, by go_num, by rw [HS'.out]; go_num⟩
                      case measure => simp [intOf]; omega
                  · obtain rfl : k = ms.length := by omega
                    generalize hits ms t ms.length = hk0 at *
                    go_wp2_with fail
                    go_round
                    case rel => exact ⟨t + 1, by omega, by omega, by go_num, by rw [HC.out]; simp⟩
                    case measure => simp [intOf]; omega
              · rw [hfk] at cs e3
                simp only [hfk] at HC
                clear hfk e3
                go_wp2_with fail
                go_loop [17, 19] (fun q' i => ∃ k : Nat, k ≤ ms.length ∧ i = .int .i64 k ∧ q' = .int .i64 ((q : Int) + 1 - hits ms t k)) (fun _ i => ms.length - (intOf i).toNat)
                case atStart => exact ⟨0, Nat.zero_le _, rfl, by rw [hits_zero]; go_num⟩
                case round =>
                  obtain ⟨k, hk, rfl, rfl⟩ := hrel
                  have hh := hits_le ms t k
                  by_cases hlk : k < ms.length
                  · obtain ⟨m, hm⟩ : ∃ m, ms[k]? = some m := ⟨_, List.getElem?_eq_getElem hlk⟩
                    obtain ⟨b, o, rfl, hbl, d1, d2, d3⟩ := QC.out k m hm
                    have z3 := cell_below d3 BU.out
                    have HS := Lib.hid (hits_succ (t := t) hm)
                    obtain ⟨x1, x2, x3⟩ := m
                    dsimp only at *
                    clear hm d1 d2 d3
                    generalize hits ms t k = hk0 at *
                    cases heq : (x3 == (t : Int))
                    · have HS' : Hid (hits ms t (k + 1) = hk0) := Lib.hid (by rw [HS.out, if_neg (beq_eq_false_iff_ne.1 heq)]; rfl)
                      go_wp2_with fail
                      go_round
                      case rel => exact ⟨k + 1, by omega, by go_num, by rw [HS'.out]⟩
                      case measure => simp [intOf]; omega
                    · have HS' : Hid (hits ms t (k + 1) = hk0 + 1) := Lib.hid (by rw [HS.out, if_pos (beq_iff_eq.1 heq)])
                      go_wp2_with fail
                      go_round
                      case rel => exact ⟨k + 1, by omega, by go_num, by rw [HS'.out]; go_num⟩
                      case measure => simp [intOf]; omega
                  · obtain rfl : k = ms.length := by omega
                    generalize hits ms t ms.length = hk0 at *
                    go_wp2_with fail
                    go_round
                    case rel => exact ⟨t + 1, by omega, by omega, by go_num, by rw [HC.out]; simp⟩
                    case measure => simp [intOf]; omega
            · obtain rfl : t = fr.length := by omega
              generalize cntF fr ms lst fr.length = q at *
              go_wp2_with fail
              refine (HO.out _ (G1.out.on SU.out) (G2.out.on SU.out)).mono ?_
              rintro e w9 ⟨rfl, hb⟩
              have S9 := Lib.hid (below_on SU.out hb)
              clear hb
              go_wp2_with fail
              go_ret
              exact ⟨rfl, S9.out⟩
set_option maxHeartbeats 4000000 in
set_option maxRecDepth 100000 in
theorem l22x_b (M : TP) (fr : List Bool) (imp : List (List Int)) (vf vi : Value) (day : Int) (W : World) (h1 : BlAt W vf fr) (h2 : LsAt W vi imp) (hf : fewT fr imp = true) (ms : List Mv) (hml : ms.length ≤ 400) (hl : fr.length = imp.length) (L : List Bool) (hI : InvF fr L (jobsF imp imp.length) ms) (K : Nat) (y1 y2 y3 : Int) (hK : ms[K]? = some (y1, y2, y3)) (hD : y3 = day) (hno : ∀ (j : Nat) (u : Mv), j < K → ms[j]? = some u → u.2.2 ≠ day)
    (HA : ∀ u, BlAt u vf fr → LsAt u vi imp → Calls Try.prog 11 #[vf, vi] u (RetA 36 u 0 ms))
    (HR : ∀ u, BlAt u vf fr → LsAt u vi imp → Calls Try.prog 12 #[vf, vi] u (RetA 39 u 0 ms))
    (HO : ∀ u, BlAt u vf fr → LsAt u vi imp → Calls Try.prog 16 #[vf, vi] u fun e w' => e = .returned (.int .i64 (cntF fr ms (lstF imp imp.length) fr.length : Nat)) ∧ Below u.heap.size u w')
    (HT : ∀ v u, MvAt u v ms → Calls Try.prog 15 #[v, .int .i64 day] u fun e w' => e = .returned (.tuple #[mvv (y1, y2, y3), .bool true]) ∧ Below u.heap.size u w') : Calls Try.prog 3 #[vf, vi, .int .i64 day] W fun e w' => e = .returned (.bool true) ∧ Below W.heap.size W w' := by
  have HLen := Lib.hid hl
  have HI := Lib.hid hI
  have HNo := Lib.hid hno
  have HK := Lib.hid hK
  have HD := Lib.hid hD
  have hKl : K < ms.length := (List.getElem?_eq_some_iff.1 hK).1
  clear hl hI hno hK hD
  obtain ⟨f1, f2, f3, f4⟩ := fewT_iff.1 hf
  clear f3 f4
  have G1 := Lib.hid h1
  have G2 := Lib.hid h2
  have HF := Lib.hid (fun u (q1 : BlAt u vf fr) (q2 : LsAt u vi imp) => show Calls Try.prog 10 #[vf, vi] u fun e w' => e = .returned (.bool true) ∧ u = w' from hf ▸ r22few_any fr imp vf vi u q1 q2)
  clear hf
  have HA := Lib.hid HA
  have HR := Lib.hid HR
  have HO := Lib.hid HO
  have HT := Lib.hid HT
  have hNE := neq_mvm
  have HB1 := Lib.hid (fun (j : Nat) (hj : j < fr.length) => show ∃ A c b o, vf = .slice A fr.length c ∧ A = some ⟨b, o, none⟩ ∧ b < W.heap.size ∧ W.cell? ⟨b, o + j, none⟩ = some (.bool (fr.getD j false)) by
    obtain ⟨A, c, e, _, _, h3⟩ := h1
    obtain ⟨b, o, e1, e2, e3⟩ := h3 j hj
    exact ⟨A, c, b, o, e, e1, e2, e3⟩)
  obtain ⟨A1, c1, hvf, -, -, -⟩ := h1
  subst hvf
  obtain ⟨A2, c2, hvi, hday⟩ := h2.day
  have HDy := Lib.hid hday
  subst hvi
  clear h2 hday
  go_enter Try.func3, Try.ntmps3
  go_wp2_with fail
  refine (c22awake_any M _).mono ?_
  rintro e w1 ⟨rfl, hb⟩
  have S1 := Lib.hid hb
  clear hb
  go_wp2_with fail
  refine (HF.out _ (G1.out.on S1.out) (G2.out.on S1.out)).mono ?_
  rintro e wq ⟨rfl, rfl⟩
  go_wp2_with fail
  refine (HA.out _ (G1.out.on S1.out) (G2.out.on S1.out)).mono ?_
  rintro e w2 ⟨v1, rfl, hm, hb⟩
  have S2 := Lib.hid (below_on S1.out hb)
  have M2 := Lib.hid hm.at
  clear hb hm
  go_wp2_with fail
  refine (HR.out _ (G1.out.on S2.out) (G2.out.on S2.out)).mono ?_
  rintro e w3 ⟨v2, rfl, hm, hb⟩
  have S3 := Lib.hid (below_on S2.out hb)
  have M3 := Lib.hid (M2.out.on hb)
  have R3 := Lib.hid hm.at
  clear hb hm
  go_wp2_with fail
  refine (l22mv_any v1 ms w3 hml M3.out).mono ?_
  rintro e w4 ⟨v3, rfl, hm, hb⟩
  have S4 := Lib.hid (below_on S3.out hb)
  have M4 := Lib.hid (M3.out.on hb)
  have R4 := Lib.hid (R3.out.on hb)
  have C4 := Lib.hid hm.at
  clear hb hm
  go_wp2_with fail
  refine (r22same_eq v3 v2 ms w4 hml C4.out R4.out).mono ?_
  rintro e w5 ⟨rfl, hb⟩
  have S5 := Lib.hid (below_on S4.out hb)
  have M5 := Lib.hid (M4.out.on hb)
  have R5 := Lib.hid (R4.out.on hb)
  clear hb
  go_wp2_with fail
  refine (HT.out v1 w5 M5.out).mono ?_
  rintro e w6 ⟨rfl, hb⟩
  have S6 := Lib.hid (below_on S5.out hb)
  have R6 := Lib.hid (R5.out.on hb)
  clear hb
  obtain ⟨A, cap, rfl, -, -, hcell⟩ := R6.out
  have QC := Lib.hid hcell
  clear hcell
  have RO := Lib.hid (heap_alloc_new w6 (Obj.cells #[.int .i64 y1, .int .i64 y2, .int .i64 y3] 36))
  have BO := Lib.hid ((Below.refl w6.heap.size w6).alloc (Nat.le_refl _) (Obj.cells #[.int .i64 y1, .int .i64 y2, .int .i64 y3] 36))
  go_wp2_with fail
  generalize hU : w6.alloc (Obj.cells #[.int .i64 y1, .int .i64 y2, .int .i64 y3] 36) = U at *
  clear hU
  go_loopw [13, 14] (fun b i wr => ∃ k : Nat, i = .int .i64 k ∧ ((b = .bool false ∧ k ≤ K) ∨ (b = .bool true ∧ k = K + 1)) ∧ Below U.heap.size U wr) (fun b i _ => ms.length + 1 - (intOf i).toNat)
  case atStart => exact ⟨0, rfl, .inl ⟨rfl, Nat.zero_le _⟩, Below.refl _ _⟩
  case round =>
    obtain ⟨k, rfl, hbk, hb⟩ := hrel
    have QB := Lib.hid hb
    clear hb
    rcases hbk with ⟨rfl, hk⟩ | ⟨rfl, hk⟩
    · have hlt : k < ms.length := by omega
      obtain ⟨m', hm⟩ : ∃ m, ms[k]? = some m := ⟨_, List.getElem?_eq_getElem hlt⟩
      obtain ⟨b, o, rfl, hbl, d1, d2, d3⟩ := QC.out k m' hm
      have z1 := cell_below (cell_below d1 BO.out) QB.out
      have z2 := cell_below (cell_below d2 BO.out) QB.out
      have z3 := cell_below (cell_below d3 BO.out) QB.out
      by_cases hkK : k < K
      · have hne : (m'.2.2 == day) = false := beq_eq_false_iff_ne.2 (HNo.out k m' hkK hm)
        obtain ⟨x1, x2, x3⟩ := m'
        dsimp only at *
        clear hm d1 d2 d3
        go_wp2_with fail
        go_roundw
        case rel => exact ⟨k + 1, by go_num, .inl ⟨rfl, by omega⟩, QB.out⟩
        case measure => simp [intOf]; omega
      · obtain rfl : k = K := by omega
        rw [HK.out] at hm
        obtain rfl : (y1, y2, y3) = m' := by simpa using hm
        dsimp only at *
        have heq : (y3 == day) = true := beq_iff_eq.2 HD.out
        have hE1 := hNE (y1, y2, y3)
        obtain ⟨r0, r1, r2, g0, g1, g2, rz⟩ := row3 (row_on RO.out QB.out)
        clear hm d1 d2 d3 hNE
        go_wp2_with fail
        go_quiet (fail)
        go_wp2_with fail
        go_roundw
        case rel => exact ⟨k + 1, by go_num, .inr ⟨rfl, rfl⟩, below_dn QB.out _⟩
        case measure => simp [intOf]; omega
    · have SU := Lib.hid (below_on S6.out (below_on BO.out QB.out))
      have BU := Lib.hid (below_on BO.out QB.out)
      have HKK := Lib.hid hk
      clear hk
      have hsp : k < ms.length ∨ ¬ k < ms.length := Decidable.em _
      rcases hsp with gk | gk
      all_goals
        go_wp2_with fail
        go_loop [15, 16] (fun q i => ∃ k : Nat, k ≤ imp.length ∧ i = .int .i64 k ∧ q = .int .i64 ((lstF imp k : Int) - 1)) (fun _ i => imp.length - (intOf i).toNat)
        case atStart => exact ⟨0, Nat.zero_le _, rfl, rfl⟩
        case round =>
          obtain ⟨k, hk, rfl, rfl⟩ := hrel
          by_cases hlt : k < imp.length
          · obtain ⟨b, o, A3, c3, rfl, e2, e3, p2, -⟩ := HDy.out k hlt
            have z := cell_below e3 SU.out
            have HL : Hid (lstF imp (k + 1) = if (imp.getD k []).length = 0 then lstF imp k else k + 1) := Lib.hid rfl
            have hq := lstF_le imp k
            generalize (imp.getD k []).length = q at *
            by_cases g : q = 0
            · subst g
              rw [if_pos rfl] at HL
              clear e3
              go_wp2_with fail
              go_round
              case rel => exact ⟨k + 1, by omega, by go_num, by rw [HL.out]⟩
              case measure => simp [intOf]; omega
            · rw [if_neg g] at HL
              have g' : 0 < q := by omega
              clear e3
              go_wp2_with fail
              go_round
              case rel => exact ⟨k + 1, by omega, by go_num, by rw [HL.out]; go_num⟩
              case measure => simp [intOf]; omega
          · obtain rfl : k = imp.length := by omega
            have HLL := Lib.hid (lstF_le imp imp.length)
            generalize hLst : lstF imp imp.length = lst at *
            clear hLst
            have hl4 : lst ≤ 400 := by have := HLL.out; omega
            go_wp2_with fail
            -- the error is none: the days behind the last one are counted
            go_loop [17, 18] (fun q i => ∃ t : Nat, lst ≤ t ∧ t ≤ fr.length ∧ i = .int .i64 t ∧ q = .int .i64 (cntF fr ms lst t)) (fun _ i => fr.length - (intOf i).toNat)
            case atStart => exact ⟨lst, Nat.le_refl _, by have := HLL.out; have := HLen.out; omega, by go_num, by rw [cntF_self]; rfl⟩
            case round =>
              obtain ⟨t, t1, t2, rfl, rfl⟩ := hrel
              by_cases hlt : t < fr.length
              · obtain ⟨A', c', b, o, hv, hA, e2, e3⟩ := HB1.out t hlt
                obtain ⟨rfl, -, rfl⟩ : A1 = A' ∧ fr.length = fr.length ∧ c1 = c' := by simpa using hv
                subst hA
                clear hv
                have cs := cell_below e3 SU.out
                have HC := Lib.hid (cnt_hits HI.out t1)
                have hcb := cntF_le fr ms lst t
                generalize cntF fr ms lst t = q at *
                cases hfk : fr.getD t false
                · rw [hfk] at cs e3
                  simp only [hfk] at HC
                  clear hfk e3
                  go_wp2_with fail
                  go_loop [17, 19] (fun q' i => ∃ k : Nat, k ≤ ms.length ∧ i = .int .i64 k ∧ q' = .int .i64 ((q : Int) + 0 - hits ms t k)) (fun _ i => ms.length - (intOf i).toNat)
                  case atStart => exact ⟨0, Nat.zero_le _, rfl, by rw [hits_zero]; go_num⟩
                  case round =>
                    obtain ⟨k, hk, rfl, rfl⟩ := hrel
                    have hh := hits_le ms t k
                    by_cases hlk : k < ms.length
                    · obtain ⟨m, hm⟩ : ∃ m, ms[k]? = some m := ⟨_, List.getElem?_eq_getElem hlk⟩
                      obtain ⟨b, o, rfl, hbl, d1, d2, d3⟩ := QC.out k m hm
                      have z3 := cell_below d3 BU.out
                      have HS := Lib.hid (hits_succ (t := t) hm)
                      obtain ⟨x1, x2, x3⟩ := m
                      dsimp only at *
                      clear hm d1 d2 d3
                      generalize hits ms t k = hk0 at *
                      cases heq : (x3 == (t : Int))
                      · have HS' : Hid (hits ms t (k + 1) = hk0) := Lib.hid (by rw [HS.out, if_neg (beq_eq_false_iff_ne.1 heq)]; rfl)
                        go_wp2_with fail
                        go_round
                        case rel => exact ⟨k + 1, by omega, by go_num, by rw [HS'.out]⟩
                        case measure => simp [intOf]; omega
                      · have HS' : Hid (hits ms t (k + 1) = hk0 + 1) := Lib.hid (by rw [HS.out, if_pos (beq_iff_eq.1 heq)])
                        go_wp2_with fail
                        go_round
                        case rel => exact ⟨k + 1, by omega, by go_num, by rw [HS'.out]; go_num⟩
                        case measure => simp [intOf]; omega
                    · obtain rfl : k = ms.length := by omega
                      generalize hits ms t ms.length = hk0 at *
                      go_wp2_with fail
                      go_round
                      case rel => exact ⟨t + 1, by omega, by omega, by go_num, by rw [HC.out]; simp⟩
                      case measure => simp [intOf]; omega
                · rw [hfk] at cs e3
                  simp only [hfk] at HC
                  clear hfk e3
                  go_wp2_with fail
                  go_loop [17, 19] (fun q' i => ∃ k : Nat, k ≤ ms.length ∧ i = .int .i64 k ∧ q' = .int .i64 ((q : Int) + 1 - hits ms t k)) (fun _ i => ms.length - (intOf i).toNat)
                  case atStart => exact ⟨0, Nat.zero_le _, rfl, by rw [hits_zero]; go_num⟩
                  case round =>
                    obtain ⟨k, hk, rfl, rfl⟩ := hrel
                    have hh := hits_le ms t k
                    by_cases hlk : k < ms.length
                    · obtain ⟨m, hm⟩ : ∃ m, ms[k]? = some m := ⟨_, List.getElem?_eq_getElem hlk⟩
                      obtain ⟨b, o, rfl, hbl, d1, d2, d3⟩ := QC.out k m hm
                      have z3 := cell_below d3 BU.out
                      have HS := Lib.hid (hits_succ (t := t) hm)
                      obtain ⟨x1, x2, x3⟩ := m
                      dsimp only at *
                      clear hm d1 d2 d3
                      generalize hits ms t k = hk0 at *
                      cases heq : (x3 == (t : Int))
                      · have HS' : Hid (hits ms t (k + 1) = hk0) := Lib.hid (by rw [HS.out, if_neg (beq_eq_false_iff_ne.1 heq)]; rfl)
                        go_wp2_with fail
                        go_round
                        case rel => exact ⟨k + 1, by omega, by go_num, by rw [HS'.out]⟩
                        case measure => simp [intOf]; omega
                      · have HS' : Hid (hits ms t (k + 1) = hk0 + 1) := Lib.hid (by rw [HS.out, if_pos (beq_iff_eq.1 heq)])
                        go_wp2_with fail
                        go_round
                        case rel => exact ⟨k + 1, by omega, by go_num, by rw [HS'.out]; go_num⟩
                        case measure => simp [intOf]; omega
                    · obtain rfl : k = ms.length := by omega
                      generalize hits ms t ms.length = hk0 at *
                      go_wp2_with fail
                      go_round
                      case rel => exact ⟨t + 1, by omega, by omega, by go_num, by rw [HC.out]; simp⟩
                      case measure => simp [intOf]; omega
              · obtain rfl : t = fr.length := by omega
                generalize cntF fr ms lst fr.length = q at *
                go_wp2_with fail
                refine (HO.out _ (G1.out.on SU.out) (G2.out.on SU.out)).mono ?_
                rintro e w9 ⟨rfl, hb⟩
                have S9 := Lib.hid (below_on SU.out hb)
                clear hb
                go_wp2_with fail
                go_ret
                exact ⟨rfl, S9.out⟩
set_option maxHeartbeats 4000000 in
set_option maxRecDepth 100000 in
theorem l22x_c (M : TP) (fr : List Bool) (imp : List (List Int)) (vf vi : Value) (day : Int) (W : World) (h1 : BlAt W vf fr) (h2 : LsAt W vi imp) (hf : fewT fr imp = true) (ms : List Mv) (hml : ms.length ≤ 400) (E : Int) (hE : (E == 0) = false) (hno : ∀ (j : Nat) (u : Mv), ms[j]? = some u → u.2.2 ≠ day)
    (HA : ∀ u, BlAt u vf fr → LsAt u vi imp → Calls Try.prog 11 #[vf, vi] u (RetA 36 u E ms))
    (HR : ∀ u, BlAt u vf fr → LsAt u vi imp → Calls Try.prog 12 #[vf, vi] u (RetA 39 u E ms))
    (HO : ∀ u, BlAt u vf fr → LsAt u vi imp → Calls Try.prog 16 #[vf, vi] u fun e w' => e = .returned (.int .i64 (0 : Nat)) ∧ Below u.heap.size u w')
    (HT : ∀ v u, MvAt u v ms → Calls Try.prog 15 #[v, .int .i64 day] u fun e w' => e = .returned (.tuple #[mvv (0, 0, 0), .bool false]) ∧ Below u.heap.size u w') : Calls Try.prog 3 #[vf, vi, .int .i64 day] W fun e w' => e = .returned (.bool true) ∧ Below W.heap.size W w' := by
  have HNo := Lib.hid hno
  clear hno
  obtain ⟨f1, f2, f3, f4⟩ := fewT_iff.1 hf
  clear f3 f4
  have G1 := Lib.hid h1
  have G2 := Lib.hid h2
  have HF := Lib.hid (fun u (q1 : BlAt u vf fr) (q2 : LsAt u vi imp) => show Calls Try.prog 10 #[vf, vi] u fun e w' => e = .returned (.bool true) ∧ u = w' from hf ▸ r22few_any fr imp vf vi u q1 q2)
  clear hf
  have HA := Lib.hid HA
  have HR := Lib.hid HR
  have HO := Lib.hid HO
  have HT := Lib.hid HT
  have hNE := neq_mvm
  have HB1 := Lib.hid (fun (j : Nat) (hj : j < fr.length) => show ∃ A c b o, vf = .slice A fr.length c ∧ A = some ⟨b, o, none⟩ ∧ b < W.heap.size ∧ W.cell? ⟨b, o + j, none⟩ = some (.bool (fr.getD j false)) by
    obtain ⟨A, c, e, _, _, h3⟩ := h1
    obtain ⟨b, o, e1, e2, e3⟩ := h3 j hj
    exact ⟨A, c, b, o, e, e1, e2, e3⟩)
  obtain ⟨A1, c1, hvf, -, -, -⟩ := h1
  subst hvf
  obtain ⟨A2, c2, hvi, hday⟩ := h2.day
  have HDy := Lib.hid hday
  subst hvi
  clear h2 hday
  go_enter Try.func3, Try.ntmps3
  go_wp2_with fail
  refine (c22awake_any M _).mono ?_
  rintro e w1 ⟨rfl, hb⟩
  have S1 := Lib.hid hb
  clear hb
  go_wp2_with fail
  refine (HF.out _ (G1.out.on S1.out) (G2.out.on S1.out)).mono ?_
  rintro e wq ⟨rfl, rfl⟩
  go_wp2_with fail
  refine (HA.out _ (G1.out.on S1.out) (G2.out.on S1.out)).mono ?_
  rintro e w2 ⟨v1, rfl, hm, hb⟩
  have S2 := Lib.hid (below_on S1.out hb)
  have M2 := Lib.hid hm.at
  clear hb hm
  go_wp2_with fail
  refine (HR.out _ (G1.out.on S2.out) (G2.out.on S2.out)).mono ?_
  rintro e w3 ⟨v2, rfl, hm, hb⟩
  have S3 := Lib.hid (below_on S2.out hb)
  have M3 := Lib.hid (M2.out.on hb)
  have R3 := Lib.hid hm.at
  clear hb hm
  go_wp2_with fail
  refine (l22mv_any v1 ms w3 hml M3.out).mono ?_
  rintro e w4 ⟨v3, rfl, hm, hb⟩
  have S4 := Lib.hid (below_on S3.out hb)
  have M4 := Lib.hid (M3.out.on hb)
  have R4 := Lib.hid (R3.out.on hb)
  have C4 := Lib.hid hm.at
  clear hb hm
  go_wp2_with fail
  refine (r22same_eq v3 v2 ms w4 hml C4.out R4.out).mono ?_
  rintro e w5 ⟨rfl, hb⟩
  have S5 := Lib.hid (below_on S4.out hb)
  have M5 := Lib.hid (M4.out.on hb)
  have R5 := Lib.hid (R4.out.on hb)
  clear hb
  go_wp2_with fail
  refine (HT.out v1 w5 M5.out).mono ?_
  rintro e w6 ⟨rfl, hb⟩
  have S6 := Lib.hid (below_on S5.out hb)
  have R6 := Lib.hid (R5.out.on hb)
  clear hb
  obtain ⟨A, cap, rfl, -, -, hcell⟩ := R6.out
  have QC := Lib.hid hcell
  clear hcell
  have RO := Lib.hid (heap_alloc_new w6 (Obj.cells #[.int .i64 0, .int .i64 0, .int .i64 0] 36))
  have BO := Lib.hid ((Below.refl w6.heap.size w6).alloc (Nat.le_refl _) (Obj.cells #[.int .i64 0, .int .i64 0, .int .i64 0] 36))
  go_wp2_with fail
  generalize hU : w6.alloc (Obj.cells #[.int .i64 0, .int .i64 0, .int .i64 0] 36) = U at *
  clear hU
  go_loop [13, 14] (fun b i => ∃ k : Nat, k ≤ ms.length ∧ i = .int .i64 k ∧ b = .bool false) (fun _ i => ms.length - (intOf i).toNat)
  case atStart => exact ⟨0, Nat.zero_le _, rfl, rfl⟩
  case round =>
    obtain ⟨k, hk, rfl, rfl⟩ := hrel
    by_cases hlt : k < ms.length
    · obtain ⟨m, hm⟩ : ∃ m, ms[k]? = some m := ⟨_, List.getElem?_eq_getElem hlt⟩
      obtain ⟨b, o, rfl, hbl, d1, d2, d3⟩ := QC.out k m hm
      have z3 := cell_below d3 BO.out
      have hne : (m.2.2 == day) = false := beq_eq_false_iff_ne.2 (HNo.out k m hm)
      obtain ⟨x1, x2, x3⟩ := m
      dsimp only at *
      clear hm d1 d2 d3
      go_wp2_with fail
      go_round
      case rel => exact ⟨k + 1, by omega, by go_num, rfl⟩
      case measure => simp [intOf]; omega
    · obtain rfl : k = ms.length := by omega
      have rr := RO.out
      obtain ⟨r0, r1, r2, g0, g1, g2, rz⟩ := row3 rr
      clear rr
      have SU := Lib.hid (below_on S6.out BO.out)
      have BU := Lib.hid BO.out
      go_wp2_with fail
      go_loop [15, 16] (fun q i => ∃ k : Nat, k ≤ imp.length ∧ i = .int .i64 k ∧ q = .int .i64 ((lstF imp k : Int) - 1)) (fun _ i => imp.length - (intOf i).toNat)
      case atStart => exact ⟨0, Nat.zero_le _, rfl, rfl⟩
      case round =>
        obtain ⟨k, hk, rfl, rfl⟩ := hrel
        by_cases hlt : k < imp.length
        · obtain ⟨b, o, A3, c3, rfl, e2, e3, p2, -⟩ := HDy.out k hlt
          have z := cell_below e3 SU.out
          have HL : Hid (lstF imp (k + 1) = if (imp.getD k []).length = 0 then lstF imp k else k + 1) := Lib.hid rfl
          have hq := lstF_le imp k
          generalize (imp.getD k []).length = q at *
          by_cases g : q = 0
          · subst g
            rw [if_pos rfl] at HL
            clear e3
            go_wp2_with fail
            go_round
            case rel => exact ⟨k + 1, by omega, by go_num, by rw [HL.out]⟩
            case measure => simp [intOf]; omega
          · rw [if_neg g] at HL
            have g' : 0 < q := by omega
            clear e3
            go_wp2_with fail
            go_round
            case rel => exact ⟨k + 1, by omega, by go_num, by rw [HL.out]; go_num⟩
            case measure => simp [intOf]; omega
        · obtain rfl : k = imp.length := by omega
          have HLL := Lib.hid (lstF_le imp imp.length)
          generalize hLst : lstF imp imp.length = lst at *
          clear hLst
          have hl4 : lst ≤ 400 := by have := HLL.out; omega
          go_wp2_with fail
          have hfin : lst < fr.length ∨ ¬ lst < fr.length := Nat.lt_or_ge _ _ |>.imp id Nat.not_lt.2
          rcases hfin with g | g
          all_goals
            refine wp_loop_rounds 1 ?_
            rw [rounds_succ]
            go_wp2_with fail
            refine (HO.out _ (G1.out.on SU.out) (G2.out.on SU.out)).mono ?_
            rintro e w9 ⟨rfl, hb⟩
            have S9 := Lib.hid (below_on SU.out hb)
            clear hb
            go_wp2_with fail
            go_ret
            exact ⟨rfl, S9.out⟩
theorem l22x_any (M : TP) (fr : List Bool) (imp : List (List Int)) (vf vi : Value) (day : Int) (W : World) (h1 : BlAt W vf fr) (h2 : LsAt W vi imp) : Calls Try.prog 3 #[vf, vi, .int .i64 day] W fun e w' => e = .returned (.bool true) ∧ Below W.heap.size W w' := by
  cases hf : fewT fr imp
  · exact l22x_no M fr imp vf vi day W h1 h2 hf
  · have hA := fun u q1 q2 => M.asg fr imp vf vi u q1 q2 hf
    have hR := fun u q1 q2 => r22as_any fr imp vf vi u q1 q2 hf
    have hO := fun u q1 q2 => M.rm fr imp vf vi u q1 q2 hf
    rcases as_cases fr imp with ⟨e, hl, L, hr⟩ | ⟨e, e', _⟩ | ⟨e, e', _⟩
    · have hI := run_inv fr _ _ rfl L _ hr
      have hml : (asM fr imp).length ≤ 400 := by rw [hI.n, jobs_len imp _ (Nat.le_refl _)]; exact (fewT_iff.1 hf).2.2.2
      have hT := fun v u (q : MvAt u v (asM fr imp)) => M.tk (asM fr imp) day v u q hml
      rw [e] at hA hR
      rw [show roomF fr imp = cntF fr (asM fr imp) (lstF imp imp.length) fr.length by unfold roomF; rw [if_pos e]] at hO
      rcases first_mv (asM fr imp) day with h | ⟨K, ⟨y1, y2, y3⟩, h3, h4, h5⟩
      · rw [tkV_no h] at hT
        exact l22x_a M fr imp vf vi day W h1 h2 hf (asM fr imp) hml hl L hI h hA hR hO hT
      · rw [tkV_at h3 h4 h5] at hT
        exact l22x_b M fr imp vf vi day W h1 h2 hf (asM fr imp) hml hl L hI K y1 y2 y3 h3 h4 h5 hA hR hO hT
    all_goals
      have hno : ∀ (j : Nat) (u : Mv), (asM fr imp)[j]? = some u → u.2.2 ≠ day := fun j u h => by rw [e'] at h; simp at h
      have hml : (asM fr imp).length ≤ 400 := by rw [e']; exact Nat.zero_le _
      have hT := fun v u (q : MvAt u v (asM fr imp)) => M.tk (asM fr imp) day v u q hml
      rw [e] at hA hR
      rw [tkV_no hno] at hT
      rw [show roomF fr imp = 0 by unfold roomF; rw [if_neg (by rw [e]; decide)]] at hO
      exact l22x_c M fr imp vf vi day W h1 h2 hf (asM fr imp) hml _ (by decide) hno hA hR hO hT
end Go.Proofs.Ytaifhikhdcnacaa
