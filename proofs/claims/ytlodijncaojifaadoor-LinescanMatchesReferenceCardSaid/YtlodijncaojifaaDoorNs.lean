/- The reference of package linescan: Identifier of a good state. -/
import Derived.Test.YtlodijncaojifaaDoorNr
namespace Go.Proofs.YtlodijncaojifaaDoor
open Go.RowKit

theorem rlt_at (S : ByteArray) (i : Nat) (x : Int) (h : x = (i : Int)) (b : Bool) (hb : lt S i = b) (w : World) : Calls Tryd.prog 36 #[.string S, .int .i64 x] w fun e w' => e = .returned (.bool b) ∧ w = w' := by subst h; subst hb; exact rlt_any S i w
theorem id_none {S : ByteArray} {k : Nat} (h : lt S k = false) : idL S k = 0 ∧ idB S k = true ∧ idV S k = ⟨#[]⟩ := by
  have e : idL S k = 0 := idL_eq (fun j hj => absurd hj (by omega)) (fun hp => by
    obtain ⟨p1, p2, p3⟩ := hp
    rw [Nat.add_zero] at p1 p3
    rcases p3 with h1 | ⟨_, _, h1⟩ | ⟨_, h1, _⟩
    · rw [lt_iff.2 ⟨p1, h1⟩] at h; cases h
    · omega
    · exact h1 rfl)
  have b : idB S k = true := by unfold idB; rw [e]; rfl
  exact ⟨e, b, by unfold idV; rw [b]; rfl⟩
theorem id_end {S : ByteArray} {k j : Nat} (h1 : ∀ p, p < j → idP S k p) (h2 : ¬ idP S k j) (h3 : bfo S k j ≠ 45) : idL S k = j ∧ idB S k = false ∧ idV S k = S.extract k (k + j) := by
  have e := idL_eq h1 h2
  have b : idB S k = false := by unfold idB; rw [e]; exact decide_eq_false h3
  exact ⟨e, b, by unfold idV; rw [b, e]; rfl⟩
theorem id_hyp {S : ByteArray} {k j : Nat} (h1 : ∀ p, p < j → idP S k p) (h2 : ¬ idP S k j) (h3 : bfo S k j = 45) : idL S k = j ∧ idB S k = true ∧ idV S k = ⟨#[]⟩ := by
  have e := idL_eq h1 h2
  have b : idB S k = true := by unfold idB; rw [e]; exact decide_eq_true h3
  exact ⟨e, b, by unfold idV; rw [b]; rfl⟩
theorem idP_letter {S : ByteArray} {k j : Nat} (h : lt S (k + j) = true) (hj : j < 40) : idP S k j := by
  obtain ⟨a, b⟩ := lt_iff.1 h
  exact ⟨a, hj, .inl b⟩
theorem idP_digit {S : ByteArray} {k j : Nat} (h : dg S (k + j) = true) (hj : j < 40) (h0 : 0 < j) : idP S k j := by
  obtain ⟨a, b, c⟩ := dg_iff.1 h
  exact ⟨a, hj, .inr (.inl ⟨b, c, h0⟩)⟩
theorem idP_no {S : ByteArray} {k j : Nat} (h1 : lt S (k + j) = false) (h2 : dg S (k + j) = false) (h3 : bt S (k + j) = 45 → bfo S k j ≠ 45 → j = 39) : ¬ idP S k j := by
  rintro ⟨a, b, c | ⟨c, d, _⟩ | ⟨c, d, f⟩⟩
  · rw [lt_iff.2 ⟨a, c⟩] at h1; cases h1
  · rw [dg_iff.2 ⟨a, c, d⟩] at h2; cases h2
  · exact f (h3 c d)
theorem bfo_let {S : ByteArray} {k j : Nat} (h : lt S (k + j) = true) : bfo S k (j + 1) ≠ 45 := by
  rw [bfo_succ]; have := (lt_iff.1 h).2; omega
theorem bfo_dig {S : ByteArray} {k j : Nat} (h : dg S (k + j) = true) : bfo S k (j + 1) ≠ 45 := by
  rw [bfo_succ]; have := (dg_iff.1 h).2; omega
theorem all_succ {S : ByteArray} {k j : Nat} (h1 : ∀ p, p < j → idP S k p) (h2 : idP S k j) : ∀ p, p < j + 1 → idP S k p := fun p hp => by
  by_cases q : p < j
  · exact h1 p q
  · rw [show p = j by omega]; exact h2
set_option maxHeartbeats 2000000 in
set_option maxRecDepth 100000 in
theorem rid_none {S : ByteArray} {k : Nat} {w : World} (hl : lt S k = false) :
    Calls Tryd.prog 15 #[sv S k false] w fun e w' => e = .returned (.tuple #[sv S (k + idL S k) (idB S k), .string (idV S k)]) ∧ Below w.heap.size w w' := by
  have V := Lib.hid (id_none hl)
  have hg := fun u => rlt_at S k (k : Int) rfl false hl u
  have hf := fun u => rfa_at S k k (k : Int) rfl false u
  clear hl
  go_enter Tryd.func15, Tryd.ntmps15
  go_wp2_with fail
  refine (hg _).mono ?_
  rintro e w1 ⟨rfl, rfl⟩
  go_wp2_with fail
  refine (hf _).mono ?_
  rintro e v ⟨rfl, hb⟩
  have rR := row_kept (row_new1 w (stO S k false) stZ) hb
  have bl := below_on (al2 w (stO S k false) stZ) hb
  obtain ⟨e0, e1, e2, y0, y1, y2, -⟩ := st_facts rR
  clear hb
  go_wp2_with fail
  obtain ⟨u9, hu9⟩ : ∃ u9, u9 = ((v.setCell ⟨w.heap.size + 1, 0, none⟩ (.string S)).setCell ⟨w.heap.size + 1, 1, none⟩ (.int .i64 ((k : Int)))).setCell ⟨w.heap.size + 1, 2, none⟩ (.bool true) := ⟨_, rfl⟩
  obtain ⟨k0, k1, k2, kb⟩ := st_put (w := w) _ _ _ rR bl (by omega) hu9
  rw [← hu9]
  exact bodyPost_ret (v := .tuple #[.agg #[.string S, .int .i64 ((k : Int)), .bool true], .string ⟨#[]⟩]) (by simp [results, Tryd.results15, go_sem, k0, k1, k2]) rfl ⟨by rw [V.out.1, V.out.2.1, V.out.2.2]; rfl, kb⟩
set_option maxHeartbeats 4000000 in
set_option maxRecDepth 100000 in
theorem rid_some {S : ByteArray} {k : Nat} {w : World} (hs : S.size < big) (hl : lt S k = true) :
    Calls Tryd.prog 15 #[sv S k false] w fun e w' => e = .returned (.tuple #[sv S (k + idL S k) (idB S k), .string (idV S k)]) ∧ Below w.heap.size w w' := by
  have hs' : S.size < 4611686018427387904 := hs
  clear hs
  have hg := fun u => rlt_at S k (k : Int) rfl true hl u
  have ks := (lt_iff.1 hl).1
  have P0 := Lib.hid (show ∀ p, p < 1 → idP S k p from fun p hp => by rw [show p = 0 by omega]; exact idP_letter (by rw [Nat.add_zero]; exact hl) (by omega))
  have B0 := Lib.hid (show bfo S k 1 ≠ 45 from bfo_let (j := 0) (by rw [Nat.add_zero]; exact hl))
  clear hl
  go_enter Tryd.func15, Tryd.ntmps15
  go_wp2_with fail
  refine (hg _).mono ?_
  rintro e w1 ⟨rfl, rfl⟩
  clear hg
  go_wp2_with fail
  go_loop [4] (fun vi => ∃ j I : Nat, Hid (I = k + j) ∧ 1 ≤ j ∧ j ≤ 40 ∧ I ≤ S.size ∧ vi = .int .i64 I ∧ Hid (∀ p, p < j → idP S k p) ∧ Hid (bfo S k j ≠ 45)) (fun vi => S.size + 1 - (intOf vi).toNat)
  case atStart => exact ⟨1, k + 1, Lib.hid rfl, by omega, by omega, by omega, by go_num, P0, B0⟩
  case round =>
    clear P0 B0
    obtain ⟨j, I, HI, hj1, hj, hIs, rfl, HA, HB⟩ := hrel
    have wj : IntKind.i64.wrap ((I : Int) - (k : Int)) = (j : Int) := by rw [IntKind.wrap_i64, HI.out]; omega
    by_cases j40 : j < 40
    · have d1 : decide (j < 40) = true := dtrue j40
      have d2 : decide ((j : Int) < 40) = true := dtrue (by omega)
      by_cases hI : I < S.size
      · have d3 : decide (I < S.size) = true := dtrue hI
        have sI : (I : Int) + 1 ≤ 9223372036854775807 := by omega
        cases hl : lt S I
        · have h1 := fun u => rlt_at S I (I : Int) rfl false hl u
          cases hd : dg S I
          · have h2 := fun u => rdg_at S I (I : Int) rfl false hd u
            have x1 := fun u => idx_at25 (S := S) (i := I) (x := (I : Int)) rfl hI u
            by_cases h45 : bt S I = 45
            · have q1 : (bt S I != 45) = false := by rw [h45]; rfl
              have q2 : (bt S I == 45) = true := beq_iff_eq.2 h45
              by_cases j39 : j = 39
              · have q3 : ((j : Int) == 39) = true := beq_iff_eq.2 (by omega)
                have q4 : (j == 39) = true := beq_iff_eq.2 j39
                have V := id_end HA.out (idP_no (by rw [← HI.out]; exact hl) (by rw [← HI.out]; exact hd) (fun _ _ => j39)) HB.out
                rw [← HI.out] at V
                have HV := Lib.hid V
                have HS := ext_run S k I (by rw [HI.out]; omega) hIs
                clear V
                clear j39 hl hd h45
                generalize bt S I = x at *
                go_wp2_with fail
                refine (h1 _).mono ?_
                rintro e w2 ⟨rfl, rfl⟩
                go_wp2_with fail
                refine (h2 _).mono ?_
                rintro e w2 ⟨rfl, rfl⟩
                go_wp2_with fail
                go_region
                go_wp2_with fail
                exact bodyPost_ret (v := .tuple #[.agg #[.string S, .int .i64 (I : Int), .bool false], .string (S.extract k I)]) (by simp [results, Tryd.results15, go_sem]) rfl ⟨by rw [HV.out.2.1, HV.out.2.2, HV.out.1, ← HI.out], (al2 w _ _).drew⟩
              · have q3 : ((j : Int) == 39) = false := beq_eq_false_iff_ne.2 (by omega)
                have q4 : (j == 39) = false := beq_eq_false_iff_ne.2 j39
                have PJ : idP S k j := ⟨by rw [← HI.out]; exact hI, j40, .inr (.inr ⟨by rw [← HI.out]; exact h45, HB.out, j39⟩)⟩
                have hy : bfo S k (j + 1) = 45 := by rw [bfo_succ, ← HI.out]; exact h45
                cases hl2 : lt S (I + 1)
                · have h3 := fun u => rlt_at S (I + 1) ((I : Int) + 1) (by omega) false hl2 u
                  cases hd2 : dg S (I + 1)
                  · have h4 := fun u => rdg_at S (I + 1) ((I : Int) + 1) (by omega) false hd2 u
                    have V := id_hyp (all_succ HA.out PJ) (idP_no (by rw [show k + (j + 1) = I + 1 by rw [HI.out]; omega]; exact hl2) (by rw [show k + (j + 1) = I + 1 by rw [HI.out]; omega]; exact hd2) (fun _ h => absurd hy h)) hy
                    have HV := Lib.hid V
                    have hf := fun u => rfa_at S k (I + 1) ((I : Int) + 1) (by omega) false u
                    clear j39 hl hd h45 hl2 hd2 V PJ hy
                    generalize bt S I = x at *
                    go_wp2_with fail
                    refine (h1 _).mono ?_
                    rintro e w2 ⟨rfl, rfl⟩
                    go_wp2_with fail
                    refine (h2 _).mono ?_
                    rintro e w2 ⟨rfl, rfl⟩
                    go_wp2_with fail
                    refine (h3 _).mono ?_
                    rintro e w2 ⟨rfl, rfl⟩
                    go_wp2_with fail
                    refine (h4 _).mono ?_
                    rintro e w2 ⟨rfl, rfl⟩
                    go_wp2_with fail
                    refine (hf _).mono ?_
                    rintro e v ⟨rfl, hb⟩
                    have rR := row_kept (row_new1 w (stO S k false) stZ) hb
                    have bl := below_on (al2 w (stO S k false) stZ) hb
                    obtain ⟨e0, e1, e2, y0, y1, y2, -⟩ := st_facts rR
                    clear hb
                    go_wp2_with fail
                    obtain ⟨u9, hu9⟩ : ∃ u9, u9 = ((v.setCell ⟨w.heap.size + 1, 0, none⟩ (.string S)).setCell ⟨w.heap.size + 1, 1, none⟩ (.int .i64 ((I : Int) + 1))).setCell ⟨w.heap.size + 1, 2, none⟩ (.bool true) := ⟨_, rfl⟩
                    obtain ⟨k0, k1, k2, kb⟩ := st_put (w := w) _ _ _ rR bl (by omega) hu9
                    rw [← hu9]
                    exact bodyPost_ret (v := .tuple #[.agg #[.string S, .int .i64 ((I : Int) + 1), .bool true], .string ⟨#[]⟩]) (by simp [results, Tryd.results15, go_sem, k0, k1, k2]) rfl ⟨by rw [HV.out.2.1, HV.out.2.2, HV.out.1, show k + (j + 1) = I + 1 by rw [HI.out]; omega]; rfl, kb⟩
                  · have h4 := fun u => rdg_at S (I + 1) ((I : Int) + 1) (by omega) true hd2 u
                    have i1 := (dg_iff.1 hd2).1
                    have PN := Lib.hid (all_succ (all_succ HA.out PJ) (idP_digit (by rw [show k + (j + 1) = I + 1 by rw [HI.out]; omega]; exact hd2) (by omega) (by omega)))
                    have BN := Lib.hid (show bfo S k (j + 1 + 1) ≠ 45 from bfo_dig (by rw [show k + (j + 1) = I + 1 by rw [HI.out]; omega]; exact hd2))
                    have sI2 : (I : Int) + 1 + 1 ≤ 9223372036854775807 := by omega
                    have J39 : j ≤ 38 := by omega
                    clear j39 hl hd h45 hl2 hd2 PJ hy
                    generalize bt S I = x at *
                    go_wp2_with fail
                    refine (h1 _).mono ?_
                    rintro e w2 ⟨rfl, rfl⟩
                    go_wp2_with fail
                    refine (h2 _).mono ?_
                    rintro e w2 ⟨rfl, rfl⟩
                    go_wp2_with fail
                    refine (h3 _).mono ?_
                    rintro e w2 ⟨rfl, rfl⟩
                    go_wp2_with fail
                    refine (h4 _).mono ?_
                    rintro e w2 ⟨rfl, rfl⟩
                    go_wp2_with fail
                    go_round
                    case rel => exact ⟨j + 1 + 1, I + 1 + 1, Lib.hid (by rw [HI.out]; omega), by omega, by omega, by omega, by go_num, PN, BN⟩
                    case measure => simp [intOf]; omega
                · have h3 := fun u => rlt_at S (I + 1) ((I : Int) + 1) (by omega) true hl2 u
                  have i1 := (lt_iff.1 hl2).1
                  have PN := Lib.hid (all_succ (all_succ HA.out PJ) (idP_letter (by rw [show k + (j + 1) = I + 1 by rw [HI.out]; omega]; exact hl2) (by omega)))
                  have BN := Lib.hid (show bfo S k (j + 1 + 1) ≠ 45 from bfo_let (by rw [show k + (j + 1) = I + 1 by rw [HI.out]; omega]; exact hl2))
                  have sI2 : (I : Int) + 1 + 1 ≤ 9223372036854775807 := by omega
                  have J39 : j ≤ 38 := by omega
                  clear j39 hl hd h45 hl2 PJ hy
                  generalize bt S I = x at *
                  go_wp2_with fail
                  refine (h1 _).mono ?_
                  rintro e w2 ⟨rfl, rfl⟩
                  go_wp2_with fail
                  refine (h2 _).mono ?_
                  rintro e w2 ⟨rfl, rfl⟩
                  go_wp2_with fail
                  refine (h3 _).mono ?_
                  rintro e w2 ⟨rfl, rfl⟩
                  go_wp2_with fail
                  go_round
                  case rel => exact ⟨j + 1 + 1, I + 1 + 1, Lib.hid (by rw [HI.out]; omega), by omega, by omega, by omega, by go_num, PN, BN⟩
                  case measure => simp [intOf]; omega
            · have q1 : (bt S I != 45) = true := by simp [h45]
              have q2 : (bt S I == 45) = false := beq_eq_false_iff_ne.2 h45
              have V := id_end HA.out (idP_no (by rw [← HI.out]; exact hl) (by rw [← HI.out]; exact hd) (fun h _ => absurd (by rw [HI.out]; exact h) h45)) HB.out
              rw [← HI.out] at V
              have HV := Lib.hid V
              have HS := ext_run S k I (by rw [HI.out]; omega) hIs
              clear V
              clear hl hd h45
              generalize bt S I = x at *
              go_wp2_with fail
              refine (h1 _).mono ?_
              rintro e w2 ⟨rfl, rfl⟩
              go_wp2_with fail
              refine (h2 _).mono ?_
              rintro e w2 ⟨rfl, rfl⟩
              go_wp2_with fail
              go_region
              go_wp2_with fail
              exact bodyPost_ret (v := .tuple #[.agg #[.string S, .int .i64 (I : Int), .bool false], .string (S.extract k I)]) (by simp [results, Tryd.results15, go_sem]) rfl ⟨by rw [HV.out.2.1, HV.out.2.2, HV.out.1, ← HI.out], (al2 w _ _).drew⟩
          · have h2 := fun u => rdg_at S I (I : Int) rfl true hd u
            have PN := Lib.hid (all_succ HA.out (idP_digit (by rw [← HI.out]; exact hd) j40 hj1))
            have BN := Lib.hid (show bfo S k (j + 1) ≠ 45 from bfo_dig (by rw [← HI.out]; exact hd))
            clear hl hd
            go_wp2_with fail
            refine (h1 _).mono ?_
            rintro e w2 ⟨rfl, rfl⟩
            go_wp2_with fail
            refine (h2 _).mono ?_
            rintro e w2 ⟨rfl, rfl⟩
            go_wp2_with fail
            go_round
            case rel => exact ⟨j + 1, I + 1, Lib.hid (by rw [HI.out]; omega), by omega, by omega, by omega, by go_num, PN, BN⟩
            case measure => simp [intOf]; omega
        · have h1 := fun u => rlt_at S I (I : Int) rfl true hl u
          have PN := Lib.hid (all_succ HA.out (idP_letter (by rw [← HI.out]; exact hl) j40))
          have BN := Lib.hid (show bfo S k (j + 1) ≠ 45 from bfo_let (by rw [← HI.out]; exact hl))
          clear hl
          go_wp2_with fail
          refine (h1 _).mono ?_
          rintro e w2 ⟨rfl, rfl⟩
          go_wp2_with fail
          go_round
          case rel => exact ⟨j + 1, I + 1, Lib.hid (by rw [HI.out]; omega), by omega, by omega, by omega, by go_num, PN, BN⟩
          case measure => simp [intOf]; omega
      · have d3 : decide (I < S.size) = false := dfalse hI
        have V := id_end HA.out (fun h => hI (by rw [HI.out]; exact h.1)) HB.out
        rw [← HI.out] at V
        have HV := Lib.hid V
        have HS := ext_run S k I (by rw [HI.out]; omega) hIs
        clear V
        go_wp2_with fail
        go_region
        go_wp2_with fail
        exact bodyPost_ret (v := .tuple #[.agg #[.string S, .int .i64 (I : Int), .bool false], .string (S.extract k I)]) (by simp [results, Tryd.results15, go_sem]) rfl ⟨by rw [HV.out.2.1, HV.out.2.2, HV.out.1, ← HI.out], (al2 w _ _).drew⟩
    · have d1 : decide (j < 40) = false := dfalse j40
      have d2 : decide ((j : Int) < 40) = false := dfalse (by omega)
      have V := id_end HA.out (fun h => j40 h.2.1) HB.out
      rw [← HI.out] at V
      have HV := Lib.hid V
      have HS := ext_run S k I (by rw [HI.out]; omega) hIs
      clear V
      go_wp2_with fail
      go_region
      go_wp2_with fail
      exact bodyPost_ret (v := .tuple #[.agg #[.string S, .int .i64 (I : Int), .bool false], .string (S.extract k I)]) (by simp [results, Tryd.results15, go_sem]) rfl ⟨by rw [HV.out.2.1, HV.out.2.2, HV.out.1, ← HI.out], (al2 w _ _).drew⟩
theorem rid_ok {S : ByteArray} {k : Nat} (hs : S.size < big) (w : World) :
    Calls Tryd.prog 15 #[sv S k false] w fun e w' => e = .returned (.tuple #[sv S (k + idL S k) (idB S k), .string (idV S k)]) ∧ Below w.heap.size w w' := by
  cases h : lt S k
  · exact rid_none h
  · exact rid_some hs h
end Go.Proofs.YtlodijncaojifaaDoor
