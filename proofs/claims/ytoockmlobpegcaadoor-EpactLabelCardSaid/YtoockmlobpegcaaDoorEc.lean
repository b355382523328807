/- The contracts of package epact's Of, Label and Name (and of strconv's Itoa below 100). -/
import Derived.Test.YtoockmlobpegcaaDoorEb
namespace Go.Proofs.YtoockmlobpegcaaDoor
open Go.RowKit

theorem eOf_one0 (y g k : Int) (w : World) (HG : ∀ w, Calls Tryd.prog 19 #[.int .i64 y] w fun e w' => e = .returned (numv g k) ∧ Below w.heap.size w w') (q : (k != 0) = true) :
    Calls Tryd.prog 9 #[.int .i64 1, .int .i64 y] w fun e w' => e = .returned (numv 0 k) ∧ Below w.heap.size w w' := by
  go_enter Tryd.func9, Tryd.ntmps9
  go_wp2_with fail
  refine (eform_any _).mono ?_
  rintro e w1 ⟨rfl, hown, hb1⟩
  go_wp2_with (at_lookup; refine look_fun rfl _ _ rfl lawI Tryd.underlying35 (zeroF _) w.heap.size rfl hown rfl key_one _ at_one has_one ?_)
  refine (HG _).mono ?_
  rintro e w2 ⟨rfl, hb2⟩
  have S2 := Lib.hid (below_on hb1 hb2)
  clear hb1 hb2 hown
  go_wp2_with fail
  go_ret2
  exact ⟨rfl, S2.out⟩
theorem eOf_one (y g n p r k : Int) (w : World) (HG : ∀ w, Calls Tryd.prog 19 #[.int .i64 y] w fun e w' => e = .returned (numv g k) ∧ Below w.heap.size w w') (HF : ∀ w, Calls Tryd.prog 27 #[.int .i64 y, .int .i64 g] w fun e w' => e = .returned (numv n p) ∧ w = w') (HE : ∀ w, Calls Tryd.prog 20 #[.int .i64 n] w fun e w' => e = .returned (.int .i64 r) ∧ w = w') :
    (k = 0 → p ≠ 0 → Calls Tryd.prog 9 #[.int .i64 1, .int .i64 y] w fun e w' => e = .returned (numv 0 p) ∧ Below w.heap.size w w') ∧ (k = 0 → p = 0 → Calls Tryd.prog 9 #[.int .i64 1, .int .i64 y] w fun e w' => e = .returned (numv r 0) ∧ Below w.heap.size w w') := by
  refine ⟨fun hk hp => ?_, fun hk hp => ?_⟩
  · subst hk
    have q : (p != 0) = true := by simp [hp]
    go_enter Tryd.func9, Tryd.ntmps9
    go_wp2_with fail
    refine (eform_any _).mono ?_
    rintro e w1 ⟨rfl, hown, hb1⟩
    go_wp2_with (at_lookup; refine look_fun rfl _ _ rfl lawI Tryd.underlying35 (zeroF _) w.heap.size rfl hown rfl key_one _ at_one has_one ?_)
    refine (HG _).mono ?_
    rintro e w2 ⟨rfl, hb2⟩
    have S2 := Lib.hid (below_on hb1 hb2)
    clear hb1 hb2 hown
    go_wp2_with fail
    refine (HF _).mono ?_
    rintro e wq ⟨rfl, rfl⟩
    go_wp2_with fail
    go_ret2
    exact ⟨rfl, S2.out⟩
  · subst hk
    subst hp
    go_enter Tryd.func9, Tryd.ntmps9
    go_wp2_with fail
    refine (eform_any _).mono ?_
    rintro e w1 ⟨rfl, hown, hb1⟩
    go_wp2_with (at_lookup; refine look_fun rfl _ _ rfl lawI Tryd.underlying35 (zeroF _) w.heap.size rfl hown rfl key_one _ at_one has_one ?_)
    refine (HG _).mono ?_
    rintro e w2 ⟨rfl, hb2⟩
    have S2 := Lib.hid (below_on hb1 hb2)
    clear hb1 hb2 hown
    go_wp2_with fail
    refine (HF _).mono ?_
    rintro e wq ⟨rfl, rfl⟩
    go_wp2_with fail
    refine (HE _).mono ?_
    rintro e wq ⟨rfl, rfl⟩
    go_wp2_with fail
    go_ret2
    exact ⟨rfl, S2.out⟩
theorem eOf_two0 (y g k : Int) (w : World) (HG : ∀ w, Calls Tryd.prog 19 #[.int .i64 y] w fun e w' => e = .returned (numv g k) ∧ Below w.heap.size w w') (q : (k != 0) = true) :
    Calls Tryd.prog 9 #[.int .i64 2, .int .i64 y] w fun e w' => e = .returned (numv 0 k) ∧ Below w.heap.size w w' := by
  go_enter Tryd.func9, Tryd.ntmps9
  go_wp2_with fail
  refine (eform_any _).mono ?_
  rintro e w1 ⟨rfl, hown, hb1⟩
  go_wp2_with (at_lookup; refine look_fun rfl _ _ rfl lawI Tryd.underlying35 (zeroF _) w.heap.size rfl hown rfl key_two _ at_two has_two ?_)
  refine (HG _).mono ?_
  rintro e w2 ⟨rfl, hb2⟩
  have S2 := Lib.hid (below_on hb1 hb2)
  clear hb1 hb2 hown
  go_wp2_with fail
  go_ret2
  exact ⟨rfl, S2.out⟩
theorem eOf_two (y g n p r k : Int) (w : World) (HG : ∀ w, Calls Tryd.prog 19 #[.int .i64 y] w fun e w' => e = .returned (numv g k) ∧ Below w.heap.size w w') (HF : ∀ w, Calls Tryd.prog 28 #[.int .i64 y, .int .i64 g] w fun e w' => e = .returned (numv n p) ∧ Below w.heap.size w w') (HE : ∀ w, Calls Tryd.prog 20 #[.int .i64 n] w fun e w' => e = .returned (.int .i64 r) ∧ w = w') :
    (k = 0 → p ≠ 0 → Calls Tryd.prog 9 #[.int .i64 2, .int .i64 y] w fun e w' => e = .returned (numv 0 p) ∧ Below w.heap.size w w') ∧ (k = 0 → p = 0 → Calls Tryd.prog 9 #[.int .i64 2, .int .i64 y] w fun e w' => e = .returned (numv r 0) ∧ Below w.heap.size w w') := by
  refine ⟨fun hk hp => ?_, fun hk hp => ?_⟩
  · subst hk
    have q : (p != 0) = true := by simp [hp]
    go_enter Tryd.func9, Tryd.ntmps9
    go_wp2_with fail
    refine (eform_any _).mono ?_
    rintro e w1 ⟨rfl, hown, hb1⟩
    go_wp2_with (at_lookup; refine look_fun rfl _ _ rfl lawI Tryd.underlying35 (zeroF _) w.heap.size rfl hown rfl key_two _ at_two has_two ?_)
    refine (HG _).mono ?_
    rintro e w2 ⟨rfl, hb2⟩
    have S2 := Lib.hid (below_on hb1 hb2)
    clear hb1 hb2 hown
    go_wp2_with fail
    refine (HF _).mono ?_
    rintro e w3 ⟨rfl, hb3⟩
    have S2 := Lib.hid (below_on S2.out hb3)
    clear hb3
    go_wp2_with fail
    go_ret2
    exact ⟨rfl, S2.out⟩
  · subst hk
    subst hp
    go_enter Tryd.func9, Tryd.ntmps9
    go_wp2_with fail
    refine (eform_any _).mono ?_
    rintro e w1 ⟨rfl, hown, hb1⟩
    go_wp2_with (at_lookup; refine look_fun rfl _ _ rfl lawI Tryd.underlying35 (zeroF _) w.heap.size rfl hown rfl key_two _ at_two has_two ?_)
    refine (HG _).mono ?_
    rintro e w2 ⟨rfl, hb2⟩
    have S2 := Lib.hid (below_on hb1 hb2)
    clear hb1 hb2 hown
    go_wp2_with fail
    refine (HF _).mono ?_
    rintro e w3 ⟨rfl, hb3⟩
    have S2 := Lib.hid (below_on S2.out hb3)
    clear hb3
    go_wp2_with fail
    refine (HE _).mono ?_
    rintro e wq ⟨rfl, rfl⟩
    go_wp2_with fail
    go_ret2
    exact ⟨rfl, S2.out⟩
theorem epN_at {c y : Int} (h : epE c y = 0) : epN c y = epc c y ∧ epL c y = lab c y := by unfold epN epL; rw [if_pos h, if_pos h]; exact ⟨rfl, rfl⟩
theorem epN_no {c y : Int} (h : epE c y ≠ 0) : epN c y = 0 ∧ epL c y = 0 := by unfold epN epL; rw [if_neg h, if_neg h]; exact ⟨rfl, rfl⟩
theorem eOf_any (c y : Int) (w : World) (hw : (Lit.int .i64 c).wf = true) : Calls Tryd.prog 9 #[.int .i64 c, .int .i64 y] w fun e w' => e = .returned (numv (epN c y) (epE c y)) ∧ Below w.heap.size w w' := by
  have HG := fun w => ggold_any y w
  obtain ⟨g1, g2⟩ := gold_bd y
  by_cases h1 : c = 1
  · subst h1
    cases h : inY y
    · have e : epE 1 y = 1 := by unfold epE; rw [if_pos (by decide), epIn_one, h]; rfl
      rw [(epN_no (by omega)).1, e]
      rw [h] at HG
      exact eOf_one0 y 0 1 w HG (by decide)
    · have e : epE 1 y = 0 := epE_ok (by decide) h
      rw [(epN_at e).1, e]
      rw [h] at HG
      exact (eOf_one y (gold y) (11 * gold y - 3) 0 (ep30 (11 * gold y - 3)) 0 w HG (fun w => ejul_any y (gold y) w g1 g2) (fun w => eof_any _ w)).2 rfl rfl
  · by_cases h2 : c = 2
    · subst h2
      have HF := fun w => egre_any y (gold y) w g1 g2
      cases h : inY y
      · have hg : inG y = false := by
          cases hg : inG y with
          | false => rfl
          | true => have := inG_iff.1 hg; rw [inY_iff.2 (by omega)] at h; cases h
        have e : epE 2 y = 1 := by unfold epE; rw [if_pos (by decide), epIn_two, hg]; rfl
        rw [(epN_no (by omega)).1, e]
        rw [h] at HG
        exact eOf_two0 y 0 1 w HG (by decide)
      · rw [h] at HG
        cases hg : inG y
        · have e : epE 2 y = 1 := by unfold epE; rw [if_pos (by decide), epIn_two, hg]; rfl
          rw [(epN_no (by omega)).1, e]
          rw [hg] at HF
          exact (eOf_two y (gold y) 0 1 (ep30 0) 0 w HG HF (fun w => eof_any _ w)).1 rfl (by omega)
        · have e : epE 2 y = 0 := epE_ok (by decide) hg
          rw [(epN_at e).1, e]
          rw [hg] at HF
          exact (eOf_two y (gold y) (epG y) 0 (ep30 (epG y)) 0 w HG HF (fun w => eof_any _ w)).2 rfl rfl
    · have e : epE c y = 3 := by unfold epE; rw [okC_not h1 h2]; rfl
      rw [(epN_no (by omega)).1, e]
      exact eOf_no c y w hw h1 h2
theorem eLab_no (c y k : Int) (w : World) (HO : ∀ w, Calls Tryd.prog 9 #[.int .i64 c, .int .i64 y] w fun e w' => e = .returned (numv 0 k) ∧ Below w.heap.size w w') (q : (k != 0) = true) : Calls Tryd.prog 10 #[.int .i64 c, .int .i64 y] w fun e w' => e = .returned (numv 0 k) ∧ Below w.heap.size w w' := by
  have S0 := Lib.hid (Below.refl w.heap.size w)
  go_enter Tryd.func10, Tryd.ntmps10
  go_wp2_with fail
  refine (HO _).mono ?_
  rintro e w1 ⟨rfl, hb1⟩
  have S1 := Lib.hid (below_on S0.out hb1)
  clear hb1
  go_wp2_with fail
  go_ret2
  exact ⟨rfl, S1.out⟩
theorem eLab_31 (c y g : Int) (w : World) (HO : ∀ w, Calls Tryd.prog 9 #[.int .i64 c, .int .i64 y] w fun e w' => e = .returned (numv 25 0) ∧ Below w.heap.size w w') (HG : ∀ w, Calls Tryd.prog 19 #[.int .i64 y] w fun e w' => e = .returned (numv g 0) ∧ Below w.heap.size w w') (h : 11 < g) : Calls Tryd.prog 10 #[.int .i64 c, .int .i64 y] w fun e w' => e = .returned (numv 31 0) ∧ Below w.heap.size w w' := by
  have S0 := Lib.hid (Below.refl w.heap.size w)
  go_enter Tryd.func10, Tryd.ntmps10
  go_wp2_with fail
  refine (HO _).mono ?_
  rintro e w1 ⟨rfl, hb1⟩
  have S1 := Lib.hid (below_on S0.out hb1)
  clear hb1
  go_wp2_with fail
  refine (HG _).mono ?_
  rintro e w2 ⟨rfl, hb2⟩
  have S2 := Lib.hid (below_on S1.out hb2)
  clear hb2
  go_wp2_with fail
  go_ret2
  exact ⟨rfl, S2.out⟩
theorem eLab_lo (c y g : Int) (w : World) (HO : ∀ w, Calls Tryd.prog 9 #[.int .i64 c, .int .i64 y] w fun e w' => e = .returned (numv 25 0) ∧ Below w.heap.size w w') (HG : ∀ w, Calls Tryd.prog 19 #[.int .i64 y] w fun e w' => e = .returned (numv g 0) ∧ Below w.heap.size w w') (h : ¬ 11 < g) : Calls Tryd.prog 10 #[.int .i64 c, .int .i64 y] w fun e w' => e = .returned (numv 25 0) ∧ Below w.heap.size w w' := by
  have S0 := Lib.hid (Below.refl w.heap.size w)
  go_enter Tryd.func10, Tryd.ntmps10
  go_wp2_with fail
  refine (HO _).mono ?_
  rintro e w1 ⟨rfl, hb1⟩
  have S1 := Lib.hid (below_on S0.out hb1)
  clear hb1
  go_wp2_with fail
  refine (HG _).mono ?_
  rintro e w2 ⟨rfl, hb2⟩
  have S2 := Lib.hid (below_on S1.out hb2)
  clear hb2
  go_wp2_with fail
  go_ret2
  exact ⟨rfl, S2.out⟩
theorem eLab_pl (c y a g : Int) (w : World) (HO : ∀ w, Calls Tryd.prog 9 #[.int .i64 c, .int .i64 y] w fun e w' => e = .returned (numv a 0) ∧ Below w.heap.size w w') (HG : ∀ w, Calls Tryd.prog 19 #[.int .i64 y] w fun e w' => e = .returned (numv g 0) ∧ Below w.heap.size w w') (q : (a == 25) = false) : Calls Tryd.prog 10 #[.int .i64 c, .int .i64 y] w fun e w' => e = .returned (numv a 0) ∧ Below w.heap.size w w' := by
  have S0 := Lib.hid (Below.refl w.heap.size w)
  go_enter Tryd.func10, Tryd.ntmps10
  go_wp2_with fail
  refine (HO _).mono ?_
  rintro e w1 ⟨rfl, hb1⟩
  have S1 := Lib.hid (below_on S0.out hb1)
  clear hb1
  go_wp2_with fail
  refine (HG _).mono ?_
  rintro e w2 ⟨rfl, hb2⟩
  have S2 := Lib.hid (below_on S1.out hb2)
  clear hb2
  go_wp2_with fail
  go_ret2
  exact ⟨rfl, S2.out⟩
theorem eLab_any (c y : Int) (w : World) (hw : (Lit.int .i64 c).wf = true) : Calls Tryd.prog 10 #[.int .i64 c, .int .i64 y] w fun e w' => e = .returned (numv (epL c y) (epE c y)) ∧ Below w.heap.size w w' := by
  have HO := fun w => eOf_any c y w hw
  by_cases h : epE c y = 0
  · have HG := fun w => ggold_any y w
    obtain ⟨e1, e2⟩ := epN_at h
    rw [e1, h] at HO
    rw [inY_iff.2 (epE_inY h)] at HG
    rw [e2, h]
    unfold lab lbl
    by_cases ha : epc c y = 25
    · rw [ha] at HO ⊢
      by_cases hg : 11 < gold y
      · rw [if_pos ⟨rfl, hg⟩]; exact eLab_31 c y _ w HO HG hg
      · rw [if_neg (fun g => hg g.2)]; exact eLab_lo c y _ w HO HG hg
    · rw [if_neg (fun g => ha g.1)]; exact eLab_pl c y _ _ w HO HG (by rw [beq_eq_false_iff_ne]; exact ha)
  · obtain ⟨e1, e2⟩ := epN_no h
    rw [e1] at HO
    rw [e2]
    exact eLab_no c y _ w HO (by rw [bne_iff_ne]; exact h)

/-! names -/
theorem small_one (n : Int) (w : World) (h1 : 1 ≤ n) (h2 : n < 10) : Calls Tryd.prog 46 #[.int .i64 n] w fun e w' => e = .returned (.string ⟨#[dig n]⟩) ∧ w = w' := by
  go_enter Tryd.func46, Tryd.ntmps46
  go_wp2
  rw [run_slice_string w _ _ _ _ _ _ Tryd.underlying9 (by omega) (by omega) (by simp [ByteArray.size]; omega)]
  go_wp2
  go_ret
  have h : n = 1 ∨ n = 2 ∨ n = 3 ∨ n = 4 ∨ n = 5 ∨ n = 6 ∨ n = 7 ∨ n = 8 ∨ n = 9 := by omega
  clear h1 h2
  rcases h with rfl | rfl | rfl | rfl | rfl | rfl | rfl | rfl | rfl
  all_goals exact ⟨by kernel_rfl, rfl⟩
set_option maxRecDepth 100000 in
theorem small_two (n : Int) (w : World) (h1 : 10 ≤ n) (h2 : n < 30) : Calls Tryd.prog 46 #[.int .i64 n] w fun e w' => e = .returned (.string ⟨#[dig (n / 10), dig (n % 10)]⟩) ∧ w = w' := by
  go_enter Tryd.func46, Tryd.ntmps46
  go_wp2
  rw [run_slice_string w _ _ _ _ _ _ Tryd.underlying9 (by omega) (by omega) (by simp [ByteArray.size]; omega)]
  go_wp2
  go_ret
  have h : n = 10 ∨ n = 11 ∨ n = 12 ∨ n = 13 ∨ n = 14 ∨ n = 15 ∨ n = 16 ∨ n = 17 ∨ n = 18 ∨ n = 19 ∨ n = 20 ∨ n = 21 ∨ n = 22 ∨ n = 23 ∨ n = 24 ∨ n = 25 ∨ n = 26 ∨ n = 27 ∨ n = 28 ∨ n = 29 := by omega
  clear h1 h2
  rcases h with rfl | rfl | rfl | rfl | rfl | rfl | rfl | rfl | rfl | rfl | rfl | rfl | rfl | rfl | rfl | rfl | rfl | rfl | rfl | rfl
  all_goals exact ⟨by kernel_rfl, rfl⟩
theorem fmti_any (n : Int) (s : ByteArray) (w : World) (h1 : 1 ≤ n) (h2 : n < 100) (H : ∀ w, Calls Tryd.prog 46 #[.int .i64 n] w fun e w' => e = .returned (.string s) ∧ w = w') : Calls Tryd.prog 37 #[.int .i64 n, .int .i64 10] w fun e w' => e = .returned (.string s) ∧ w = w' := by
  go_enter Tryd.func37, Tryd.ntmps37
  go_wp2_with fail
  refine (H _).mono ?_
  rintro e wq ⟨rfl, rfl⟩
  go_wp2_with fail
  go_ret
  exact ⟨rfl, rfl⟩
theorem itoi_any (n : Int) (s : ByteArray) (w : World) (H : ∀ w, Calls Tryd.prog 37 #[.int .i64 n, .int .i64 10] w fun e w' => e = .returned (.string s) ∧ w = w') : Calls Tryd.prog 32 #[.int .i64 n] w fun e w' => e = .returned (.string s) ∧ w = w' := by
  go_enter Tryd.func32, Tryd.ntmps32
  go_wp2_with fail
  refine (H _).mono ?_
  rintro e wq ⟨rfl, rfl⟩
  go_wp2_with fail
  go_ret
  exact ⟨rfl, rfl⟩
theorem itoa_any (n : Int) (s : ByteArray) (w : World) (H : ∀ w, Calls Tryd.prog 32 #[.int .i64 n] w fun e w' => e = .returned (.string s) ∧ w = w') : Calls Tryd.prog 23 #[.int .i64 n] w fun e w' => e = .returned (.string s) ∧ w = w' := by
  go_enter Tryd.func23, Tryd.ntmps23
  go_wp2_with fail
  refine (H _).mono ?_
  rintro e wq ⟨rfl, rfl⟩
  go_wp2_with fail
  go_ret
  exact ⟨rfl, rfl⟩
theorem itoa_sml (n : Int) (s : ByteArray) (w : World) (h1 : 1 ≤ n) (h2 : n < 100) (H : ∀ w, Calls Tryd.prog 46 #[.int .i64 n] w fun e w' => e = .returned (.string s) ∧ w = w') : Calls Tryd.prog 23 #[.int .i64 n] w fun e w' => e = .returned (.string s) ∧ w = w' :=
  itoa_any n s w fun w => itoi_any n s w fun w => fmti_any n s w h1 h2 H
theorem nam_lo (l : Int) (w : World) (h : l < 1) : Calls Tryd.prog 12 #[.int .i64 l] w fun e w' => e = .returned (.string ⟨#[]⟩) ∧ w = w' := by
  go_enter Tryd.func12, Tryd.ntmps12
  go_wp2
  go_ret
  exact ⟨rfl, rfl⟩
theorem nam_hi (l : Int) (w : World) (h1 : ¬ l < 1) (h : 31 < l) : Calls Tryd.prog 12 #[.int .i64 l] w fun e w' => e = .returned (.string ⟨#[]⟩) ∧ w = w' := by
  go_enter Tryd.func12, Tryd.ntmps12
  go_wp2
  go_ret
  exact ⟨rfl, rfl⟩
theorem nam_30 (l : Int) (w : World) (h : l = 30) : Calls Tryd.prog 12 #[.int .i64 l] w fun e w' => e = .returned (.string ⟨#[42]⟩) ∧ w = w' := by
  subst h
  go_enter Tryd.func12, Tryd.ntmps12
  go_wp2
  go_ret
  exact ⟨rfl, rfl⟩
theorem nam_31 (l : Int) (w : World) (h : l = 31) (H : ∀ w, Calls Tryd.prog 23 #[.int .i64 25] w fun e w' => e = .returned (.string ⟨#[50, 53]⟩) ∧ w = w') : Calls Tryd.prog 12 #[.int .i64 l] w fun e w' => e = .returned (.string ⟨#[50, 53, 39]⟩) ∧ w = w' := by
  subst h
  go_enter Tryd.func12, Tryd.ntmps12
  go_wp2_with fail
  refine (H _).mono ?_
  rintro e wq ⟨rfl, rfl⟩
  go_wp2_with fail
  go_ret
  exact ⟨by first | rfl | kernel_rfl, rfl⟩
theorem nam_in (l : Int) (s : ByteArray) (w : World) (h1 : 1 ≤ l) (h2 : l < 30) (H : ∀ w, Calls Tryd.prog 23 #[.int .i64 l] w fun e w' => e = .returned (.string s) ∧ w = w') : Calls Tryd.prog 12 #[.int .i64 l] w fun e w' => e = .returned (.string s) ∧ w = w' := by
  go_enter Tryd.func12, Tryd.ntmps12
  go_wp2_with fail
  refine (H _).mono ?_
  rintro e wq ⟨rfl, rfl⟩
  go_wp2_with fail
  go_ret
  exact ⟨rfl, rfl⟩
theorem nam_any (l : Int) (w : World) : Calls Tryd.prog 12 #[.int .i64 l] w fun e w' => e = .returned (.string (lnm l)) ∧ w = w' := by
  unfold lnm
  by_cases h : l < 1 ∨ 31 < l
  · rw [if_pos h]
    rcases Int.lt_or_le l 1 with g | g
    · exact nam_lo l w g
    · exact nam_hi l w (by omega) (by omega)
  · rw [if_neg h]
    by_cases h0 : l = 30
    · rw [if_pos h0]; exact nam_30 l w h0
    · rw [if_neg h0]
      by_cases h1 : l = 31
      · rw [if_pos h1]; exact nam_31 l w h1 (fun w => itoa_sml 25 _ w (by omega) (by omega) (fun w => small_two 25 w (by omega) (by omega)))
      · rw [if_neg h1]
        by_cases h2 : l < 10
        · rw [if_pos h2]; exact nam_in l _ w (by omega) (by omega) (fun w => itoa_sml l _ w (by omega) (by omega) (fun w => small_one l w (by omega) h2))
        · rw [if_neg h2]; exact nam_in l _ w (by omega) (by omega) (fun w => itoa_sml l _ w (by omega) (by omega) (fun w => small_two l w (by omega) (by omega)))
end Go.Proofs.YtoockmlobpegcaaDoor
