/- What earlier stages proved: Fn. -/
import Derived.Test.YtiidmnmedkekjaaKf
import Derived.Test.YtiidmnmedkekjaaKc
import Derived.Deep.WholeRow
import Derived.LoopN
import Derived.OneCell
namespace Go.Proofs.Ytiidmnmedkekjaa
open Go.RowKit

theorem psyn (w : World) : Calls Try.prog 42 #[] w fun e w' => e = .returned (.float .f64 wS) ∧ w = w' := by
  go_enter Try.func42, Try.ntmps42
  go_wp2
  go_ret
  exact ⟨rfl, rfl⟩
theorem pepo (w : World) : Calls Try.prog 43 #[] w fun e w' => e = .returned (.float .f64 wE) ∧ w = w' := by
  go_enter Try.func43, Try.ntmps43
  go_wp2
  go_ret
  exact ⟨rfl, rfl⟩
theorem pnop (w : World) : Calls Try.prog 40 #[] w fun e w' => e = .returned (.float .f64 9221120237041090561) ∧ w = w' := by
  have hF : ∀ w, (callFunc 10 #[.int .u64 9221120237041090561]).run Try.prog w = .ok (.value (.float .f64 9221120237041090561)) w := f64from 9221120237041090561
  go_enter Try.func40, Try.ntmps40
  go_wp2
  go_ret
  exact ⟨rfl, rfl⟩
theorem mIsInf (x : Nat) (hx : x < 18446744073709551616) (w : World) : Calls Try.prog 48 #[.float .f64 x, .int .i64 0] w fun e w' => e = .returned (.bool (decide (rg x = 9218868437227405312))) ∧ w = w' := by
  have H := fun w => mAbs x w hx
  have hr := rg_lt x
  have hm : Fin 9218868437227405311 := by unfold Fin; decide
  have hrr : rg (rg x) = rg x := rg_small hr
  rcases Nat.lt_trichotomy (rg x) 9218868437227405312 with l | l | l
  · rw [decide_eq_false (by omega)]
    have hf : Fin (rg x) := by unfold Fin; rw [hrr]; exact l
    have ho : FloatKind.f64.format.order (rg x) 9218868437227405311 = some .lt ∨ FloatKind.f64.format.order (rg x) 9218868437227405311 = some .eq := by
      rcases Nat.lt_or_ge (rg x) 9218868437227405311 with g | g
      · exact .inl (ord_lt hf hm (by rw [SV_small hr, SV_small (w := 9218868437227405311) (by decide)]; exact Int.ofNat_lt.2 (U_lt g)))
      · exact .inr (ord_eq hf hm (by rw [show rg x = 9218868437227405311 by omega]))
    clear hm hrr hf hr l hx
    generalize rg x = r at *
    rcases ho with ho | ho
    all_goals
      go_enter Try.func48, Try.ntmps48
      go_wp2_with fail
      refine (H _).mono ?_
      rintro e w' ⟨rfl, rfl⟩
      go_wp2_with fail
      go_ret
      exact ⟨rfl, rfl⟩
  · rw [decide_eq_true l]
    have ho := ord_inf (x := rg x) (by rw [hrr]; exact l) hm
    rw [show sg (rg x) = false from sg_small hr, if_neg (by decide)] at ho
    clear hm hrr hr l hx
    generalize rg x = r at *
    go_enter Try.func48, Try.ntmps48
    go_wp2_with fail
    refine (H _).mono ?_
    rintro e w' ⟨rfl, rfl⟩
    go_wp2_with fail
    go_ret
    exact ⟨rfl, rfl⟩
  · rw [decide_eq_false (by omega)]
    have ho := ord_nan (x := rg x) (y := 9218868437227405311) (by rw [hrr]; exact l)
    clear hm hrr hr l hx
    generalize rg x = r at *
    go_enter Try.func48, Try.ntmps48
    go_wp2_with fail
    refine (H _).mono ?_
    rintro e w' ⟨rfl, rfl⟩
    go_wp2_with fail
    go_ret
    exact ⟨rfl, rfl⟩
theorem qW_le {x : Nat} (hx : Fin x) : rg (qW x) ≤ 9218868437227405312 ∧ qW x < 18446744073709551616 := by
  have h := div_q hx
  refine ⟨?_, some_lt h⟩
  obtain ⟨m, e, r, _⟩ := read_fin (dW_fin hx)
  unfold Ieee.Format.div at h
  rw [r, read_S] at h
  unfold Ieee.Datum.quotient at h
  dsimp only at h
  rw [if_neg (by decide)] at h
  dsimp only [Option.map_some, Ieee.Format.write] at h
  rw [nearest_is] at h
  have e2 := Option.some.inj h
  rw [← e2, rg_wd _ (by omega)]
  exact Nat.min_le_right _ _
theorem pq_ok (x d q : Nat) (H1 : ∀ w, Calls Try.prog 27 #[.float .f64 q] w fun e w' => e = .returned (.bool false) ∧ w = w') (H2 : ∀ w, Calls Try.prog 48 #[.float .f64 q, .int .i64 0] w fun e w' => e = .returned (.bool false) ∧ w = w')
    (hS : ∀ w, (binOp .sub 24 (.float .f64 x) (.float .f64 wE)).run Try.prog w = .ok (.float .f64 d) w) (hD : ∀ w, (binOp .quo 24 (.float .f64 d) (.float .f64 wS)).run Try.prog w = .ok (.float .f64 q) w) (w : World) :
    Calls Try.prog 34 #[.float .f64 x] w fun e w' => e = .returned (fbv q true) ∧ w = w' := by
  go_enter Try.func34, Try.ntmps34
  go_wp2_with fail
  refine (pepo _).mono ?_
  rintro e w' ⟨rfl, rfl⟩
  go_wp2_with fail
  refine (psyn _).mono ?_
  rintro e w' ⟨rfl, rfl⟩
  go_wp2_with fail
  refine (H1 _).mono ?_
  rintro e w' ⟨rfl, rfl⟩
  go_wp2_with fail
  refine (H2 _).mono ?_
  rintro e w' ⟨rfl, rfl⟩
  go_wp2_with fail
  go_ret2
  exact ⟨rfl, rfl⟩
theorem pq_inf (x d q : Nat) (H1 : ∀ w, Calls Try.prog 27 #[.float .f64 q] w fun e w' => e = .returned (.bool false) ∧ w = w') (H2 : ∀ w, Calls Try.prog 48 #[.float .f64 q, .int .i64 0] w fun e w' => e = .returned (.bool true) ∧ w = w')
    (hS : ∀ w, (binOp .sub 24 (.float .f64 x) (.float .f64 wE)).run Try.prog w = .ok (.float .f64 d) w) (hD : ∀ w, (binOp .quo 24 (.float .f64 d) (.float .f64 wS)).run Try.prog w = .ok (.float .f64 q) w) (w : World) :
    Calls Try.prog 34 #[.float .f64 x] w fun e w' => e = .returned (fbv 0 false) ∧ w = w' := by
  go_enter Try.func34, Try.ntmps34
  go_wp2_with fail
  refine (pepo _).mono ?_
  rintro e w' ⟨rfl, rfl⟩
  go_wp2_with fail
  refine (psyn _).mono ?_
  rintro e w' ⟨rfl, rfl⟩
  go_wp2_with fail
  refine (H1 _).mono ?_
  rintro e w' ⟨rfl, rfl⟩
  go_wp2_with fail
  refine (H2 _).mono ?_
  rintro e w' ⟨rfl, rfl⟩
  go_wp2_with fail
  go_ret2
  exact ⟨rfl, rfl⟩
theorem pq_nan (x : Nat) (hx : 9218868437227405312 < rg x) (w : World) :
    Calls Try.prog 34 #[.float .f64 x] w fun e w' => e = .returned (fbv 0 false) ∧ w' = w.drew.drew := by
  obtain ⟨nb, hn, hS⟩ := run_invalid (P := Try.prog) .sub 24 x wE (.inr (.inl rfl)) (sub_nan hx)
  obtain ⟨nc, hm, hD⟩ := run_invalid (P := Try.prog) .quo 24 (nb w) wS (.inr (.inr (.inr rfl))) (div_nanS (hn w).1)
  have hS' := hS w
  have hD' := hD w.drew
  have H1 := fun u => mIsNaN (nc w.drew) u
  rw [decide_eq_true (hm w.drew).1] at H1
  clear hS hD hn hm hx
  generalize nb w = d at *
  generalize nc w.drew = q at *
  go_enter Try.func34, Try.ntmps34
  go_wp2_with fail
  refine (pepo _).mono ?_
  rintro e w' ⟨rfl, rfl⟩
  go_wp2_with fail
  refine (psyn _).mono ?_
  rintro e w' ⟨rfl, rfl⟩
  go_wp2_with fail
  refine (H1 _).mono ?_
  rintro e w' ⟨rfl, rfl⟩
  go_wp2_with fail
  go_ret2
  exact ⟨rfl, rfl⟩
/-- quotient, whatever the value. -/
theorem pq_yes (x : Nat) (hr : regB x = true) (w : World) : Calls Try.prog 34 #[.float .f64 x] w fun e w' => e = .returned (fbv (qW x) true) ∧ Below w.heap.size w w' := by
  obtain ⟨hx, hq⟩ := regB_iff.1 hr
  have hq' : rg (qW x) < 9218868437227405312 := hq
  have H1 := fun w => mIsNaN (qW x) w
  have H2 := fun w => mIsInf (qW x) (qW_le hx).2 w
  rw [decide_eq_false (by omega)] at H1 H2
  exact (pq_ok x _ _ H1 H2 (fun w => run_fsub (P := Try.prog) 24 (sub_E hx) w) (fun w => run_fdiv (P := Try.prog) 24 (div_q hx) w) w).mono fun e w' h => ⟨h.1, by rw [← h.2]; exact Below.refl _ _⟩
theorem pq_no (x : Nat) (hr : regB x = false) (w : World) : Calls Try.prog 34 #[.float .f64 x] w fun e w' => e = .returned (fbv 0 false) ∧ Below w.heap.size w w' := by
  rcases Nat.lt_trichotomy (rg x) 9218868437227405312 with l | l | l
  · have hx : Fin x := l
    have hq : ¬ Fin (qW x) := fun h => by rw [regB_iff.2 ⟨hx, h⟩] at hr; cases hr
    have hq' : ¬ rg (qW x) < 9218868437227405312 := hq
    have hle := (qW_le hx).1
    have H1 := fun w => mIsNaN (qW x) w
    have H2 := fun w => mIsInf (qW x) (qW_le hx).2 w
    rw [decide_eq_false (by omega)] at H1
    rw [decide_eq_true (by omega)] at H2
    exact (pq_inf x _ _ H1 H2 (fun w => run_fsub (P := Try.prog) 24 (sub_E hx) w) (fun w => run_fdiv (P := Try.prog) 24 (div_q hx) w) w).mono fun e w' h => ⟨h.1, by rw [← h.2]; exact Below.refl _ _⟩
  · have hi : rg (wd (sg x) 9218868437227405312) = 9218868437227405312 := rg_wd _ (by decide)
    have hi' : rg (wd (sg (wd (sg x) 9218868437227405312)) 9218868437227405312) = 9218868437227405312 := rg_wd _ (by decide)
    have H1 := fun w => mIsNaN (wd (sg (wd (sg x) 9218868437227405312)) 9218868437227405312) w
    have H2 := fun w => mIsInf (wd (sg (wd (sg x) 9218868437227405312)) 9218868437227405312) (by unfold wd; split <;> decide) w
    rw [hi', decide_eq_false (by omega)] at H1
    rw [hi', decide_eq_true rfl] at H2
    exact (pq_inf x _ _ H1 H2 (fun w => run_fsub (P := Try.prog) 24 (sub_infE l) w) (fun w => run_fdiv (P := Try.prog) 24 (div_infS hi) w) w).mono fun e w' h => ⟨h.1, by rw [← h.2]; exact Below.refl _ _⟩
  · exact (pq_nan x l w).mono fun e w' h => ⟨h.1, by rw [h.2]; exact ((Below.refl _ _).drew).drew⟩

theorem pfrac0 (q f g p : Nat) (HF : ∀ w, Calls Try.prog 36 #[.float .f64 q] w fun e w' => e = .returned (.float .f64 f) ∧ w = w')
    (hS : ∀ w, (binOp .sub 24 (.float .f64 q) (.float .f64 f)).run Try.prog w = .ok (.float .f64 g) w)
    (ho : (FloatKind.f64.format.order g 0 = some .eq ∧ p = 0) ∨ (FloatKind.f64.format.order g 0 = some .gt ∧ FloatKind.f64.format.order g 4607182418800017408 = some .eq ∧ p = 0) ∨ (FloatKind.f64.format.order g 0 = some .gt ∧ FloatKind.f64.format.order g 4607182418800017408 = some .lt ∧ p = g)) (w : World) :
    Calls Try.prog 41 #[.float .f64 q] w fun e w' => e = .returned (.float .f64 p) ∧ w = w' := by
  rcases ho with ⟨o1, rfl⟩ | ⟨o1, o2, rfl⟩ | ⟨o1, o2, rfl⟩
  all_goals
    go_enter Try.func41, Try.ntmps41
    go_wp2_with fail
    refine (HF _).mono ?_
    rintro e w' ⟨rfl, rfl⟩
    go_wp2_with fail
    go_ret
    exact ⟨rfl, rfl⟩
theorem pfrac (q : Nat) (hq : Fin q) (w : World) : Calls Try.prog 41 #[.float .f64 q] w fun e w' => e = .returned (.float .f64 (ph q)) ∧ w = w' := by
  obtain ⟨_, d2, d3, _⟩ := dn_is hq
  obtain ⟨s, s1, s2, s3, s4⟩ := sub_dn hq d2 d3
  refine pfrac0 q _ _ _ (fun w => mFloor _ w hq) (fun w => run_fsub (P := Try.prog) 24 s1 w) ?_ w
  rcases ph_cases q with ⟨e, z | o⟩ | ⟨e, p1, p2⟩
  · exact .inl ⟨ord_eq s2 fin_zero (by rw [s3, SV_zero, z, U_zero]; rfl), e⟩
  · refine .inr (.inl ⟨ord_gt s2 fin_zero ?_, ord_eq s2 fin_one (by rw [s3, SV_one, o, U_one]), e⟩)
    rw [s3, SV_zero, o, U_one]; exact ONE_int
  · refine .inr (.inr ⟨ord_gt s2 fin_zero ?_, ord_lt s2 fin_one ?_, by rw [e, s4 p1]; rfl⟩)
    · rw [s3, SV_zero, ← Int.natCast_zero, ← U_zero]; exact Int.ofNat_lt.2 (U_lt p1)
    · rw [s3, SV_one, ← U_one]; exact Int.ofNat_lt.2 (U_lt p2)
theorem pph_no (x : Nat) (HQ : ∀ w, Calls Try.prog 34 #[.float .f64 x] w fun e w' => e = .returned (fbv 0 false) ∧ Below w.heap.size w w') (w : World) :
    Calls Try.prog 16 #[.float .f64 x] w fun e w' => e = .returned (.float .f64 9221120237041090561) ∧ Below w.heap.size w w' := by
  go_enter Try.func16, Try.ntmps16
  go_wp2_with fail
  refine (HQ _).mono ?_
  rintro e w1 ⟨rfl, hb1⟩
  have S1 := Lib.hid hb1
  clear hb1
  go_wp2_with fail
  refine (pnop _).mono ?_
  rintro e w' ⟨rfl, rfl⟩
  go_wp2_with fail
  go_ret
  exact ⟨rfl, S1.out⟩
theorem pph_yes (x q p : Nat) (HQ : ∀ w, Calls Try.prog 34 #[.float .f64 x] w fun e w' => e = .returned (fbv q true) ∧ Below w.heap.size w w') (HF : ∀ w, Calls Try.prog 41 #[.float .f64 q] w fun e w' => e = .returned (.float .f64 p) ∧ w = w') (w : World) :
    Calls Try.prog 16 #[.float .f64 x] w fun e w' => e = .returned (.float .f64 p) ∧ Below w.heap.size w w' := by
  go_enter Try.func16, Try.ntmps16
  go_wp2_with fail
  refine (HQ _).mono ?_
  rintro e w1 ⟨rfl, hb1⟩
  have S1 := Lib.hid hb1
  clear hb1
  go_wp2_with fail
  refine (HF _).mono ?_
  rintro e w' ⟨rfl, rfl⟩
  go_wp2_with fail
  go_ret
  exact ⟨rfl, S1.out⟩
theorem pphase (x : Nat) (w : World) : Calls Try.prog 16 #[.float .f64 x] w fun e w' => e = .returned (.float .f64 (phR x)) ∧ Below w.heap.size w w' := by
  unfold phR
  cases h : regB x
  · rw [if_neg (by decide)]; exact pph_no x (fun w => pq_no x h w) w
  · rw [if_pos rfl]
    exact pph_yes x _ _ (fun w => pq_yes x h w) (fun w => pfrac _ (regB_iff.1 h).2 w) w
theorem pag_no (x : Nat) (HP : ∀ w, Calls Try.prog 16 #[.float .f64 x] w fun e w' => e = .returned (.float .f64 9221120237041090561) ∧ Below w.heap.size w w') (w : World) :
    Calls Try.prog 18 #[.float .f64 x] w fun e w' => e = .returned (.float .f64 9221120237041090561) ∧ Below w.heap.size w w' := by
  go_enter Try.func18, Try.ntmps18
  go_wp2_with fail
  refine (HP _).mono ?_
  rintro e w1 ⟨rfl, hb1⟩
  have S1 := Lib.hid hb1
  clear hb1
  go_wp2_with fail
  refine (isnan_N _).mono ?_
  rintro e w' ⟨rfl, rfl⟩
  go_wp2_with fail
  refine (pnop _).mono ?_
  rintro e w' ⟨rfl, rfl⟩
  go_wp2_with fail
  go_ret
  exact ⟨rfl, S1.out⟩
theorem pag_yes (x p g : Nat) (HP : ∀ w, Calls Try.prog 16 #[.float .f64 x] w fun e w' => e = .returned (.float .f64 p) ∧ Below w.heap.size w w') (HN : ∀ w, Calls Try.prog 27 #[.float .f64 p] w fun e w' => e = .returned (.bool false) ∧ w = w')
    (hM : ∀ w, (binOp .mul 24 (.float .f64 p) (.float .f64 wS)).run Try.prog w = .ok (.float .f64 g) w) (w : World) :
    Calls Try.prog 18 #[.float .f64 x] w fun e w' => e = .returned (.float .f64 g) ∧ Below w.heap.size w w' := by
  go_enter Try.func18, Try.ntmps18
  go_wp2_with fail
  refine (HP _).mono ?_
  rintro e w1 ⟨rfl, hb1⟩
  have S1 := Lib.hid hb1
  clear hb1
  go_wp2_with fail
  refine (HN _).mono ?_
  rintro e w' ⟨rfl, rfl⟩
  go_wp2_with fail
  refine (psyn _).mono ?_
  rintro e w' ⟨rfl, rfl⟩
  go_wp2_with fail
  go_ret
  exact ⟨rfl, S1.out⟩
theorem page (x : Nat) (w : World) : Calls Try.prog 18 #[.float .f64 x] w fun e w' => e = .returned (.float .f64 (agR x)) ∧ Below w.heap.size w w' := by
  have HP := fun w => pphase x w
  unfold agR
  cases h : regB x
  · rw [if_neg (by decide)]
    rw [show phR x = 9221120237041090561 by unfold phR; rw [h, if_neg (by decide)]] at HP
    exact pag_no x HP w
  · rw [if_pos rfl]
    rw [show phR x = ph (qW x) by unfold phR; rw [h, if_pos rfl]] at HP
    have hl := ph_lt (qW x)
    have HN := fun w => mIsNaN (ph (qW x)) w
    rw [rg_small (by omega), decide_eq_false (by omega)] at HN
    exact pag_yes x _ _ HP HN (fun w => run_fmul (P := Try.prog) 24 (mul_ph (qW x)) w) w

theorem plu_no (x : Nat) (HQ : ∀ w, Calls Try.prog 34 #[.float .f64 x] w fun e w' => e = .returned (fbv 0 false) ∧ Below w.heap.size w w') (w : World) :
    Calls Try.prog 11 #[.float .f64 x] w fun e w' => e = .returned (ibv 0 false) ∧ Below w.heap.size w w' := by
  go_enter Try.func11, Try.ntmps11
  go_wp2_with fail
  refine (HQ _).mono ?_
  rintro e w1 ⟨rfl, hb1⟩
  have S1 := Lib.hid hb1
  clear hb1
  go_wp2_with fail
  go_ret2
  exact ⟨rfl, S1.out⟩
theorem plu_big (x q a : Nat) (ho : FloatKind.f64.format.order a 4845873199050653696 = some .gt ∨ FloatKind.f64.format.order a 4845873199050653696 = some .eq) (HQ : ∀ w, Calls Try.prog 34 #[.float .f64 x] w fun e w' => e = .returned (fbv q true) ∧ Below w.heap.size w w') (HA : ∀ w, Calls Try.prog 35 #[.float .f64 q] w fun e w' => e = .returned (.float .f64 a) ∧ w = w') (w : World) :
    Calls Try.prog 11 #[.float .f64 x] w fun e w' => e = .returned (ibv 0 false) ∧ Below w.heap.size w w' := by
  rcases ho with ho | ho
  all_goals
    go_enter Try.func11, Try.ntmps11
    go_wp2_with fail
    refine (HQ _).mono ?_
    rintro e w1 ⟨rfl, hb1⟩
    have S1 := Lib.hid hb1
    clear hb1
    go_wp2_with fail
    refine (HA _).mono ?_
    rintro e w' ⟨rfl, rfl⟩
    go_wp2_with fail
    go_ret2
    exact ⟨rfl, S1.out⟩
theorem plu_ok (x q a d : Nat) (n : Int) (ho : FloatKind.f64.format.order a 4845873199050653696 = some .lt) (hC : floatToIntVal .f64 d .i64 = some n) (HQ : ∀ w, Calls Try.prog 34 #[.float .f64 x] w fun e w' => e = .returned (fbv q true) ∧ Below w.heap.size w w') (HA : ∀ w, Calls Try.prog 35 #[.float .f64 q] w fun e w' => e = .returned (.float .f64 a) ∧ w = w')
    (HF : ∀ w, Calls Try.prog 36 #[.float .f64 q] w fun e w' => e = .returned (.float .f64 d) ∧ w = w') (w : World) :
    Calls Try.prog 11 #[.float .f64 x] w fun e w' => e = .returned (ibv n true) ∧ Below w.heap.size w w' := by
  have hc := fun w => run_convert_float_int (P := Try.prog) w 24 3 .f64 .i64 d n (by kernel_rfl) Try.underlying3 hC
  clear hC
  go_enter Try.func11, Try.ntmps11
  go_wp2_with fail
  refine (HQ _).mono ?_
  rintro e w1 ⟨rfl, hb1⟩
  have S1 := Lib.hid hb1
  clear hb1
  go_wp2_with fail
  refine (HA _).mono ?_
  rintro e w' ⟨rfl, rfl⟩
  go_wp2_with fail
  refine (HF _).mono ?_
  rintro e w' ⟨rfl, rfl⟩
  go_wp2_with fail
  go_ret2
  exact ⟨rfl, S1.out⟩
theorem Fin_rg {x : Nat} (h : Fin x) : Fin (rg x) ∧ SV (rg x) = (U (rg x) : Int) := by
  have hr := rg_lt x
  refine ⟨?_, SV_small hr⟩
  unfold Fin; rw [rg_small hr]; exact h
theorem pluna (x : Nat) (w : World) : Calls Try.prog 11 #[.float .f64 x] w fun e w' => e = .returned (ibv (luN x) (luB x)) ∧ Below w.heap.size w w' := by
  unfold luN luB
  cases h : regB x
  · exact plu_no x (fun w => pq_no x h w) w
  · have HQ := fun w => pq_yes x h w
    obtain ⟨hx, hq⟩ := regB_iff.1 h
    have HA := fun w => mAbs (qW x) w (qW_le hx).2
    obtain ⟨f1, f2⟩ := Fin_rg hq
    cases hb : big (qW x)
    · have hu := big_no hb
      have bd := fl_bd hu
      obtain ⟨_, d2, _, d4, _⟩ := dn_is hq
      have ht := toI_of d2 (by rw [d4]; omega) (by rw [d4]; omega)
      rw [d4] at ht
      exact plu_ok x _ _ _ _ (ord_lt f1 fin_p53 (by rw [f2, SV_p53]; omega)) ht HQ HA (fun w => mFloor _ w hq) w
    · have hu := of_decide_eq_true hb
      refine plu_big x _ _ ?_ HQ HA w
      rcases Nat.lt_or_ge (9007199254740992 * ONE) (U (rg (qW x))) with l | l
      · exact .inl (ord_gt f1 fin_p53 (by rw [f2, SV_p53]; omega))
      · exact .inr (ord_eq f1 fin_p53 (by rw [f2, SV_p53]; omega))

theorem mul_kS {k : Int} (h : k.natAbs ≤ 9223372036854775808) : Ieee.double.mul wS (fi k) = some (pW k) := by
  rw [mul_is fin_S (fi_fin h).1, show rg wS = wS by decide, show sg wS = false by decide]
  unfold pW
  rw [Nat.mul_comm (U wS), Bool.xor_comm false]
theorem pnewm (k : Int) (h : k.natAbs ≤ 9223372036854775808) (w : World) : Calls Try.prog 20 #[.int .i64 k] w fun e w' => e = .returned (.float .f64 (nmW k)) ∧ w = w' := by
  have hq := fun w => run_convert_int_float (P := Try.prog) w 3 24 .i64 .f64 k (by kernel_rfl) Try.underlying24
  rw [fi_of] at hq
  have hM := fun w => run_fmul (P := Try.prog) 24 (mul_kS h) w
  have hA := fun w => run_fadd (P := Try.prog) 24 (add_k h) w
  clear h
  generalize nmW k = r at *
  generalize pW k = p at *
  generalize fi k = f at *
  go_enter Try.func20, Try.ntmps20
  go_wp2_with fail
  refine (pepo _).mono ?_
  rintro e w' ⟨rfl, rfl⟩
  go_wp2_with fail
  refine (psyn _).mono ?_
  rintro e w' ⟨rfl, rfl⟩
  go_wp2_with fail
  go_ret
  exact ⟨rfl, rfl⟩

theorem prd_no (x a : Nat) (ho : FloatKind.f64.format.order a 4886405595696988160 = some .gt ∨ FloatKind.f64.format.order a 4886405595696988160 = some .eq ∨ FloatKind.f64.format.order a 4886405595696988160 = none) (HA : ∀ w, Calls Try.prog 35 #[.float .f64 x] w fun e w' => e = .returned (.float .f64 a) ∧ w = w') (w : World) :
    Calls Try.prog 13 #[.float .f64 x] w fun e w' => e = .returned (ibv 0 false) ∧ w = w' := by
  rcases ho with ho | ho | ho
  all_goals
    go_enter Try.func13, Try.ntmps13
    go_wp2_with fail
    refine (HA _).mono ?_
    rintro e w' ⟨rfl, rfl⟩
    go_wp2_with fail
    go_ret2
    exact ⟨rfl, rfl⟩
theorem prd_ok (x a d : Nat) (n : Int) (ho : FloatKind.f64.format.order a 4886405595696988160 = some .lt) (hC : floatToIntVal .f64 d .i64 = some n) (HA : ∀ w, Calls Try.prog 35 #[.float .f64 x] w fun e w' => e = .returned (.float .f64 a) ∧ w = w')
    (hR : ∀ w, (callFunc 38 #[.float .f64 x]).run Try.prog w = .ok (.value (.float .f64 d)) w) (w : World) :
    Calls Try.prog 13 #[.float .f64 x] w fun e w' => e = .returned (ibv n true) ∧ w = w' := by
  have hc := fun w => run_convert_float_int (P := Try.prog) w 24 3 .f64 .i64 d n (by kernel_rfl) Try.underlying3 hC
  clear hC
  go_enter Try.func13, Try.ntmps13
  go_wp2_with fail
  refine (HA _).mono ?_
  rintro e w' ⟨rfl, rfl⟩
  go_wp2_with fail
  go_ret2
  exact ⟨rfl, rfl⟩
theorem pround (x : Nat) (hx : x < 18446744073709551616) (w : World) : Calls Try.prog 13 #[.float .f64 x] w fun e w' => e = .returned (ibv (rdN x) (rdB x)) ∧ w = w' := by
  have HA := fun w => mAbs x w hx
  have hr := rg_lt x
  unfold rdN
  cases h : rdB x
  · rw [if_neg (by decide)]
    refine prd_no x _ ?_ HA w
    rcases Nat.lt_trichotomy (rg x) 9218868437227405312 with l | l | l
    · have hf : Fin x := l
      obtain ⟨f1, f2⟩ := Fin_rg hf
      have hu : ¬ U (rg x) < 4611686018427387904 * ONE := fun g => by rw [rdB_iff.2 ⟨hf, g⟩] at h; cases h
      rcases Nat.lt_or_ge (4611686018427387904 * ONE) (U (rg x)) with g | g
      · exact .inl (ord_gt f1 fin_p62 (by rw [f2, SV_p62]; omega))
      · exact .inr (.inl (ord_eq f1 fin_p62 (by rw [f2, SV_p62]; omega)))
    · have ho := ord_inf (x := rg x) (by rw [rg_small hr]; exact l) fin_p62
      rw [show sg (rg x) = false from sg_small hr, if_neg (by decide)] at ho
      exact .inl ho
    · exact .inr (.inr (ord_nan (by rw [rg_small hr]; exact l)))
  · rw [if_pos rfl]
    obtain ⟨hf, hu⟩ := rdB_iff.1 h
    obtain ⟨f1, f2⟩ := Fin_rg hf
    have bd := RD_bd hu
    obtain ⟨_, d2, _, d4, _⟩ := ev_is hf
    have ht := toI_of d2 (by rw [d4]; omega) (by rw [d4]; omega)
    rw [d4] at ht
    exact prd_ok x _ _ _ (ord_lt f1 fin_p62 (by rw [f2, SV_p62]; omega)) ht HA (fun w => roundEven_run x w hf) w

theorem xor_low {r : Nat} (h : r < 9223372036854775808) : r ^^^ 9223372036854775807 = 9223372036854775807 - r := by
  have e : BitVec.ofNat 63 r ^^^ BitVec.allOnes 63 = ~~~ BitVec.ofNat 63 r := BitVec.xor_allOnes
  have e2 := congrArg BitVec.toNat e
  rw [BitVec.toNat_xor, BitVec.toNat_not, BitVec.toNat_ofNat, BitVec.toNat_allOnes, Nat.mod_eq_of_lt (by omega)] at e2
  exact e2
theorem xor_key {x : Nat} (h1 : 9223372036854775808 ≤ x) (h2 : x < 18446744073709551616) : bits .xor .i64 ((x : Int) - 18446744073709551616) 9223372036854775807 = 9223372036854775807 - (x : Int) := by
  show IntKind.i64.wrap (((BitVec.ofInt 64 ((x : Int) - 18446744073709551616)) ^^^ (BitVec.ofInt 64 (9223372036854775807 : Int))).toNat : Int) = _
  have e1 : (BitVec.ofInt 64 ((x : Int) - 18446744073709551616)).toNat = x := by
    rw [BitVec.toNat_ofInt]; omega
  have e2 : (BitVec.ofInt 64 (9223372036854775807 : Int)).toNat = 9223372036854775807 := by decide
  rw [BitVec.toNat_xor, e1, e2]
  have e3 : (x ^^^ 9223372036854775807) % 2 ^ 63 = (x % 2 ^ 63) ^^^ (9223372036854775807 % 2 ^ 63) := Nat.xor_mod_two_pow
  have e4 : (x ^^^ 9223372036854775807) / 2 ^ 63 = (x / 2 ^ 63) ^^^ (9223372036854775807 / 2 ^ 63) := Nat.xor_div_two_pow
  rw [show (9223372036854775807 : Nat) % 2 ^ 63 = 9223372036854775807 by decide, xor_low (r := x % 2 ^ 63) (by omega)] at e3
  rw [show (9223372036854775807 : Nat) / 2 ^ 63 = 0 by decide, Nat.xor_zero] at e4
  have e5 : x ^^^ 9223372036854775807 = 27670116110564327423 - x := by omega
  rw [e5, IntKind.wrap_i64]
  omega
set_option maxRecDepth 100000 in
theorem pkey (x : Nat) (hx : x < 18446744073709551616) (w : World) : Calls Try.prog 44 #[.float .f64 x] w fun e w' => e = .returned (.int .i64 (ky x)) ∧ w = w' := by
  have hB := f64bits x
  unfold ky
  rcases Nat.lt_or_ge x 9223372036854775808 with l | l
  · rw [if_pos l]
    have h0 : IntKind.i64.wrap (x : Int) = (x : Int) := by rw [IntKind.wrap_i64]; omega
    have h1 : decide ((x : Int) < 0) = false := decide_eq_false (by omega)
    clear l hx
    go_enter Try.func44, Try.ntmps44
    go_wp2
    go_ret
    exact ⟨rfl, rfl⟩
  · rw [if_neg (by omega)]
    have hk := xor_key l hx
    have h0 : IntKind.i64.wrap (x : Int) = (x : Int) - 18446744073709551616 := by rw [IntKind.wrap_i64]; omega
    have h1 : decide ((x : Int) - 18446744073709551616 < 0) = true := decide_eq_true (by omega)
    go_enter Try.func44, Try.ntmps44
    go_wp2
    go_ret
    exact ⟨rfl, rfl⟩
theorem pbefore0 (x y : Nat) (a b : Int) (H1 : ∀ w, Calls Try.prog 44 #[.float .f64 x] w fun e w' => e = .returned (.int .i64 a) ∧ w = w') (H2 : ∀ w, Calls Try.prog 44 #[.float .f64 y] w fun e w' => e = .returned (.int .i64 b) ∧ w = w') (w : World) :
    Calls Try.prog 22 #[.float .f64 x, .float .f64 y] w fun e w' => e = .returned (.bool (decide (a < b))) ∧ w = w' := by
  go_enter Try.func22, Try.ntmps22
  go_wp2_with fail
  refine (H1 _).mono ?_
  rintro e w' ⟨rfl, rfl⟩
  go_wp2_with fail
  refine (H2 _).mono ?_
  rintro e w' ⟨rfl, rfl⟩
  go_wp2_with fail
  go_ret
  exact ⟨rfl, rfl⟩
theorem pbefore (x y : Nat) (hx : x < 18446744073709551616) (hy : y < 18446744073709551616) (w : World) : Calls Try.prog 22 #[.float .f64 x, .float .f64 y] w fun e w' => e = .returned (.bool (bfB x y)) ∧ w = w' := by
  rw [bfB_ky hx hy]
  exact pbefore0 x y _ _ (fun w => pkey x hx w) (fun w => pkey y hy w) w

abbrev oneF (x : Nat) : Obj := .cells #[.float .f64 x] 24 (0, 0)
def ClH (F x : Nat) (b : Bool) : Prop := ∀ (B : Nat) (w : World), w.heap[B]? = some (oneF x) → Calls Try.prog F #[.pointer (some ⟨B, 0, none⟩)] w fun e w' => e = .returned (.bool b) ∧ w = w'
theorem pcl_1 (x : Nat) (b : Bool) (H : ∀ w, Calls Try.prog 27 #[.float .f64 x] w fun e w' => e = .returned (.bool b) ∧ w = w') : ClH 46 x b := by
  intro B w hB
  have h0 := cell_of_one hB
  have h1 := free_of_one hB
  have h2 := lt_of_block hB
  clear hB
  go_enter Try.func46, Try.ntmps46
  go_wp2_with fail
  refine (H _).mono ?_
  rintro e w' ⟨rfl, rfl⟩
  go_wp2_with fail
  go_ret
  exact ⟨rfl, rfl⟩
theorem pcl_2 (x : Nat) (b : Bool) (H : ∀ w, Calls Try.prog 48 #[.float .f64 x, .int .i64 0] w fun e w' => e = .returned (.bool b) ∧ w = w') : ClH 47 x b := by
  intro B w hB
  have h0 := cell_of_one hB
  have h1 := free_of_one hB
  have h2 := lt_of_block hB
  clear hB
  go_enter Try.func47, Try.ntmps47
  go_wp2_with fail
  refine (H _).mono ?_
  rintro e w' ⟨rfl, rfl⟩
  go_wp2_with fail
  go_ret
  exact ⟨rfl, rfl⟩
theorem pcl_3 (x : Nat) (b : Bool) (ho : (FloatKind.f64.format.order x 0 = some .eq ∧ b = true) ∨ (FloatKind.f64.format.order x 0 = some .lt ∧ b = false) ∨ (FloatKind.f64.format.order x 0 = some .gt ∧ b = false)) : ClH 49 x b := by
  intro B w hB
  have h0 := cell_of_one hB
  have h1 := free_of_one hB
  have h2 := lt_of_block hB
  clear hB
  rcases ho with ⟨ho, rfl⟩ | ⟨ho, rfl⟩ | ⟨ho, rfl⟩
  all_goals
    go_enter Try.func49, Try.ntmps49
    go_wp2
    go_ret
    exact ⟨rfl, rfl⟩
theorem pcl_4 (x a : Nat) (b : Bool) (hx : FloatKind.f64.format.order x 0 = some .lt ∨ FloatKind.f64.format.order x 0 = some .gt) (ho : (FloatKind.f64.format.order a 4503599627370496 = some .lt ∧ b = true) ∨ (FloatKind.f64.format.order a 4503599627370496 = some .eq ∧ b = false) ∨ (FloatKind.f64.format.order a 4503599627370496 = some .gt ∧ b = false))
    (H : ∀ w, Calls Try.prog 35 #[.float .f64 x] w fun e w' => e = .returned (.float .f64 a) ∧ w = w') : ClH 50 x b := by
  intro B w hB
  have h0 := cell_of_one hB
  have h1 := free_of_one hB
  have h2 := lt_of_block hB
  clear hB
  rcases hx with hx | hx <;> rcases ho with ⟨ho, rfl⟩ | ⟨ho, rfl⟩ | ⟨ho, rfl⟩
  all_goals
    go_enter Try.func50, Try.ntmps50
    go_wp2_with fail
    refine (H _).mono ?_
    rintro e w' ⟨rfl, rfl⟩
    go_wp2_with fail
    go_ret
    exact ⟨rfl, rfl⟩
theorem store_newb {P : Program} {ops : Array Oper} {rest : List Oper} {o : Oper} {a : Act} {w : World} {Q : Exit → Act → World → Prop} (hgd : o.guard = none) (ty : TypeId) (x y : Operand) (ho : o.op = .store ty x y) (b : Nat) (hb : b = w.heap.size)
    (cells : Array Value) (t : TypeId) (old : Array Value) (hx : a.eval x = .pointer (some ⟨b, 0, none⟩)) (hy : a.eval y = .agg cells)
    (hi : (P.info? ty).map (·.size) = some cells.size) (hold : old.size = cells.size) (h1 : cells.all (·.oneCell') = true)
    (h : wpList P ops Q rest (a.put o.dst undef) (w.alloc (.cells cells t))) : wpList P ops Q (o :: rest) a (w.alloc (.cells old t)) := by
  subst hb
  exact wpList_store_row hgd ty x y ho w.heap.size cells hx hy t old (heap_alloc_new w _) hi hold h1 (by rw [World.setRow_alloc_new]; exact h)
theorem mk_fn15 (fn : Fn) (first cap : Array Value) (w : World) : (Instr.makeFunc fn first cap).run Try.prog w = .ok (.func fn first cap) w := rfl
set_option maxHeartbeats 2000000 in
set_option maxRecDepth 100000 in
theorem pcls0 (x : Nat) (H1 : ClH 46 x true) (w : World) :
    Calls Try.prog 24 #[.float .f64 x] w fun e w' => e = .returned (.int .i64 0) ∧ Below w.heap.size w w' := by
  have i0 : ∀ u, (Instr.index 49 (.agg #[.func (.func 46) #[] #[.pointer (some ⟨w.heap.size, 0, none⟩)], .func (.func 47) #[] #[.pointer (some ⟨w.heap.size, 0, none⟩)], .func (.func 49) #[] #[.pointer (some ⟨w.heap.size, 0, none⟩)], .func (.func 50) #[] #[.pointer (some ⟨w.heap.size, 0, none⟩)]]) (.int .i64 0)).run Try.prog u = .ok (.func (.func 46) #[] #[.pointer (some ⟨w.heap.size, 0, none⟩)]) u := fun u => by kernel_rfl
  have HI : (Try.prog.info? 49).map (·.size) = some 4 := by kernel_rfl
  have HO : (#[Value.func (.func 46) #[] #[.pointer (some ⟨w.heap.size, 0, none⟩)], .func (.func 47) #[] #[.pointer (some ⟨w.heap.size, 0, none⟩)], .func (.func 49) #[] #[.pointer (some ⟨w.heap.size, 0, none⟩)], .func (.func 50) #[] #[.pointer (some ⟨w.heap.size, 0, none⟩)]]).all (·.oneCell') = true := by simp [Value.oneCell']
  have E1 := Try.call46
  have hmf := mk_fn15
  have R0 := Lib.hid (heap_alloc_new w (oneF x))
  have HL := Lib.hid (heap_alloc_new (w.alloc (oneF x)) (.cells #[.func (.func 46) #[] #[.pointer (some ⟨w.heap.size, 0, none⟩)], .func (.func 47) #[] #[.pointer (some ⟨w.heap.size, 0, none⟩)], .func (.func 49) #[] #[.pointer (some ⟨w.heap.size, 0, none⟩)], .func (.func 50) #[] #[.pointer (some ⟨w.heap.size, 0, none⟩)]] 49 (0, 0)))
  rw [show (w.alloc (oneF x)).heap.size = w.heap.size + 1 by simp] at HL
  have R1 := Lib.hid (row_al R0.out (.cells #[.func (.func 46) #[] #[.pointer (some ⟨w.heap.size, 0, none⟩)], .func (.func 47) #[] #[.pointer (some ⟨w.heap.size, 0, none⟩)], .func (.func 49) #[] #[.pointer (some ⟨w.heap.size, 0, none⟩)], .func (.func 50) #[] #[.pointer (some ⟨w.heap.size, 0, none⟩)]] 49 (0, 0)))
  have B1 := Lib.hid ((((Below.refl w.heap.size w).alloc (Nat.le_refl _) (oneF x))).alloc (by simp) (.cells #[.func (.func 46) #[] #[.pointer (some ⟨w.heap.size, 0, none⟩)], .func (.func 47) #[] #[.pointer (some ⟨w.heap.size, 0, none⟩)], .func (.func 49) #[] #[.pointer (some ⟨w.heap.size, 0, none⟩)], .func (.func 50) #[] #[.pointer (some ⟨w.heap.size, 0, none⟩)]] 49 (0, 0)))
  go_enter Try.func24, Try.ntmps24
  go_wp2_with (first | (refine store_newb (P := Try.prog) (hgd := rfl) (ho := rfl) (b := w.heap.size + 1) (hb := by simp) (cells := #[.func (.func 46) #[] #[.pointer (some ⟨w.heap.size, 0, none⟩)], .func (.func 47) #[] #[.pointer (some ⟨w.heap.size, 0, none⟩)], .func (.func 49) #[] #[.pointer (some ⟨w.heap.size, 0, none⟩)], .func (.func 50) #[] #[.pointer (some ⟨w.heap.size, 0, none⟩)]]) (hx := rfl) (hy := rfl) (hi := HI) (hold := rfl) (h1 := HO) (h := ?_)) | refine wpList_load_row rfl _ _ rfl (w.heap.size + 1) rfl _ _ _ _ HL.out Try.underlying49 rfl HI ?_)
  refine wp_loop_rounds 5 ?_
  rw [rounds_succ]
  go_wp2_with fail
  refine (H1 _ _ R1.out).mono ?_
  rintro e w' ⟨rfl, rfl⟩
  go_wp2_with fail
  go_ret
  exact ⟨rfl, B1.out⟩
set_option maxHeartbeats 2000000 in
set_option maxRecDepth 100000 in
theorem pcls1 (x : Nat) (H1 : ClH 46 x false) (H2 : ClH 47 x true) (w : World) :
    Calls Try.prog 24 #[.float .f64 x] w fun e w' => e = .returned (.int .i64 1) ∧ Below w.heap.size w w' := by
  have i0 : ∀ u, (Instr.index 49 (.agg #[.func (.func 46) #[] #[.pointer (some ⟨w.heap.size, 0, none⟩)], .func (.func 47) #[] #[.pointer (some ⟨w.heap.size, 0, none⟩)], .func (.func 49) #[] #[.pointer (some ⟨w.heap.size, 0, none⟩)], .func (.func 50) #[] #[.pointer (some ⟨w.heap.size, 0, none⟩)]]) (.int .i64 0)).run Try.prog u = .ok (.func (.func 46) #[] #[.pointer (some ⟨w.heap.size, 0, none⟩)]) u := fun u => by kernel_rfl
  have i1 : ∀ u, (Instr.index 49 (.agg #[.func (.func 46) #[] #[.pointer (some ⟨w.heap.size, 0, none⟩)], .func (.func 47) #[] #[.pointer (some ⟨w.heap.size, 0, none⟩)], .func (.func 49) #[] #[.pointer (some ⟨w.heap.size, 0, none⟩)], .func (.func 50) #[] #[.pointer (some ⟨w.heap.size, 0, none⟩)]]) (.int .i64 1)).run Try.prog u = .ok (.func (.func 47) #[] #[.pointer (some ⟨w.heap.size, 0, none⟩)]) u := fun u => by kernel_rfl
  have HI : (Try.prog.info? 49).map (·.size) = some 4 := by kernel_rfl
  have HO : (#[Value.func (.func 46) #[] #[.pointer (some ⟨w.heap.size, 0, none⟩)], .func (.func 47) #[] #[.pointer (some ⟨w.heap.size, 0, none⟩)], .func (.func 49) #[] #[.pointer (some ⟨w.heap.size, 0, none⟩)], .func (.func 50) #[] #[.pointer (some ⟨w.heap.size, 0, none⟩)]]).all (·.oneCell') = true := by simp [Value.oneCell']
  have E1 := Try.call46
  have E2 := Try.call47
  have hmf := mk_fn15
  have R0 := Lib.hid (heap_alloc_new w (oneF x))
  have HL := Lib.hid (heap_alloc_new (w.alloc (oneF x)) (.cells #[.func (.func 46) #[] #[.pointer (some ⟨w.heap.size, 0, none⟩)], .func (.func 47) #[] #[.pointer (some ⟨w.heap.size, 0, none⟩)], .func (.func 49) #[] #[.pointer (some ⟨w.heap.size, 0, none⟩)], .func (.func 50) #[] #[.pointer (some ⟨w.heap.size, 0, none⟩)]] 49 (0, 0)))
  rw [show (w.alloc (oneF x)).heap.size = w.heap.size + 1 by simp] at HL
  have R1 := Lib.hid (row_al R0.out (.cells #[.func (.func 46) #[] #[.pointer (some ⟨w.heap.size, 0, none⟩)], .func (.func 47) #[] #[.pointer (some ⟨w.heap.size, 0, none⟩)], .func (.func 49) #[] #[.pointer (some ⟨w.heap.size, 0, none⟩)], .func (.func 50) #[] #[.pointer (some ⟨w.heap.size, 0, none⟩)]] 49 (0, 0)))
  have B1 := Lib.hid ((((Below.refl w.heap.size w).alloc (Nat.le_refl _) (oneF x))).alloc (by simp) (.cells #[.func (.func 46) #[] #[.pointer (some ⟨w.heap.size, 0, none⟩)], .func (.func 47) #[] #[.pointer (some ⟨w.heap.size, 0, none⟩)], .func (.func 49) #[] #[.pointer (some ⟨w.heap.size, 0, none⟩)], .func (.func 50) #[] #[.pointer (some ⟨w.heap.size, 0, none⟩)]] 49 (0, 0)))
  go_enter Try.func24, Try.ntmps24
  go_wp2_with (first | (refine store_newb (P := Try.prog) (hgd := rfl) (ho := rfl) (b := w.heap.size + 1) (hb := by simp) (cells := #[.func (.func 46) #[] #[.pointer (some ⟨w.heap.size, 0, none⟩)], .func (.func 47) #[] #[.pointer (some ⟨w.heap.size, 0, none⟩)], .func (.func 49) #[] #[.pointer (some ⟨w.heap.size, 0, none⟩)], .func (.func 50) #[] #[.pointer (some ⟨w.heap.size, 0, none⟩)]]) (hx := rfl) (hy := rfl) (hi := HI) (hold := rfl) (h1 := HO) (h := ?_)) | refine wpList_load_row rfl _ _ rfl (w.heap.size + 1) rfl _ _ _ _ HL.out Try.underlying49 rfl HI ?_)
  refine wp_loop_rounds 5 ?_
  rw [rounds_succ]
  go_wp2_with fail
  refine (H1 _ _ R1.out).mono ?_
  rintro e w' ⟨rfl, rfl⟩
  go_wp2_with fail
  rw [rounds_succ]
  go_wp2_with fail
  refine (H2 _ _ R1.out).mono ?_
  rintro e w' ⟨rfl, rfl⟩
  go_wp2_with fail
  go_ret
  exact ⟨rfl, B1.out⟩
set_option maxHeartbeats 2000000 in
set_option maxRecDepth 100000 in
theorem pcls2 (x : Nat) (H1 : ClH 46 x false) (H2 : ClH 47 x false) (H3 : ClH 49 x true) (w : World) :
    Calls Try.prog 24 #[.float .f64 x] w fun e w' => e = .returned (.int .i64 2) ∧ Below w.heap.size w w' := by
  have i0 : ∀ u, (Instr.index 49 (.agg #[.func (.func 46) #[] #[.pointer (some ⟨w.heap.size, 0, none⟩)], .func (.func 47) #[] #[.pointer (some ⟨w.heap.size, 0, none⟩)], .func (.func 49) #[] #[.pointer (some ⟨w.heap.size, 0, none⟩)], .func (.func 50) #[] #[.pointer (some ⟨w.heap.size, 0, none⟩)]]) (.int .i64 0)).run Try.prog u = .ok (.func (.func 46) #[] #[.pointer (some ⟨w.heap.size, 0, none⟩)]) u := fun u => by kernel_rfl
  have i1 : ∀ u, (Instr.index 49 (.agg #[.func (.func 46) #[] #[.pointer (some ⟨w.heap.size, 0, none⟩)], .func (.func 47) #[] #[.pointer (some ⟨w.heap.size, 0, none⟩)], .func (.func 49) #[] #[.pointer (some ⟨w.heap.size, 0, none⟩)], .func (.func 50) #[] #[.pointer (some ⟨w.heap.size, 0, none⟩)]]) (.int .i64 1)).run Try.prog u = .ok (.func (.func 47) #[] #[.pointer (some ⟨w.heap.size, 0, none⟩)]) u := fun u => by kernel_rfl
  have i2 : ∀ u, (Instr.index 49 (.agg #[.func (.func 46) #[] #[.pointer (some ⟨w.heap.size, 0, none⟩)], .func (.func 47) #[] #[.pointer (some ⟨w.heap.size, 0, none⟩)], .func (.func 49) #[] #[.pointer (some ⟨w.heap.size, 0, none⟩)], .func (.func 50) #[] #[.pointer (some ⟨w.heap.size, 0, none⟩)]]) (.int .i64 2)).run Try.prog u = .ok (.func (.func 49) #[] #[.pointer (some ⟨w.heap.size, 0, none⟩)]) u := fun u => by kernel_rfl
  have HI : (Try.prog.info? 49).map (·.size) = some 4 := by kernel_rfl
  have HO : (#[Value.func (.func 46) #[] #[.pointer (some ⟨w.heap.size, 0, none⟩)], .func (.func 47) #[] #[.pointer (some ⟨w.heap.size, 0, none⟩)], .func (.func 49) #[] #[.pointer (some ⟨w.heap.size, 0, none⟩)], .func (.func 50) #[] #[.pointer (some ⟨w.heap.size, 0, none⟩)]]).all (·.oneCell') = true := by simp [Value.oneCell']
  have E1 := Try.call46
  have E2 := Try.call47
  have E3 := Try.call49
  have hmf := mk_fn15
  have R0 := Lib.hid (heap_alloc_new w (oneF x))
  have HL := Lib.hid (heap_alloc_new (w.alloc (oneF x)) (.cells #[.func (.func 46) #[] #[.pointer (some ⟨w.heap.size, 0, none⟩)], .func (.func 47) #[] #[.pointer (some ⟨w.heap.size, 0, none⟩)], .func (.func 49) #[] #[.pointer (some ⟨w.heap.size, 0, none⟩)], .func (.func 50) #[] #[.pointer (some ⟨w.heap.size, 0, none⟩)]] 49 (0, 0)))
  rw [show (w.alloc (oneF x)).heap.size = w.heap.size + 1 by simp] at HL
  have R1 := Lib.hid (row_al R0.out (.cells #[.func (.func 46) #[] #[.pointer (some ⟨w.heap.size, 0, none⟩)], .func (.func 47) #[] #[.pointer (some ⟨w.heap.size, 0, none⟩)], .func (.func 49) #[] #[.pointer (some ⟨w.heap.size, 0, none⟩)], .func (.func 50) #[] #[.pointer (some ⟨w.heap.size, 0, none⟩)]] 49 (0, 0)))
  have B1 := Lib.hid ((((Below.refl w.heap.size w).alloc (Nat.le_refl _) (oneF x))).alloc (by simp) (.cells #[.func (.func 46) #[] #[.pointer (some ⟨w.heap.size, 0, none⟩)], .func (.func 47) #[] #[.pointer (some ⟨w.heap.size, 0, none⟩)], .func (.func 49) #[] #[.pointer (some ⟨w.heap.size, 0, none⟩)], .func (.func 50) #[] #[.pointer (some ⟨w.heap.size, 0, none⟩)]] 49 (0, 0)))
  go_enter Try.func24, Try.ntmps24
  go_wp2_with (first | (refine store_newb (P := Try.prog) (hgd := rfl) (ho := rfl) (b := w.heap.size + 1) (hb := by simp) (cells := #[.func (.func 46) #[] #[.pointer (some ⟨w.heap.size, 0, none⟩)], .func (.func 47) #[] #[.pointer (some ⟨w.heap.size, 0, none⟩)], .func (.func 49) #[] #[.pointer (some ⟨w.heap.size, 0, none⟩)], .func (.func 50) #[] #[.pointer (some ⟨w.heap.size, 0, none⟩)]]) (hx := rfl) (hy := rfl) (hi := HI) (hold := rfl) (h1 := HO) (h := ?_)) | refine wpList_load_row rfl _ _ rfl (w.heap.size + 1) rfl _ _ _ _ HL.out Try.underlying49 rfl HI ?_)
  refine wp_loop_rounds 5 ?_
  rw [rounds_succ]
  go_wp2_with fail
  refine (H1 _ _ R1.out).mono ?_
  rintro e w' ⟨rfl, rfl⟩
  go_wp2_with fail
  rw [rounds_succ]
  go_wp2_with fail
  refine (H2 _ _ R1.out).mono ?_
  rintro e w' ⟨rfl, rfl⟩
  go_wp2_with fail
  rw [rounds_succ]
  go_wp2_with fail
  refine (H3 _ _ R1.out).mono ?_
  rintro e w' ⟨rfl, rfl⟩
  go_wp2_with fail
  go_ret
  exact ⟨rfl, B1.out⟩
set_option maxHeartbeats 2000000 in
set_option maxRecDepth 100000 in
theorem pcls3 (x : Nat) (H1 : ClH 46 x false) (H2 : ClH 47 x false) (H3 : ClH 49 x false) (H4 : ClH 50 x true) (w : World) :
    Calls Try.prog 24 #[.float .f64 x] w fun e w' => e = .returned (.int .i64 3) ∧ Below w.heap.size w w' := by
  have i0 : ∀ u, (Instr.index 49 (.agg #[.func (.func 46) #[] #[.pointer (some ⟨w.heap.size, 0, none⟩)], .func (.func 47) #[] #[.pointer (some ⟨w.heap.size, 0, none⟩)], .func (.func 49) #[] #[.pointer (some ⟨w.heap.size, 0, none⟩)], .func (.func 50) #[] #[.pointer (some ⟨w.heap.size, 0, none⟩)]]) (.int .i64 0)).run Try.prog u = .ok (.func (.func 46) #[] #[.pointer (some ⟨w.heap.size, 0, none⟩)]) u := fun u => by kernel_rfl
  have i1 : ∀ u, (Instr.index 49 (.agg #[.func (.func 46) #[] #[.pointer (some ⟨w.heap.size, 0, none⟩)], .func (.func 47) #[] #[.pointer (some ⟨w.heap.size, 0, none⟩)], .func (.func 49) #[] #[.pointer (some ⟨w.heap.size, 0, none⟩)], .func (.func 50) #[] #[.pointer (some ⟨w.heap.size, 0, none⟩)]]) (.int .i64 1)).run Try.prog u = .ok (.func (.func 47) #[] #[.pointer (some ⟨w.heap.size, 0, none⟩)]) u := fun u => by kernel_rfl
  have i2 : ∀ u, (Instr.index 49 (.agg #[.func (.func 46) #[] #[.pointer (some ⟨w.heap.size, 0, none⟩)], .func (.func 47) #[] #[.pointer (some ⟨w.heap.size, 0, none⟩)], .func (.func 49) #[] #[.pointer (some ⟨w.heap.size, 0, none⟩)], .func (.func 50) #[] #[.pointer (some ⟨w.heap.size, 0, none⟩)]]) (.int .i64 2)).run Try.prog u = .ok (.func (.func 49) #[] #[.pointer (some ⟨w.heap.size, 0, none⟩)]) u := fun u => by kernel_rfl
  have i3 : ∀ u, (Instr.index 49 (.agg #[.func (.func 46) #[] #[.pointer (some ⟨w.heap.size, 0, none⟩)], .func (.func 47) #[] #[.pointer (some ⟨w.heap.size, 0, none⟩)], .func (.func 49) #[] #[.pointer (some ⟨w.heap.size, 0, none⟩)], .func (.func 50) #[] #[.pointer (some ⟨w.heap.size, 0, none⟩)]]) (.int .i64 3)).run Try.prog u = .ok (.func (.func 50) #[] #[.pointer (some ⟨w.heap.size, 0, none⟩)]) u := fun u => by kernel_rfl
  have HI : (Try.prog.info? 49).map (·.size) = some 4 := by kernel_rfl
  have HO : (#[Value.func (.func 46) #[] #[.pointer (some ⟨w.heap.size, 0, none⟩)], .func (.func 47) #[] #[.pointer (some ⟨w.heap.size, 0, none⟩)], .func (.func 49) #[] #[.pointer (some ⟨w.heap.size, 0, none⟩)], .func (.func 50) #[] #[.pointer (some ⟨w.heap.size, 0, none⟩)]]).all (·.oneCell') = true := by simp [Value.oneCell']
  have E1 := Try.call46
  have E2 := Try.call47
  have E3 := Try.call49
  have E4 := Try.call50
  have hmf := mk_fn15
  have R0 := Lib.hid (heap_alloc_new w (oneF x))
  have HL := Lib.hid (heap_alloc_new (w.alloc (oneF x)) (.cells #[.func (.func 46) #[] #[.pointer (some ⟨w.heap.size, 0, none⟩)], .func (.func 47) #[] #[.pointer (some ⟨w.heap.size, 0, none⟩)], .func (.func 49) #[] #[.pointer (some ⟨w.heap.size, 0, none⟩)], .func (.func 50) #[] #[.pointer (some ⟨w.heap.size, 0, none⟩)]] 49 (0, 0)))
  rw [show (w.alloc (oneF x)).heap.size = w.heap.size + 1 by simp] at HL
  have R1 := Lib.hid (row_al R0.out (.cells #[.func (.func 46) #[] #[.pointer (some ⟨w.heap.size, 0, none⟩)], .func (.func 47) #[] #[.pointer (some ⟨w.heap.size, 0, none⟩)], .func (.func 49) #[] #[.pointer (some ⟨w.heap.size, 0, none⟩)], .func (.func 50) #[] #[.pointer (some ⟨w.heap.size, 0, none⟩)]] 49 (0, 0)))
  have B1 := Lib.hid ((((Below.refl w.heap.size w).alloc (Nat.le_refl _) (oneF x))).alloc (by simp) (.cells #[.func (.func 46) #[] #[.pointer (some ⟨w.heap.size, 0, none⟩)], .func (.func 47) #[] #[.pointer (some ⟨w.heap.size, 0, none⟩)], .func (.func 49) #[] #[.pointer (some ⟨w.heap.size, 0, none⟩)], .func (.func 50) #[] #[.pointer (some ⟨w.heap.size, 0, none⟩)]] 49 (0, 0)))
  go_enter Try.func24, Try.ntmps24
  go_wp2_with (first | (refine store_newb (P := Try.prog) (hgd := rfl) (ho := rfl) (b := w.heap.size + 1) (hb := by simp) (cells := #[.func (.func 46) #[] #[.pointer (some ⟨w.heap.size, 0, none⟩)], .func (.func 47) #[] #[.pointer (some ⟨w.heap.size, 0, none⟩)], .func (.func 49) #[] #[.pointer (some ⟨w.heap.size, 0, none⟩)], .func (.func 50) #[] #[.pointer (some ⟨w.heap.size, 0, none⟩)]]) (hx := rfl) (hy := rfl) (hi := HI) (hold := rfl) (h1 := HO) (h := ?_)) | refine wpList_load_row rfl _ _ rfl (w.heap.size + 1) rfl _ _ _ _ HL.out Try.underlying49 rfl HI ?_)
  refine wp_loop_rounds 5 ?_
  rw [rounds_succ]
  go_wp2_with fail
  refine (H1 _ _ R1.out).mono ?_
  rintro e w' ⟨rfl, rfl⟩
  go_wp2_with fail
  rw [rounds_succ]
  go_wp2_with fail
  refine (H2 _ _ R1.out).mono ?_
  rintro e w' ⟨rfl, rfl⟩
  go_wp2_with fail
  rw [rounds_succ]
  go_wp2_with fail
  refine (H3 _ _ R1.out).mono ?_
  rintro e w' ⟨rfl, rfl⟩
  go_wp2_with fail
  rw [rounds_succ]
  go_wp2_with fail
  refine (H4 _ _ R1.out).mono ?_
  rintro e w' ⟨rfl, rfl⟩
  go_wp2_with fail
  go_ret
  exact ⟨rfl, B1.out⟩
set_option maxHeartbeats 2000000 in
set_option maxRecDepth 100000 in
theorem pcls4 (x : Nat) (H1 : ClH 46 x false) (H2 : ClH 47 x false) (H3 : ClH 49 x false) (H4 : ClH 50 x false) (w : World) :
    Calls Try.prog 24 #[.float .f64 x] w fun e w' => e = .returned (.int .i64 4) ∧ Below w.heap.size w w' := by
  have i0 : ∀ u, (Instr.index 49 (.agg #[.func (.func 46) #[] #[.pointer (some ⟨w.heap.size, 0, none⟩)], .func (.func 47) #[] #[.pointer (some ⟨w.heap.size, 0, none⟩)], .func (.func 49) #[] #[.pointer (some ⟨w.heap.size, 0, none⟩)], .func (.func 50) #[] #[.pointer (some ⟨w.heap.size, 0, none⟩)]]) (.int .i64 0)).run Try.prog u = .ok (.func (.func 46) #[] #[.pointer (some ⟨w.heap.size, 0, none⟩)]) u := fun u => by kernel_rfl
  have i1 : ∀ u, (Instr.index 49 (.agg #[.func (.func 46) #[] #[.pointer (some ⟨w.heap.size, 0, none⟩)], .func (.func 47) #[] #[.pointer (some ⟨w.heap.size, 0, none⟩)], .func (.func 49) #[] #[.pointer (some ⟨w.heap.size, 0, none⟩)], .func (.func 50) #[] #[.pointer (some ⟨w.heap.size, 0, none⟩)]]) (.int .i64 1)).run Try.prog u = .ok (.func (.func 47) #[] #[.pointer (some ⟨w.heap.size, 0, none⟩)]) u := fun u => by kernel_rfl
  have i2 : ∀ u, (Instr.index 49 (.agg #[.func (.func 46) #[] #[.pointer (some ⟨w.heap.size, 0, none⟩)], .func (.func 47) #[] #[.pointer (some ⟨w.heap.size, 0, none⟩)], .func (.func 49) #[] #[.pointer (some ⟨w.heap.size, 0, none⟩)], .func (.func 50) #[] #[.pointer (some ⟨w.heap.size, 0, none⟩)]]) (.int .i64 2)).run Try.prog u = .ok (.func (.func 49) #[] #[.pointer (some ⟨w.heap.size, 0, none⟩)]) u := fun u => by kernel_rfl
  have i3 : ∀ u, (Instr.index 49 (.agg #[.func (.func 46) #[] #[.pointer (some ⟨w.heap.size, 0, none⟩)], .func (.func 47) #[] #[.pointer (some ⟨w.heap.size, 0, none⟩)], .func (.func 49) #[] #[.pointer (some ⟨w.heap.size, 0, none⟩)], .func (.func 50) #[] #[.pointer (some ⟨w.heap.size, 0, none⟩)]]) (.int .i64 3)).run Try.prog u = .ok (.func (.func 50) #[] #[.pointer (some ⟨w.heap.size, 0, none⟩)]) u := fun u => by kernel_rfl
  have HI : (Try.prog.info? 49).map (·.size) = some 4 := by kernel_rfl
  have HO : (#[Value.func (.func 46) #[] #[.pointer (some ⟨w.heap.size, 0, none⟩)], .func (.func 47) #[] #[.pointer (some ⟨w.heap.size, 0, none⟩)], .func (.func 49) #[] #[.pointer (some ⟨w.heap.size, 0, none⟩)], .func (.func 50) #[] #[.pointer (some ⟨w.heap.size, 0, none⟩)]]).all (·.oneCell') = true := by simp [Value.oneCell']
  have E1 := Try.call46
  have E2 := Try.call47
  have E3 := Try.call49
  have E4 := Try.call50
  have hmf := mk_fn15
  have R0 := Lib.hid (heap_alloc_new w (oneF x))
  have HL := Lib.hid (heap_alloc_new (w.alloc (oneF x)) (.cells #[.func (.func 46) #[] #[.pointer (some ⟨w.heap.size, 0, none⟩)], .func (.func 47) #[] #[.pointer (some ⟨w.heap.size, 0, none⟩)], .func (.func 49) #[] #[.pointer (some ⟨w.heap.size, 0, none⟩)], .func (.func 50) #[] #[.pointer (some ⟨w.heap.size, 0, none⟩)]] 49 (0, 0)))
  rw [show (w.alloc (oneF x)).heap.size = w.heap.size + 1 by simp] at HL
  have R1 := Lib.hid (row_al R0.out (.cells #[.func (.func 46) #[] #[.pointer (some ⟨w.heap.size, 0, none⟩)], .func (.func 47) #[] #[.pointer (some ⟨w.heap.size, 0, none⟩)], .func (.func 49) #[] #[.pointer (some ⟨w.heap.size, 0, none⟩)], .func (.func 50) #[] #[.pointer (some ⟨w.heap.size, 0, none⟩)]] 49 (0, 0)))
  have B1 := Lib.hid ((((Below.refl w.heap.size w).alloc (Nat.le_refl _) (oneF x))).alloc (by simp) (.cells #[.func (.func 46) #[] #[.pointer (some ⟨w.heap.size, 0, none⟩)], .func (.func 47) #[] #[.pointer (some ⟨w.heap.size, 0, none⟩)], .func (.func 49) #[] #[.pointer (some ⟨w.heap.size, 0, none⟩)], .func (.func 50) #[] #[.pointer (some ⟨w.heap.size, 0, none⟩)]] 49 (0, 0)))
  go_enter Try.func24, Try.ntmps24
  go_wp2_with (first | (refine store_newb (P := Try.prog) (hgd := rfl) (ho := rfl) (b := w.heap.size + 1) (hb := by simp) (cells := #[.func (.func 46) #[] #[.pointer (some ⟨w.heap.size, 0, none⟩)], .func (.func 47) #[] #[.pointer (some ⟨w.heap.size, 0, none⟩)], .func (.func 49) #[] #[.pointer (some ⟨w.heap.size, 0, none⟩)], .func (.func 50) #[] #[.pointer (some ⟨w.heap.size, 0, none⟩)]]) (hx := rfl) (hy := rfl) (hi := HI) (hold := rfl) (h1 := HO) (h := ?_)) | refine wpList_load_row rfl _ _ rfl (w.heap.size + 1) rfl _ _ _ _ HL.out Try.underlying49 rfl HI ?_)
  refine wp_loop_rounds 5 ?_
  rw [rounds_succ]
  go_wp2_with fail
  refine (H1 _ _ R1.out).mono ?_
  rintro e w' ⟨rfl, rfl⟩
  go_wp2_with fail
  rw [rounds_succ]
  go_wp2_with fail
  refine (H2 _ _ R1.out).mono ?_
  rintro e w' ⟨rfl, rfl⟩
  go_wp2_with fail
  rw [rounds_succ]
  go_wp2_with fail
  refine (H3 _ _ R1.out).mono ?_
  rintro e w' ⟨rfl, rfl⟩
  go_wp2_with fail
  rw [rounds_succ]
  go_wp2_with fail
  refine (H4 _ _ R1.out).mono ?_
  rintro e w' ⟨rfl, rfl⟩
  go_wp2_with fail
  rw [rounds_succ]
  go_wp2_with fail
  go_ret
  exact ⟨rfl, B1.out⟩
theorem pclass (x : Nat) (hx : x < 18446744073709551616) (w : World) : Calls Try.prog 24 #[.float .f64 x] w fun e w' => e = .returned (.int .i64 (clN x)) ∧ Below w.heap.size w w' := by
  have H1 := fun w => mIsNaN x w
  have H2 := fun w => mIsInf x hx w
  have HA := fun w => mAbs x w hx
  have hr := rg_lt x
  have e1 : rg x / 4503599627370496 = x / 4503599627370496 % 2048 := by unfold rg; omega
  have e2 : rg x % 4503599627370496 = x % 4503599627370496 := by unfold rg; omega
  unfold clN
  rw [← e1, ← e2]
  rcases Nat.lt_trichotomy (rg x) 9218868437227405312 with l | l | l
  · have hf : Fin x := l
    obtain ⟨f1, f2⟩ := Fin_rg hf
    rw [decide_eq_false (by omega)] at H1 H2
    have C1 := pcl_1 x _ H1
    have C2 := pcl_2 x _ H2
    rw [if_neg (by omega)]
    have hS : SV x = SVs (sg x) (U (rg x)) := SV_is x
    rcases Nat.eq_zero_or_pos (rg x) with z | p
    · rw [if_pos (by omega), if_pos (by omega)]
      refine pcls2 x C1 C2 (pcl_3 x true (.inl ⟨ord_eq hf fin_zero ?_, rfl⟩)) w
      rw [hS, z, U_zero, SV_zero]; unfold SVs; split <;> rfl
    · have hu : 0 < U (rg x) := by have := U_lt p; rwa [U_zero] at this
      have ho : FloatKind.f64.format.order x 0 = some .lt ∨ FloatKind.f64.format.order x 0 = some .gt := by
        cases hs : sg x
        · exact .inr (ord_gt hf fin_zero (by rw [hS, hs, SV_zero]; unfold SVs; rw [if_neg (by decide)]; omega))
        · exact .inl (ord_lt hf fin_zero (by rw [hS, hs, SV_zero]; unfold SVs; rw [if_pos rfl]; omega))
      have C3 := pcl_3 x false (ho.elim (fun g => .inr (.inl ⟨g, rfl⟩)) (fun g => .inr (.inr ⟨g, rfl⟩)))
      have hm : Fin 4503599627370496 := by unfold Fin; decide
      have hv : SV 4503599627370496 = (U 4503599627370496 : Int) := SV_small (by decide)
      rcases Nat.lt_trichotomy (rg x) 4503599627370496 with g | g | g
      · rw [if_pos (by omega), if_neg (by omega)]
        exact pcls3 x C1 C2 C3 (pcl_4 x _ true ho (.inl ⟨ord_lt f1 hm (by rw [f2, hv]; exact Int.ofNat_lt.2 (U_lt g)), rfl⟩) HA) w
      · rw [if_neg (by omega)]
        exact pcls4 x C1 C2 C3 (pcl_4 x _ false ho (.inr (.inl ⟨ord_eq f1 hm (by rw [f2, hv, g]), rfl⟩)) HA) w
      · rw [if_neg (by omega)]
        exact pcls4 x C1 C2 C3 (pcl_4 x _ false ho (.inr (.inr ⟨ord_gt f1 hm (by rw [f2, hv]; exact Int.ofNat_lt.2 (U_lt g)), rfl⟩)) HA) w
  · rw [decide_eq_false (by omega)] at H1
    rw [decide_eq_true l] at H2
    rw [if_pos (by omega), if_pos (by omega)]
    exact pcls1 x (pcl_1 x _ H1) (pcl_2 x _ H2) w
  · rw [decide_eq_true l] at H1
    rw [if_pos (by omega), if_neg (by omega)]
    exact pcls0 x (pcl_1 x _ H1) w

/-- All of package meanmoon answers as it must. -/
theorem mp15 : MP where
  ph := fun x _ w => pphase x w
  ag := fun x _ w => page x w
  lu := fun x _ w => pluna x w
  rd := fun x hx w => (pround x hx w).mono fun e w' h => ⟨h.1, by rw [← h.2]; exact Below.refl _ _⟩
  cl := fun x hx w => pclass x hx w
  bf := fun x y hx hy w => (pbefore x y hx hy w).mono fun e w' h => ⟨h.1, by rw [← h.2]; exact Below.refl _ _⟩
  nm := fun k h w => (pnewm k h w).mono fun e w' h => ⟨h.1, by rw [← h.2]; exact Below.refl _ _⟩
end Go.Proofs.Ytiidmnmedkekjaa
