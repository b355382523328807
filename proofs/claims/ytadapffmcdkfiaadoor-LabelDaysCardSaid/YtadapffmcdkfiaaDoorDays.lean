/- Proved: for every 64-bit integer label, the law LabelDays of package computuslaw08 (the days of a label are exactly those that bear it, in calendar order) returns true, and what was in memory is as it was. Condition: the two tables of package label (the lengths of the months, the beginnings of the lunations) read as the program's text lays them (the card ties them). -/
import Derived.Test.YtadapffmcdkfiaaDoorLk
import Derived.Test.YtadapffmcdkfiaaDoorLl
import Derived.Test.YtadapffmcdkfiaaDoorLm
import Derived.Test.YtadapffmcdkfiaaDoorVy
import Derived.WalkKit
import Derived.ProofKit
import Derived.OpenShut
import Derived.ShutString
import Derived.Lib.SmallJoins
import Derived.LaidMore
import Derived.Stop.Joined
import Derived.SevenTiedAt
import Derived.Test.YtadapffmcdkfiaaDoorCards
import Derived.Test.YtadapffmcdkfiaaDoorTie
namespace Go.Proofs.YtadapffmcdkfiaaDoor.labelDays
open Go.ChangeShapes Go.WideShapes Go.ChangeAt Go.RowKit Go.Joins
open Go.ChangeMaps (open_string shut_string)
set_option linter.unusedVariables false      -- a walk need not use every fact

/-- outside of the labels: no days -/
theorem walk_out (l : Int) (b1 b2 : Bool) (h1 : decide (l < 1) = b1) (h2 : decide (31 < l) = b2) (hor : l < 1 ∨ 31 < l) (W : World) (ht : LTab W) :
    Calls Tryd.prog 4 #[.int .i64 l] W fun e w' => e = .returned (.bool true) ∧ Below W.heap.size W w' := by
  have HD := Lib.hid (days_none l hor)
  have HT := Lib.hid ht
  have hb : b1 = true ∨ b1 = false ∧ b2 = true := by
    cases b1
    · right; simp at h1; exact ⟨rfl, by rw [← h2]; simp; omega⟩
    · exact .inl rfl
  clear ht hor
  rcases hb with rfl | ⟨rfl, rfl⟩
  all_goals
    go_enter Tryd.func4, Tryd.ntmps4
    go_wp2_with fail
    refine (c8awake_any _ HT.out).mono ?_
    rintro e w1 ⟨rfl, hb1⟩
    have S1 := Lib.hid hb1
    have T1 := Lib.hid (HT.out.on hb1)
    clear hb1
    go_wp2_with fail
    refine (HD.out _ T1.out).mono ?_
    rintro e w2 ⟨rfl | ⟨g, cap, rfl⟩, hb2⟩
    all_goals
      have S2 := Lib.hid (below_on S1.out hb2)
      clear hb2
      go_wp2_with fail
      go_loop [4, 5] (fun c x => ∃ j : Int, 1 ≤ j ∧ j ≤ 13 ∧ x = .int .i64 j ∧ c = .int .i64 0) (fun _ x => (13 - intOf x).toNat)
      case atStart => exact ⟨1, by omega, by omega, rfl, rfl⟩
      case round =>
        obtain ⟨j, j1, j2, rfl, rfl⟩ := hrel
        by_cases hj : j ≤ 12
        · have hd := dim_bd false j j1 hj
          have e12 : decide (j ≤ 12) = true := decide_eq_true hj
          go_wp2_with fail
          go_loop [4, 6] (fun c x => ∃ i : Int, 1 ≤ i ∧ i ≤ dim false j + 1 ∧ x = .int .i64 i ∧ c = .int .i64 0) (fun _ x => (dim false j + 1 - intOf x).toNat)
          case atStart => exact ⟨1, by omega, by omega, rfl, rfl⟩
          case round =>
            obtain ⟨i, ii1, ii2, rfl, rfl⟩ := hrel
            by_cases hi : i ≤ dim false j
            · go_wp2_with fail
              refine (rlen_any _ _ _).mono ?_
              rintro e wq ⟨rfl, rfl⟩
              go_wp2_with fail
              go_round
              case rel => exact ⟨i + 1, by omega, by omega, by go_num, rfl⟩
              case measure => simp [intOf]; omega
            · go_wp2_with fail
              refine (rlen_any _ _ _).mono ?_
              rintro e wq ⟨rfl, rfl⟩
              go_wp2_with fail
              go_round
              case rel => exact ⟨j + 1, by omega, by omega, by go_num, rfl⟩
              case measure => simp [intOf]; omega
        · obtain rfl : j = 13 := by omega
          go_wp2_with fail
          go_ret
          exact ⟨rfl, S2.out⟩
theorem walk_mid (l : Int) (n : Nat) (hn : n = 12 ∨ n = 13) (hl : (days l).length = n) (l1 : 1 ≤ l) (l2 : l ≤ 31) (W : World) (ht : LTab W) :
    Calls Tryd.prog 4 #[.int .i64 l] W fun e w' => e = .returned (.bool true) ∧ Below W.heap.size W w' := by
  have HD := Lib.hid (days_open l n hl (by omega))
  have HT := Lib.hid ht
  have HE := Lib.hid ((slI_end l).trans hl)
  have HL := Lib.hid hl
  clear ht hl
  have hn2 : n ≤ 13 := by omega
  clear hn
  go_enter Tryd.func4, Tryd.ntmps4
  go_wp2_with fail
  refine (c8awake_any _ HT.out).mono ?_
  rintro e w1 ⟨rfl, hb1⟩
  have S1 := Lib.hid hb1
  have T1 := Lib.hid (HT.out.on hb1)
  clear hb1
  go_wp2_with fail
  refine (HD.out _ T1.out).mono ?_
  rintro e w2 ⟨g, cap, rfl, hp2, hb2⟩
  have S2 := Lib.hid (below_on S1.out hb2)
  have P2 := Lib.hid hp2
  clear hb2 hp2
  go_wp2_with fail
  go_loopw [4, 5] (fun c x wr => ∃ j : Int, 1 ≤ j ∧ j ≤ 13 ∧ x = .int .i64 j ∧ c = .int .i64 (slI l (cum false j)) ∧ Below W.heap.size W wr ∧ PairsIn g cap (days l) wr) (fun _ x _ => (13 - intOf x).toNat)
  case atStart => exact ⟨1, by omega, by omega, rfl, by rw [cum_one, slI_zero]; rfl, S2.out, P2.out⟩
  case round =>
    obtain ⟨j, j1, j2, rfl, rfl, hbw, hpw⟩ := hrel
    have S3 := Lib.hid hbw
    have P3 := Lib.hid hpw
    clear hbw hpw
    obtain ⟨wo, rfl⟩ : ∃ wo : World, wo = wr := ⟨_, rfl⟩
    by_cases hj : j ≤ 12
    · have hd := dim_bd false j j1 hj
      have e12 : decide (j ≤ 12) = true := decide_eq_true hj
      have hcb := cum_bd false j j1 j2
      have HS := Lib.hid (cum_succ false j j1 hj)
      generalize hc : cum false j = c at *
      have HC := Lib.hid hc
      clear hc
      go_wp2_with fail
      go_loopw [4, 6] (fun k x wr => ∃ i : Int, 1 ≤ i ∧ i ≤ dim false j + 1 ∧ x = .int .i64 i ∧ k = .int .i64 (slI l (c + i - 1)) ∧ Below W.heap.size W wr ∧ PairsIn g cap (days l) wr) (fun _ x _ => (dim false j + 1 - intOf x).toNat)
      case atStart => exact ⟨1, by omega, by omega, rfl, by rw [show c + 1 - 1 = c by omega], S3.out, P3.out⟩
      case round =>
        obtain ⟨i, ii1, ii2, rfl, rfl, hbw, hpw⟩ := hrel
        have S4 := Lib.hid hbw
        have P4 := Lib.hid hpw
        clear hbw hpw
        by_cases hi : i ≤ dim false j
        · have hok : okD j i = true := okD_iff.2 ⟨ii1, hi⟩
          have hdo : doy j i = c + i := by rw [doy, HC.out]
          cases hbr : bears j i l
          · have hs := slI_no hok hbr
            rw [hdo] at hs
            have HQ := Lib.hid hs
            have HR := Lib.hid (fun w => by have := rbears_any j i l w; rwa [hbr] at this : ∀ w, Calls Tryd.prog 15 #[.int .i64 j, .int .i64 i, .int .i64 l] w fun e w' => e = .returned (.bool false) ∧ Below w.heap.size w w')
            clear hs hbr hok hdo
            generalize slI l (c + i - 1) = k at *
            go_wp2_with fail
            refine (rlen_any _ _ _).mono ?_
            rintro e wq ⟨rfl, rfl⟩
            go_wp2_with fail
            refine (HR.out _).mono ?_
            rintro e w5 ⟨rfl, hb5⟩
            have S5 := Lib.hid (below_on S4.out hb5)
            have P5 := Lib.hid (P4.out.on hb5)
            clear hb5
            go_wp2_with fail
            go_roundw
            case rel => exact ⟨i + 1, by omega, by omega, by go_num, by rw [show c + (i + 1) - 1 = c + i by omega, HQ.out], S5.out, P5.out⟩
            case measure => simp [intOf]; omega
          · have hs := slI_yes hok hbr
            have ha := slI_at hok hbr
            rw [hdo] at hs ha
            have HQ := Lib.hid hs
            have HA := Lib.hid ha
            have HR := Lib.hid (fun w => by have := rbears_any j i l w; rwa [hbr] at this : ∀ w, Calls Tryd.prog 15 #[.int .i64 j, .int .i64 i, .int .i64 l] w fun e w' => e = .returned (.bool true) ∧ Below w.heap.size w w')
            clear hs ha hbr hok hdo
            generalize slI l (c + i - 1) = k at *
            have hkn : k < n := by
              rcases Nat.lt_or_ge k n with q | q
              · exact q
              · have := HA.out; rw [List.getElem?_eq_none (by rw [HL.out]; exact q)] at this; cases this
            have ekn : decide (n ≤ k) = false := decide_eq_false (by omega)
            go_wp2_with fail
            refine (rlen_any _ _ _).mono ?_
            rintro e wq ⟨rfl, rfl⟩
            go_wp2_with fail
            refine (HR.out _).mono ?_
            rintro e w5 ⟨rfl, hb5⟩
            have S5 := Lib.hid (below_on S4.out hb5)
            have P5 := Lib.hid (P4.out.on hb5)
            have c1 := P5.out.one k _ HA.out
            have c2 := P5.out.two k _ HA.out
            clear hb5
            go_wp2_with fail
            go_roundw
            case rel => exact ⟨i + 1, by omega, by omega, by go_num, by rw [show c + (i + 1) - 1 = c + i by omega, HQ.out]; go_num, S5.out, P5.out⟩
            case measure => simp [intOf]; omega
        · have HI : Hid (c + i - 1 = cum false (j + 1)) := Lib.hid (by rw [HS.out]; omega)
          go_wp2_with fail
          refine (rlen_any _ _ _).mono ?_
          rintro e wq ⟨rfl, rfl⟩
          go_wp2_with fail
          go_roundw
          case rel => exact ⟨j + 1, by omega, by omega, by go_num, by rw [HI.out], S4.out, P4.out⟩
          case measure => simp [intOf]; omega
    · obtain rfl : j = 13 := by omega
      have HZ : Hid ((((slI l (cum false 13) : Nat) : Int) == (n : Int)) = true) := Lib.hid (by rw [beq_iff_eq, show cum false 13 = 365 from cum_end false, HE.out])
      have hz := HZ.out
      go_wp2_with fail
      go_ret
      exact ⟨rfl, S3.out⟩
theorem walk (l : Int) (w0 : (Lit.int .i64 l).wf = true) (W : World) (ht : LTab W) :
    Calls Tryd.prog 4 #[.int .i64 l] W fun e w' => e = .returned (.bool true) ∧ Below W.heap.size W w' := by
  by_cases h : l < 1 ∨ 31 < l
  · exact walk_out l _ _ rfl rfl h W ht
  · exact walk_mid l _ (days_lens (by omega) (by omega)) rfl (by omega) (by omega) W ht

/-! ### the row's step -/
set_option maxRecDepth 100000 in
theorem lifted (os : Os) (started : os.Started) (H : Type) (enc : TypeId × Value → H) :
    ReturnsInHanded {} Tryd.checked os 4 .any (fun w args => (Rows.labelDaysSpec.pre enc Tryd.prog Tryd.f4 [] false w args ∧ laidMetH Tryd.prog laidL w) ∧ sizedMet enc Tryd.prog Tryd.f4 (OpenSpec.ofChange Rows.labelDaysSpec) false w args)
      (Rows.labelDaysSpec.post enc Tryd.prog Tryd.f4 false true false false) := by
  refine returnsInHanded_of_change_and (C := Tryd.checked) (X := fun w _ => laidMetH Tryd.prog laidL w) (fun _ _ _ hh h => h.of_heap hh) own started (by kernel_rfl) Tryd.func4
    (ChangeSpec.witness_shaped (enc := enc) (C := Tryd.checked) (os := os) (X := fun w _ => laidMetH Tryd.prog laidL w) false (World.doorLaid Tryd.prog 400 os) #[.int .i64 0] 8 rfl (World.shaped_of_RefB (by kernel_rfl) (by kernel_rfl)) (by kernel_rfl) (by kernel_rfl) (by kernel_rfl) (door_met os _)) ?_
  intro W base args ds gs before hval0 hW _ _ hL _
  have hval : ∀ (j : Nat) t v, Tryd.f4.params[j]? = some t → args[j]? = some v → Value.okWide Tryd.prog W .any base t v := hval0
  have hW' := hW
  obtain ⟨p, q, hA0, hV, rfl, hfz, hnd⟩ := hW
  have hA : DataW.TrodAll enc Tryd.prog W 0 (fun _ => true) true Tryd.f4.params.toList args.toList ds p := hA0
  rw [Tryd.params4] at hA hval
  obtain ⟨v0, vs0, d0, ds0, p0, q0, hargs, rfl, rfl, h0, r0⟩ := trodAll_cons hA
  obtain ⟨rfl, rfl, rfl⟩ := trodAll_nil r0
  obtain rfl : args = #[v0] := by cases args; simp_all
  obtain ⟨rfl, rfl⟩ := trodVars_none hV
  obtain ⟨a0, rfl, rfl, rfl, w0⟩ := open_int Tryd.underlying3 (hval 0 3 v0 rfl rfl) h0
  clear hA0 hval0
  simp only [List.append_nil] at hW'
  refine (walk a0 w0 W (laid_facts hL)).mono fun e W' ⟨he, bel⟩ => ?_
  subst he
  exact ⟨_, rfl, _, _, _, [], _, [], hW', trodAll_mk1 (shut_bool Tryd.underlying4 _), (trodAll_cons_mk (shut_int Tryd.underlying3 w0) trodAll_mk0), rfl, bel.frame _, fun h => by cases h⟩

theorem over : Rows.labelDaysRow.holds Tryd.pinned (OpenSpec.ofChange Rows.labelDaysSpec) :=
  OpenClaim.holds_of_wide 4 Tryd.f4 rfl rfl rfl rfl rfl rfl rfl ⟨rfl, rfl, rfl, rfl, rfl⟩ rfl rfl rfl rfl rfl (by kernel_rfl) Tryd.func4 (by kernel_rfl)
    (of_decide_eq_true (by kernel_rfl)) (by unfold Func.isWrapper; first | (rw [if_pos (by decide +kernel)]; kernel_rfl) | (rw [if_neg (by decide +kernel)]; exact ⟨rfl, rfl⟩))
    (fun os started H enc _ => lifted os started H enc)

/-- The statement: the tied card. -/
theorem proved : Rows.LabelDaysCardSaid :=
  Claim7.holds_tied_plain_at .later [] [.data, .data] true (true, "f6ffa58ec8ad8553dd60e95785ec31bbba28e412efade22a3295923f5fa1b12a") false
    over (fun _ h => by cases h) (by kernel_rfl) (fun _ h => by cases h) labelDays_row_tie rfl ⟨rfl, rfl⟩ (by kernel_rfl) rfl
    (fun f fn hf hfn => by
      obtain rfl : f = 4 := Option.some.inj ((show Tryd.prog.funcNamed "computus/computuslaw08.LabelDays" = some 4 by kernel_rfl).symm.trans hf) |>.symm
      obtain rfl : fn = Tryd.f4 := (Option.some.inj (Tryd.func4.symm.trans hfn)).symm
      exact ⟨by kernel_rfl, fun j t ht => by
        rw [Tryd.params4] at ht
        have hm : t ∈ [3] := by simpa using Array.mem_of_getElem? ht
        have hall : ([3].all fun u => !Tryd.prog.wantsStandIn u) = true := by kernel_rfl
        exact (show Tryd.prog.wantsStandIn t = false by simpa using List.all_eq_true.1 hall t hm)⟩)
    (by kernel_rfl)
#print axioms proved
end Go.Proofs.YtadapffmcdkfiaaDoor.labelDays
