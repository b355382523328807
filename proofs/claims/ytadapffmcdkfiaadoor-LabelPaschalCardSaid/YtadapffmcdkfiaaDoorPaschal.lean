/- Proved: for every byte n, the law LabelPaschal of package computuslaw08 (every label is borne by exactly one day from 8 March to 5 April) returns true, and what was in memory is as it was. Condition: the two tables of package label (the lengths of the months, the beginnings of the lunations) read as the program's text lays them (the card ties them). -/
import Derived.Test.YtadapffmcdkfiaaDoorLk
import Derived.Test.YtadapffmcdkfiaaDoorLl
import Derived.Test.YtadapffmcdkfiaaDoorVy
import Derived.WalkKit
import Derived.ProofKit
import Derived.OpenShut
import Derived.ShutString
import Derived.Lib.SmallJoins
import Derived.LaidMore
import Derived.Stop.Joined
import Derived.SevenTiedAt
import Derived.Test.YtadapffmcdkfiaaDoorCards
import Derived.Test.YtadapffmcdkfiaaDoorTie
namespace Go.Proofs.YtadapffmcdkfiaaDoor.labelPaschal
open Go.ChangeShapes Go.WideShapes Go.ChangeAt Go.RowKit Go.Joins
open Go.ChangeMaps (open_string shut_string)
set_option linter.unusedVariables false      -- a walk need not use every fact

set_option maxHeartbeats 400000 in
theorem walk (u : Int) (w0 : (Lit.int .u8 u).wf = true) (W : World) (ht : LTab W) :
    Calls Tryd.prog 7 #[.int .u8 u] W fun e w' => e = .returned (.bool true) ∧ Below W.heap.size W w' := by
  have hb := bounds_u8 w0
  obtain ⟨hu, hu2⟩ := hb
  clear w0
  have HO := Lib.hid (cnt_one (l := 1 + u % 31) (by omega) (by omega))
  have HT := Lib.hid ht
  clear ht
  go_enter Tryd.func7, Tryd.ntmps7
  go_wp2_with fail
  refine (c8awake_any _ HT.out).mono ?_
  rintro e w1 ⟨rfl, hb1⟩
  have S1 := Lib.hid hb1
  clear hb1
  go_wp2_with fail
  go_loopw [4, 5] (fun c d wr => ∃ k : Int, 8 ≤ k ∧ k ≤ 32 ∧ d = .int .i64 k ∧ c = .int .i64 (cntI 3 8 (1 + u % 31) k) ∧ Below W.heap.size W wr) (fun _ d _ => (32 - intOf d).toNat)
  case atStart => exact ⟨8, by omega, by omega, rfl, rfl, S1.out⟩
  case round =>
    obtain ⟨k, hk1, hk, rfl, rfl, hbw⟩ := hrel
    have HB := Lib.hid hbw
    clear hbw
    have hc := cntI_le 3 8 (1 + u % 31) k hk1
    by_cases hlt : k < 32
    · cases hbr : bears 3 k (1 + u % 31)
      · have HR := Lib.hid (lbears_is 3 k (1 + u % 31) false hbr)
        have HP := Lib.hid (cnt_n hk1 hbr)
        clear hbr
        go_wp2_with fail
        refine (HR.out _ (HT.out.on HB.out)).mono ?_
        rintro e w2 ⟨rfl, hb2⟩
        have HB2 := Lib.hid (below_on HB.out hb2)
        clear hb2
        go_wp2_with fail
        go_roundw
        case rel => exact ⟨k + 1, by omega, by omega, by go_num, by rw [HP.out], HB2.out⟩
        case measure => simp [intOf]; omega
      · have HR := Lib.hid (lbears_is 3 k (1 + u % 31) true hbr)
        have HP := Lib.hid (cnt_y hk1 hbr)
        clear hbr
        go_wp2_with fail
        refine (HR.out _ (HT.out.on HB.out)).mono ?_
        rintro e w2 ⟨rfl, hb2⟩
        have HB2 := Lib.hid (below_on HB.out hb2)
        clear hb2
        go_wp2_with fail
        go_roundw
        case rel => exact ⟨k + 1, by omega, by omega, by go_num, by rw [HP.out]; go_num, HB2.out⟩
        case measure => simp [intOf]; omega
    · obtain rfl : k = 32 := by omega
      clear hlt hk hk1
      obtain ⟨wo, rfl⟩ : ∃ wo : World, wo = wr := ⟨_, rfl⟩
      go_wp2_with fail
      generalize cntI 3 8 (1 + u % 31) 32 = c0 at *
      go_loopw [4, 6] (fun c d wr => ∃ k : Int, 1 ≤ k ∧ k ≤ 6 ∧ d = .int .i64 k ∧ c = .int .i64 ((c0 : Int) + cntI 4 1 (1 + u % 31) k) ∧ Below W.heap.size W wr) (fun _ d _ => (6 - intOf d).toNat)
      case atStart => exact ⟨1, by omega, by omega, rfl, by rw [show cntI 4 1 (1 + u % 31) 1 = 0 from rfl]; simp, HB.out⟩
      case round =>
        obtain ⟨k, hk1, hk, rfl, rfl, hbw⟩ := hrel
        have HB := Lib.hid hbw
        clear hbw
        have hd := cntI_le 4 1 (1 + u % 31) k hk1
        by_cases hlt : k < 6
        · cases hbr : bears 4 k (1 + u % 31)
          · have HR := Lib.hid (lbears_is 4 k (1 + u % 31) false hbr)
            have HP := Lib.hid (cnt_n hk1 hbr)
            clear hbr
            go_wp2_with fail
            refine (HR.out _ (HT.out.on HB.out)).mono ?_
            rintro e w2 ⟨rfl, hb2⟩
            have HB2 := Lib.hid (below_on HB.out hb2)
            clear hb2
            go_wp2_with fail
            go_roundw
            case rel => exact ⟨k + 1, by omega, by omega, by go_num, by rw [HP.out], HB2.out⟩
            case measure => simp [intOf]; omega
          · have HR := Lib.hid (lbears_is 4 k (1 + u % 31) true hbr)
            have HP := Lib.hid (cnt_y hk1 hbr)
            clear hbr
            go_wp2_with fail
            refine (HR.out _ (HT.out.on HB.out)).mono ?_
            rintro e w2 ⟨rfl, hb2⟩
            have HB2 := Lib.hid (below_on HB.out hb2)
            clear hb2
            go_wp2_with fail
            go_roundw
            case rel => exact ⟨k + 1, by omega, by omega, by go_num, by rw [HP.out]; go_num, HB2.out⟩
            case measure => simp [intOf]; omega
        · obtain rfl : k = 6 := by omega
          have HZ : Hid (((c0 : Int) + (cntI 4 1 (1 + u % 31) 6 : Nat) == 1) = true) := Lib.hid (by rw [beq_iff_eq]; have := HO.out; omega)
          go_wp2_with fail
          go_ret
          exact ⟨ret_bool HZ.out, HB.out⟩

/-! ### the row's step -/
set_option maxRecDepth 100000 in
theorem lifted (os : Os) (started : os.Started) (H : Type) (enc : TypeId × Value → H) :
    ReturnsInHanded {} Tryd.checked os 7 .any (fun w args => (Rows.labelPaschalSpec.pre enc Tryd.prog Tryd.f7 [] false w args ∧ laidMetH Tryd.prog laidL w) ∧ sizedMet enc Tryd.prog Tryd.f7 (OpenSpec.ofChange Rows.labelPaschalSpec) false w args)
      (Rows.labelPaschalSpec.post enc Tryd.prog Tryd.f7 false true false false) := by
  refine returnsInHanded_of_change_and (C := Tryd.checked) (X := fun w _ => laidMetH Tryd.prog laidL w) (fun _ _ _ hh h => h.of_heap hh) own started (by kernel_rfl) Tryd.func7
    (ChangeSpec.witness_shaped (enc := enc) (C := Tryd.checked) (os := os) (X := fun w _ => laidMetH Tryd.prog laidL w) false (World.doorLaid Tryd.prog 400 os) #[.int .u8 0] 8 rfl (World.shaped_of_RefB (by kernel_rfl) (by kernel_rfl)) (by kernel_rfl) (by kernel_rfl) (by kernel_rfl) (door_met os _)) ?_
  intro W base args ds gs before hval0 hW _ _ hL _
  have hval : ∀ (j : Nat) t v, Tryd.f7.params[j]? = some t → args[j]? = some v → Value.okWide Tryd.prog W .any base t v := hval0
  have hW' := hW
  obtain ⟨p, q, hA0, hV, rfl, hfz, hnd⟩ := hW
  have hA : DataW.TrodAll enc Tryd.prog W 0 (fun _ => true) true Tryd.f7.params.toList args.toList ds p := hA0
  rw [Tryd.params7] at hA hval
  obtain ⟨v0, vs0, d0, ds0, p0, q0, hargs, rfl, rfl, h0, r0⟩ := trodAll_cons hA
  obtain ⟨rfl, rfl, rfl⟩ := trodAll_nil r0
  obtain rfl : args = #[v0] := by cases args; simp_all
  obtain ⟨rfl, rfl⟩ := trodVars_none hV
  obtain ⟨a0, rfl, rfl, rfl, w0⟩ := open_int Tryd.underlying5 (hval 0 5 v0 rfl rfl) h0
  clear hA0 hval0
  simp only [List.append_nil] at hW'
  refine (walk a0 w0 W (laid_facts hL)).mono fun e W' ⟨he, bel⟩ => ?_
  subst he
  exact ⟨_, rfl, _, _, _, [], _, [], hW', trodAll_mk1 (shut_bool Tryd.underlying4 _), (trodAll_cons_mk (shut_int Tryd.underlying5 w0) trodAll_mk0), rfl, bel.frame _, fun h => by cases h⟩

theorem over : Rows.labelPaschalRow.holds Tryd.pinned (OpenSpec.ofChange Rows.labelPaschalSpec) :=
  OpenClaim.holds_of_wide 7 Tryd.f7 rfl rfl rfl rfl rfl rfl rfl ⟨rfl, rfl, rfl, rfl, rfl⟩ rfl rfl rfl rfl rfl (by kernel_rfl) Tryd.func7 (by kernel_rfl)
    (of_decide_eq_true (by kernel_rfl)) (by unfold Func.isWrapper; first | (rw [if_pos (by decide +kernel)]; kernel_rfl) | (rw [if_neg (by decide +kernel)]; exact ⟨rfl, rfl⟩))
    (fun os started H enc _ => lifted os started H enc)

/-- The statement: the tied card. -/
theorem proved : Rows.LabelPaschalCardSaid :=
  Claim7.holds_tied_plain_at .later [] [.data, .data] true (true, "f6ffa58ec8ad8553dd60e95785ec31bbba28e412efade22a3295923f5fa1b12a") false
    over (fun _ h => by cases h) (by kernel_rfl) (fun _ h => by cases h) labelPaschal_row_tie rfl ⟨rfl, rfl⟩ (by kernel_rfl) rfl
    (fun f fn hf hfn => by
      obtain rfl : f = 7 := Option.some.inj ((show Tryd.prog.funcNamed "computus/computuslaw08.LabelPaschal" = some 7 by kernel_rfl).symm.trans hf) |>.symm
      obtain rfl : fn = Tryd.f7 := (Option.some.inj (Tryd.func7.symm.trans hfn)).symm
      exact ⟨by kernel_rfl, fun j t ht => by
        rw [Tryd.params7] at ht
        have hm : t ∈ [5] := by simpa using Array.mem_of_getElem? ht
        have hall : ([5].all fun u => !Tryd.prog.wantsStandIn u) = true := by kernel_rfl
        exact (show Tryd.prog.wantsStandIn t = false by simpa using List.all_eq_true.1 hall t hm)⟩)
    (by kernel_rfl)
#print axioms proved
end Go.Proofs.YtadapffmcdkfiaaDoor.labelPaschal
