/- Proved: for every year, the law JulianYears of package computuslaw02 (a year has as many days as its months) returns true, and what was in memory is as it was. Condition: the table of the lengths of the months reads as the program's text lays it (the card ties it). -/
import Derived.Test.YtkegllacdhaioaaDoorJg
import Derived.Test.YtkegllacdhaioaaDoorJy
import Derived.WalkKit
import Derived.ProofKit
import Derived.OpenShut
import Derived.ShutString
import Derived.Lib.SmallJoins
import Derived.LaidMore
import Derived.Stop.Joined
import Derived.SevenTiedAt
import Derived.Test.YtkegllacdhaioaaDoorCards
import Derived.Test.YtkegllacdhaioaaDoorTie
namespace Go.Proofs.YtkegllacdhaioaaDoor.julianYears
open Go.ChangeShapes Go.WideShapes Go.ChangeAt Go.RowKit Go.Joins
open Go.ChangeMaps (open_string shut_string)
set_option linter.unusedVariables false      -- a walk need not use every fact

theorem walk_no (y : Int) (h : y < 1 ∨ 999999990 < y) (W : World) (ht : Tab W) :
    Calls Tryd.prog 7 #[.int .i64 y] W fun e w' => e = .returned (.bool true) ∧ Below W.heap.size W w' := by
  have Ht := Lib.hid ht
  clear ht
  rcases h with h | h
  · go_enter Tryd.func7, Tryd.ntmps7
    go_wp2_with fail
    refine (awake_any _ Ht.out).mono ?_
    rintro e w1 ⟨rfl, hb1⟩
    have Ht1 := Lib.hid (Ht.out.below hb1 Ht.out.heap)
    go_wp2_with fail
    refine (awake_any _ Ht1.out).mono ?_
    rintro e w2 ⟨rfl, hb2⟩
    go_wp2_with fail
    go_ret
    exact ⟨rfl, hb1.trans (hb2.mono hb1.size)⟩
  · have h' : ¬ y < 1 := by omega
    go_enter Tryd.func7, Tryd.ntmps7
    go_wp2_with fail
    refine (awake_any _ Ht.out).mono ?_
    rintro e w1 ⟨rfl, hb1⟩
    have Ht1 := Lib.hid (Ht.out.below hb1 Ht.out.heap)
    go_wp2_with fail
    refine (awake_any _ Ht1.out).mono ?_
    rintro e w2 ⟨rfl, hb2⟩
    go_wp2_with fail
    go_ret
    exact ⟨rfl, hb1.trans (hb2.mono hb1.size)⟩

theorem walk_yes (y R : Int) (l : Bool) (hl : Hid (jlp y = l)) (y1 : 1 ≤ y) (y2 : y ≤ 999999990) (r1 : -1 ≤ R) (r2 : R ≤ 366000000000)
    (H1 : ∀ w, Calls Tryd.prog 14 #[.int .i64 y] w fun e w' => e = .returned (.tuple #[.int .i64 R, .int .i64 0]) ∧ w = w')
    (H2 : ∀ w, Calls Tryd.prog 14 #[.int .i64 (y + 1)] w fun e w' => e = .returned (.tuple #[.int .i64 (R + (365 + l01 l)), .int .i64 0]) ∧ w = w')
    (H3 : ∀ w, Calls Tryd.prog 14 #[.int .i64 (y + 4)] w fun e w' => e = .returned (.tuple #[.int .i64 (R + 1461), .int .i64 0]) ∧ w = w')
    (Hp : ∀ w, Calls Tryd.prog 17 #[.int .i64 y] w fun e w' => e = .returned (.bool l) ∧ w = w')
    (W : World) (ht : Tab W) :
    Calls Tryd.prog 7 #[.int .i64 y] W fun e w' => e = .returned (.bool true) ∧ Below W.heap.size W w' := by
  have Ht := Lib.hid ht
  clear ht
  have lb := l01_bd l
  go_enter Tryd.func7, Tryd.ntmps7
  go_wp2_with fail
  refine (awake_any _ Ht.out).mono ?_
  rintro e w1 ⟨rfl, hb1⟩
  have Ht1 := Lib.hid (Ht.out.below hb1 Ht.out.heap)
  have Hb1 := Lib.hid hb1
  clear hb1
  go_wp2_with fail
  refine (H1 _).mono ?_
  rintro e w2 ⟨rfl, rfl⟩
  go_wp2_with fail
  refine (H2 _).mono ?_
  rintro e w2 ⟨rfl, rfl⟩
  go_wp2_with fail
  refine (H3 _).mono ?_
  rintro e w2 ⟨rfl, rfl⟩
  go_wp2_with fail
  go_loop [9, 10] (fun n k => ∃ j : Int, 1 ≤ j ∧ j ≤ 13 ∧ k = .int .i64 j ∧ n = .int .i64 (cum l j)) (fun _ k => (13 - intOf k).toNat)
  case atStart => exact ⟨1, by omega, by omega, rfl, by rw [cum_one]⟩
  case round =>
    obtain ⟨j, j1, j2, rfl, rfl⟩ := hrel
    have cb := cum_bd l j j1 (by omega)
    by_cases hlt : j ≤ 12
    · have db := dim_bd l j j1 (by omega)
      have cs := Lib.hid (cum_succ l j j1 (by omega))
      have Hl := fun w ht => jlen_any y j w ht
      rw [hl.out] at Hl
      go_wp2_with (go_at_call 19; refine (Hl _ Ht1.out).mono ?_; rintro e w' ⟨rfl, rfl⟩)
      go_round
      case rel => exact ⟨j + 1, by omega, by omega, rfl, by rw [cs.out]⟩
      case measure => simp [intOf]; omega
    · obtain rfl : j = 13 := by omega
      have ce := cum_end l
      clear H1 H2 H3 hl
      cases l
      all_goals
        simp only [ce, l01] at *
        go_wp2_with (go_at_call 17; refine (Hp _).mono ?_; rintro e w' ⟨rfl, rfl⟩)
        go_ret
        exact ⟨ret_bool (by simp <;> omega), Hb1.out⟩

theorem walk (y : Int) (w0 : (Lit.int .i64 y).wf = true) (W : World) (ht : Tab W) :
    Calls Tryd.prog 7 #[.int .i64 y] W fun e w' => e = .returned (.bool true) ∧ Below W.heap.size W w' := by
  by_cases h : 1 ≤ y ∧ y ≤ 999999990
  · obtain ⟨h1, h2⟩ := h
    have e1 : jfst (y + 1) = jfst y + (365 + l01 (jlp y)) := by have := jul.step y h1; show jul.fst (y + 1) = jul.fst y + (365 + l01 (jul.lp y)); omega
    have e2 : jfst (y + 4) = jfst y + 1461 := by unfold jfst; omega
    refine walk_yes y (jfst y) (jlp y) (Lib.hid rfl) h1 h2 (by unfold jfst; omega) (by unfold jfst; omega) (fun w => jfirst_in y w h1 (by omega)) (fun w => ?_) (fun w => ?_) (fun w => jleap_any y w) W ht
    · rw [← e1]; exact jfirst_in (y + 1) w (by omega) (by omega)
    · rw [← e2]; exact jfirst_in (y + 4) w (by omega) (by omega)
  · exact walk_no y (by omega) W ht

/-! ### the row's step -/
set_option maxRecDepth 100000 in
theorem lifted (os : Os) (started : os.Started) (H : Type) (enc : TypeId × Value → H) :
    ReturnsInHanded {} Tryd.checked os 7 .any (fun w args => (Rows.julianYearsSpec.pre enc Tryd.prog Tryd.f7 [] false w args ∧ laidMetH Tryd.prog laidL w) ∧ sizedMet enc Tryd.prog Tryd.f7 (OpenSpec.ofChange Rows.julianYearsSpec) false w args)
      (Rows.julianYearsSpec.post enc Tryd.prog Tryd.f7 false true false false) := by
  refine returnsInHanded_of_change_and (C := Tryd.checked) (X := fun w _ => laidMetH Tryd.prog laidL w) (fun _ _ _ hh h => h.of_heap hh) own started (by kernel_rfl) Tryd.func7
    (ChangeSpec.witness_shaped (enc := enc) (C := Tryd.checked) (os := os) (X := fun w _ => laidMetH Tryd.prog laidL w) false (World.doorLaid Tryd.prog 400 os) #[.int .i64 0] 8 rfl (World.shaped_of_RefB (by kernel_rfl) (by kernel_rfl)) (by kernel_rfl) (by kernel_rfl) (by kernel_rfl) (door_met os _)) ?_
  intro W base args ds gs before hval0 hW _ _ hL _
  have hval : ∀ (j : Nat) t v, Tryd.f7.params[j]? = some t → args[j]? = some v → Value.okWide Tryd.prog W .any base t v := hval0
  have hW' := hW
  obtain ⟨p, q, hA0, hV, rfl, hfz, hnd⟩ := hW
  have hA : DataW.TrodAll enc Tryd.prog W 0 (fun _ => true) true Tryd.f7.params.toList args.toList ds p := hA0
  rw [Tryd.params7] at hA hval
  obtain ⟨v0, vs0, d0, ds0, p0, q0, hargs, rfl, rfl, h0, r0⟩ := trodAll_cons hA
  obtain ⟨rfl, rfl, rfl⟩ := trodAll_nil r0
  obtain rfl : args = #[v0] := by cases args; simp_all
  obtain ⟨rfl, rfl⟩ := trodVars_none hV
  obtain ⟨a0, rfl, rfl, rfl, w0⟩ := open_int Tryd.underlying3 (hval 0 3 v0 rfl rfl) h0
  clear hA0 hval0
  simp only [List.append_nil] at hW'
  refine (walk a0 w0 W (laid_facts hL)).mono fun e W' ⟨he, bel⟩ => ?_
  subst he
  exact ⟨_, rfl, _, _, _, [], _, [], hW', trodAll_mk1 (shut_bool Tryd.underlying4 _), (trodAll_cons_mk (shut_int Tryd.underlying3 w0) trodAll_mk0), rfl, bel.frame _, fun h => by cases h⟩

theorem over : Rows.julianYearsRow.holds Tryd.pinned (OpenSpec.ofChange Rows.julianYearsSpec) :=
  OpenClaim.holds_of_wide 7 Tryd.f7 rfl rfl rfl rfl rfl rfl rfl ⟨rfl, rfl, rfl, rfl, rfl⟩ rfl rfl rfl rfl rfl (by kernel_rfl) Tryd.func7 (by kernel_rfl)
    (of_decide_eq_true (by kernel_rfl)) (by unfold Func.isWrapper; first | (rw [if_pos (by decide +kernel)]; kernel_rfl) | (rw [if_neg (by decide +kernel)]; exact ⟨rfl, rfl⟩))
    (fun os started H enc _ => lifted os started H enc)

/-- The statement: the tied card. -/
theorem proved : Rows.JulianYearsCardSaid :=
  Claim7.holds_tied_plain_at .later [] [.data] true (true, "a696ea8fd7663b45987a608de6390415f82d50fa5bc0821e7abb3e9d0bbc09ed") false
    over (fun _ h => by cases h) (by kernel_rfl) (fun _ h => by cases h) julianYears_row_tie rfl ⟨rfl, rfl⟩ (by kernel_rfl) rfl
    (fun f fn hf hfn => by
      obtain rfl : f = 7 := Option.some.inj ((show Tryd.prog.funcNamed "computus/computuslaw02.JulianYears" = some 7 by kernel_rfl).symm.trans hf) |>.symm
      obtain rfl : fn = Tryd.f7 := (Option.some.inj (Tryd.func7.symm.trans hfn)).symm
      exact ⟨by kernel_rfl, fun j t ht => by
        rw [Tryd.params7] at ht
        have hm : t ∈ [3] := by simpa using Array.mem_of_getElem? ht
        have hall : ([3].all fun u => !Tryd.prog.wantsStandIn u) = true := by kernel_rfl
        exact (show Tryd.prog.wantsStandIn t = false by simpa using List.all_eq_true.1 hall t hm)⟩)
    (by kernel_rfl)
#print axioms proved
end Go.Proofs.YtkegllacdhaioaaDoor.julianYears
