/- Proved: for every byte n, the law LabelLunations of package computuslaw08 (every label is borne by exactly one day of each of the first twelve lunations, and these days are 29 or 30 days apart) returns true, and what was in memory is as it was. Condition: the two tables of package label (the lengths of the months, the beginnings of the lunations) read as the program's text lays them (the card ties them). -/
import Derived.Test.YtadapffmcdkfiaaDoorLk
import Derived.Test.YtadapffmcdkfiaaDoorLl
import Derived.Test.YtadapffmcdkfiaaDoorLm
import Derived.Test.YtadapffmcdkfiaaDoorVy
import Derived.WalkKit
import Derived.ProofKit
import Derived.OpenShut
import Derived.ShutString
import Derived.Lib.SmallJoins
import Derived.Deep.RegionHeld3
import Derived.LaidMore
import Derived.Stop.Joined
import Derived.SevenTiedAt
import Derived.Test.YtadapffmcdkfiaaDoorCards
import Derived.Test.YtadapffmcdkfiaaDoorTie
namespace Go.Proofs.YtadapffmcdkfiaaDoor.labelLunations
open Go.ChangeShapes Go.WideShapes Go.ChangeAt Go.RowKit Go.Joins
open Go.ChangeMaps (open_string shut_string)
set_option linter.unusedVariables false      -- a walk need not use every fact

set_option maxHeartbeats 1000000 in
theorem walk_n (u : Int) (n : Nat) (hu : 0 ≤ u) (hu2 : u ≤ 255) (n1 : 12 ≤ n) (n2 : n ≤ 13) (hl : (days (1 + u % 31)).length = n) (W : World) (ht : LTab W) :
    Calls Tryd.prog 5 #[.int .u8 u] W fun e w' => e = .returned (.bool true) ∧ Below W.heap.size W w' := by
  have HD := Lib.hid (days_open (1 + u % 31) n hl (by omega))
  have HF := Lib.hid (fun (i : Nat) (hi : i < n) => lun_day (l := 1 + u % 31) (i := i) (by omega) (by omega) (by omega))
  have HT := Lib.hid ht
  have HZ : Hid (bef (1 + u % 31) 0 = 0) := Lib.hid rfl
  clear ht hl
  generalize hbe : bef (1 + u % 31) = be at *
  clear hbe
  generalize days (1 + u % 31) = ps at *
  have e1 : decide ((n : Int) < 12) = false := decide_eq_false (by omega)
  have e2 : decide (13 < (n : Int)) = false := decide_eq_false (by omega)
  go_enter Tryd.func5, Tryd.ntmps5
  go_wp2_with fail
  refine (c8awake_any _ HT.out).mono ?_
  rintro e w1 ⟨rfl, hb1⟩
  have S1 := Lib.hid hb1
  have T1 := Lib.hid (HT.out.on hb1)
  clear hb1
  go_wp2_with fail
  refine (HD.out _ T1.out).mono ?_
  rintro e w2 ⟨g, cap, rfl, hp2, hb2⟩
  have K2 : Hid (KeepL W g cap ps w2) := Lib.hid ⟨T1.out.on hb2, below_on S1.out hb2, hp2⟩
  clear hb2 hp2
  go_wp2_with fail
  go_loopw [5, 6] (fun c x wr => ∃ i : Nat, i ≤ n ∧ x = .int .i64 i ∧ c = .int .i64 (be i) ∧ KeepL W g cap ps wr) (fun _ x _ => (n - intOf x).toNat)
  case atStart => exact ⟨0, by omega, rfl, by rw [HZ.out], K2.out⟩
  case round =>
    obtain ⟨i, hi, rfl, rfl, hk⟩ := hrel
    have K3 := Lib.hid hk
    clear hk
    by_cases hlt : i < n
    · obtain ⟨a, b, hx, hok, hlu, hdist, hnext⟩ := HF.out i hlt
      obtain ⟨m1, m2, d1, d2⟩ := okD_bd hok
      have hdb := doy_bd hok
      have HY := Lib.hid (fun w => ldy_any a b w m1 m2 d1 d2)
      have hpos := lpos_is a b i (posM a b) true hlu rfl hok
      have HP := Lib.hid (fun u (h : u.cell? ⟨g, i * 2, none⟩ = some (.int .i64 a) ∧ u.cell? ⟨g, i * 2 + 1, none⟩ = some (.int .i64 b) ∧ KeepL W g cap ps u) => (hpos u h.2.2.t).mono (R' := fun e u' => e = .returned (.tuple #[.int .i64 i, .int .i64 (posM a b), .bool true]) ∧ u'.cell? ⟨g, i * 2, none⟩ = some (.int .i64 a) ∧ u'.cell? ⟨g, i * 2 + 1, none⟩ = some (.int .i64 b) ∧ KeepL W g cap ps u') fun e u' ⟨he, hb⟩ => ⟨he, cell_below h.1 hb, cell_below h.2.1 hb, h.2.2.on hb⟩)
      have HN := Lib.hid hnext
      have HX := Lib.hid hx
      clear hok hlu hpos hnext hx
      have K3d : Hid (wr.drew.cell? ⟨g, i * 2, none⟩ = some (.int .i64 a) ∧ wr.drew.cell? ⟨g, i * 2 + 1, none⟩ = some (.int .i64 b) ∧ KeepL W g cap ps wr.drew) := Lib.hid ⟨(K3.out.drew.two HX.out).1, (K3.out.drew.two HX.out).2, K3.out.drew⟩
      generalize doy a b = D at *
      by_cases i0 : i = 0
      · have e3 : decide (0 < i) = false := decide_eq_false (by omega)
        clear hdist i0
        go_wp2_with fail
        go_region_held3 (fun u => u.cell? ⟨g, i * 2, none⟩ = some (.int .i64 a) ∧ u.cell? ⟨g, i * 2 + 1, none⟩ = some (.int .i64 b) ∧ KeepL W g cap ps u)
          (first | exact K3d.out | assumption)
          (first | (go_at_call 9; refine (HP.out _ (by assumption)).mono ?_; rintro e w' ⟨rfl, hs'⟩))
        have HK := Lib.hid hs'.2.2
        have HC1 := hs'.1
        have HC2 := hs'.2.1
        clear hs'
        go_wp2_with fail
        go_quiet ((go_at_call 18; exact quiet_same (HY.out _)))
        go_wp2_with fail
        go_roundw
        case rel => exact ⟨i + 1, by omega, by go_num, by rw [HN.out], HK.out.dn _⟩
        case measure => simp [intOf]; omega
      · obtain ⟨q1, q2⟩ := hdist.resolve_left i0
        have e3 : decide (0 < i) = true := decide_eq_true (by omega)
        have e4 : decide (D - be i < 29) = false := decide_eq_false (by omega)
        have e5 : decide (30 < D - be i) = false := decide_eq_false (by omega)
        clear hdist i0
        go_wp2_with fail
        go_region_held3 (fun u => u.cell? ⟨g, i * 2, none⟩ = some (.int .i64 a) ∧ u.cell? ⟨g, i * 2 + 1, none⟩ = some (.int .i64 b) ∧ KeepL W g cap ps u)
          (first | exact K3d.out | assumption)
          (first | (go_at_call 9; refine (HP.out _ (by assumption)).mono ?_; rintro e w' ⟨rfl, hs'⟩))
        have HK := Lib.hid hs'.2.2
        have HC1 := hs'.1
        have HC2 := hs'.2.1
        clear hs'
        go_wp2_with fail
        go_quiet ((go_at_call 18; exact quiet_same (HY.out _)))
        go_wp2_with fail
        go_roundw
        case rel => exact ⟨i + 1, by omega, by go_num, by rw [HN.out], HK.out.dn _⟩
        case measure => simp [intOf]; omega
    · obtain rfl : i = n := by omega
      go_wp2_with fail
      go_ret
      exact ⟨rfl, K3.out.b⟩
theorem walk (u : Int) (w0 : (Lit.int .u8 u).wf = true) (W : World) (ht : LTab W) :
    Calls Tryd.prog 5 #[.int .u8 u] W fun e w' => e = .returned (.bool true) ∧ Below W.heap.size W w' := by
  obtain ⟨hu, hu2⟩ := bounds_u8 w0
  have hn := days_lens (l := 1 + u % 31) (by omega) (by omega)
  exact walk_n u _ hu hu2 (by omega) (by omega) rfl W ht

/-! ### the row's step -/
set_option maxRecDepth 100000 in
theorem lifted (os : Os) (started : os.Started) (H : Type) (enc : TypeId × Value → H) :
    ReturnsInHanded {} Tryd.checked os 5 .any (fun w args => (Rows.labelLunationsSpec.pre enc Tryd.prog Tryd.f5 [] false w args ∧ laidMetH Tryd.prog laidL w) ∧ sizedMet enc Tryd.prog Tryd.f5 (OpenSpec.ofChange Rows.labelLunationsSpec) false w args)
      (Rows.labelLunationsSpec.post enc Tryd.prog Tryd.f5 false true false false) := by
  refine returnsInHanded_of_change_and (C := Tryd.checked) (X := fun w _ => laidMetH Tryd.prog laidL w) (fun _ _ _ hh h => h.of_heap hh) own started (by kernel_rfl) Tryd.func5
    (ChangeSpec.witness_shaped (enc := enc) (C := Tryd.checked) (os := os) (X := fun w _ => laidMetH Tryd.prog laidL w) false (World.doorLaid Tryd.prog 400 os) #[.int .u8 0] 8 rfl (World.shaped_of_RefB (by kernel_rfl) (by kernel_rfl)) (by kernel_rfl) (by kernel_rfl) (by kernel_rfl) (door_met os _)) ?_
  intro W base args ds gs before hval0 hW _ _ hL _
  have hval : ∀ (j : Nat) t v, Tryd.f5.params[j]? = some t → args[j]? = some v → Value.okWide Tryd.prog W .any base t v := hval0
  have hW' := hW
  obtain ⟨p, q, hA0, hV, rfl, hfz, hnd⟩ := hW
  have hA : DataW.TrodAll enc Tryd.prog W 0 (fun _ => true) true Tryd.f5.params.toList args.toList ds p := hA0
  rw [Tryd.params5] at hA hval
  obtain ⟨v0, vs0, d0, ds0, p0, q0, hargs, rfl, rfl, h0, r0⟩ := trodAll_cons hA
  obtain ⟨rfl, rfl, rfl⟩ := trodAll_nil r0
  obtain rfl : args = #[v0] := by cases args; simp_all
  obtain ⟨rfl, rfl⟩ := trodVars_none hV
  obtain ⟨a0, rfl, rfl, rfl, w0⟩ := open_int Tryd.underlying5 (hval 0 5 v0 rfl rfl) h0
  clear hA0 hval0
  simp only [List.append_nil] at hW'
  refine (walk a0 w0 W (laid_facts hL)).mono fun e W' ⟨he, bel⟩ => ?_
  subst he
  exact ⟨_, rfl, _, _, _, [], _, [], hW', trodAll_mk1 (shut_bool Tryd.underlying4 _), (trodAll_cons_mk (shut_int Tryd.underlying5 w0) trodAll_mk0), rfl, bel.frame _, fun h => by cases h⟩

theorem over : Rows.labelLunationsRow.holds Tryd.pinned (OpenSpec.ofChange Rows.labelLunationsSpec) :=
  OpenClaim.holds_of_wide 5 Tryd.f5 rfl rfl rfl rfl rfl rfl rfl ⟨rfl, rfl, rfl, rfl, rfl⟩ rfl rfl rfl rfl rfl (by kernel_rfl) Tryd.func5 (by kernel_rfl)
    (of_decide_eq_true (by kernel_rfl)) (by unfold Func.isWrapper; first | (rw [if_pos (by decide +kernel)]; kernel_rfl) | (rw [if_neg (by decide +kernel)]; exact ⟨rfl, rfl⟩))
    (fun os started H enc _ => lifted os started H enc)

/-- The statement: the tied card. -/
theorem proved : Rows.LabelLunationsCardSaid :=
  Claim7.holds_tied_plain_at .later [] [.data, .data] true (true, "f6ffa58ec8ad8553dd60e95785ec31bbba28e412efade22a3295923f5fa1b12a") false
    over (fun _ h => by cases h) (by kernel_rfl) (fun _ h => by cases h) labelLunations_row_tie rfl ⟨rfl, rfl⟩ (by kernel_rfl) rfl
    (fun f fn hf hfn => by
      obtain rfl : f = 5 := Option.some.inj ((show Tryd.prog.funcNamed "computus/computuslaw08.LabelLunations" = some 5 by kernel_rfl).symm.trans hf) |>.symm
      obtain rfl : fn = Tryd.f5 := (Option.some.inj (Tryd.func5.symm.trans hfn)).symm
      exact ⟨by kernel_rfl, fun j t ht => by
        rw [Tryd.params5] at ht
        have hm : t ∈ [5] := by simpa using Array.mem_of_getElem? ht
        have hall : ([5].all fun u => !Tryd.prog.wantsStandIn u) = true := by kernel_rfl
        exact (show Tryd.prog.wantsStandIn t = false by simpa using List.all_eq_true.1 hall t hm)⟩)
    (by kernel_rfl)
#print axioms proved
end Go.Proofs.YtadapffmcdkfiaaDoor.labelLunations
