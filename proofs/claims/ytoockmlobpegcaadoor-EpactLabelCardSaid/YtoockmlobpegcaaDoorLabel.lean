/- Proved: for every byte and every 64-bit integer year, the law EpactLabel of package computuslaw07 (epacts are from 1 to 30; the label is the epact, or 31 exactly if the epact is 25 and the golden number is greater than 11) returns true, and what was in memory is as it was. Condition: the listed tables of the library read as the program's text lays them (the card ties them; the proof reads none of them). -/
import Derived.Test.YtoockmlobpegcaaDoorEe
import Derived.Test.YtoockmlobpegcaaDoorVy
import Derived.WalkKit
import Derived.ProofKit
import Derived.OpenShut
import Derived.ShutString
import Derived.Lib.SmallJoins
import Derived.LaidMore
import Derived.Stop.Joined
import Derived.SevenTiedAt
import Derived.Test.YtoockmlobpegcaaDoorCards
import Derived.Test.YtoockmlobpegcaaDoorTie
namespace Go.Proofs.YtoockmlobpegcaaDoor.epactLabel
open Go.ChangeShapes Go.WideShapes Go.ChangeAt Go.RowKit Go.Joins
open Go.ChangeMaps (open_string shut_string)
set_option linter.unusedVariables false      -- a walk need not use every fact

theorem walk_1out (u y q : Int) (hu : 0 ≤ u) (hu2 : u ≤ 255) (hk : u % 2 = 0)
    (HF : ∀ w, Calls Tryd.prog 11 #[.int .i64 1, .int .i64 y] w fun e w' => e = .returned (.int .i64 q) ∧ w = w')
    (he : (q != 0) = true)
    (W : World) :
    Calls Tryd.prog 4 #[.int .u8 u, .int .i64 y] W fun e w' => e = .returned (.bool true) ∧ Below W.heap.size W w' := by
  have S0 := Lib.hid (Below.refl W.heap.size W)
  go_enter Tryd.func4, Tryd.ntmps4
  go_wp2_with fail
  refine (c7awake_any _).mono ?_
  rintro e w1 ⟨rfl, hb1⟩
  have S1 := Lib.hid (below_on S0.out hb1)
  clear hb1
  go_wp2_with fail
  refine (HF _).mono ?_
  rintro e wq ⟨rfl, rfl⟩
  go_wp2_with fail
  go_ret
  exact ⟨rfl, S1.out⟩
theorem walk_1lo (u y g : Int) (hu : 0 ≤ u) (hu2 : u ≤ 255) (hk : u % 2 = 0)
    (HF : ∀ w, Calls Tryd.prog 11 #[.int .i64 1, .int .i64 y] w fun e w' => e = .returned (.int .i64 0) ∧ w = w')
    (HO : ∀ w, Calls Tryd.prog 9 #[.int .i64 1, .int .i64 y] w fun e w' => e = .returned (numv 25 0) ∧ Below w.heap.size w w')
    (HL : ∀ w, Calls Tryd.prog 10 #[.int .i64 1, .int .i64 y] w fun e w' => e = .returned (numv 25 0) ∧ Below w.heap.size w w')
    (HG : ∀ w, Calls Tryd.prog 16 #[.int .i64 y] w fun e w' => e = .returned (.int .i64 g) ∧ w = w')
    (hg : ¬ 11 < g) (hg2 : decide (11 < g) = false)
    (W : World) :
    Calls Tryd.prog 4 #[.int .u8 u, .int .i64 y] W fun e w' => e = .returned (.bool true) ∧ Below W.heap.size W w' := by
  have S0 := Lib.hid (Below.refl W.heap.size W)
  go_enter Tryd.func4, Tryd.ntmps4
  go_wp2_with fail
  refine (c7awake_any _).mono ?_
  rintro e w1 ⟨rfl, hb1⟩
  have S1 := Lib.hid (below_on S0.out hb1)
  clear hb1
  go_wp2_with fail
  refine (HF _).mono ?_
  rintro e wq ⟨rfl, rfl⟩
  go_wp2_with fail
  refine (HO _).mono ?_
  rintro e w2 ⟨rfl, hb2⟩
  have S2 := Lib.hid (below_on S1.out hb2)
  clear hb2
  go_wp2_with fail
  refine (HL _).mono ?_
  rintro e w3 ⟨rfl, hb3⟩
  have S3 := Lib.hid (below_on S2.out hb3)
  clear hb3
  go_wp2_with fail
  refine (HG _).mono ?_
  rintro e wq ⟨rfl, rfl⟩
  go_wp2_with fail
  go_ret
  exact ⟨rfl, S3.out⟩
theorem walk_1pl (u y a : Int) (hu : 0 ≤ u) (hu2 : u ≤ 255) (hk : u % 2 = 0)
    (HF : ∀ w, Calls Tryd.prog 11 #[.int .i64 1, .int .i64 y] w fun e w' => e = .returned (.int .i64 0) ∧ w = w')
    (HO : ∀ w, Calls Tryd.prog 9 #[.int .i64 1, .int .i64 y] w fun e w' => e = .returned (numv a 0) ∧ Below w.heap.size w w')
    (HL : ∀ w, Calls Tryd.prog 10 #[.int .i64 1, .int .i64 y] w fun e w' => e = .returned (numv a 0) ∧ Below w.heap.size w w')
    (ha : (a == 25) = false) (a1 : 1 ≤ a) (a2 : a ≤ 30) (a3 : (a == 31) = false) (a4 : (a != 31) = true)
    (W : World) :
    Calls Tryd.prog 4 #[.int .u8 u, .int .i64 y] W fun e w' => e = .returned (.bool true) ∧ Below W.heap.size W w' := by
  have S0 := Lib.hid (Below.refl W.heap.size W)
  go_enter Tryd.func4, Tryd.ntmps4
  go_wp2_with fail
  refine (c7awake_any _).mono ?_
  rintro e w1 ⟨rfl, hb1⟩
  have S1 := Lib.hid (below_on S0.out hb1)
  clear hb1
  go_wp2_with fail
  refine (HF _).mono ?_
  rintro e wq ⟨rfl, rfl⟩
  go_wp2_with fail
  refine (HO _).mono ?_
  rintro e w2 ⟨rfl, hb2⟩
  have S2 := Lib.hid (below_on S1.out hb2)
  clear hb2
  go_wp2_with fail
  refine (HL _).mono ?_
  rintro e w3 ⟨rfl, hb3⟩
  have S3 := Lib.hid (below_on S2.out hb3)
  clear hb3
  go_wp2_with fail
  go_ret
  exact ⟨rfl, S3.out⟩
theorem walk_2out (u y q : Int) (hu : 0 ≤ u) (hu2 : u ≤ 255) (hk : u % 2 = 1)
    (HF : ∀ w, Calls Tryd.prog 11 #[.int .i64 2, .int .i64 y] w fun e w' => e = .returned (.int .i64 q) ∧ w = w')
    (he : (q != 0) = true)
    (W : World) :
    Calls Tryd.prog 4 #[.int .u8 u, .int .i64 y] W fun e w' => e = .returned (.bool true) ∧ Below W.heap.size W w' := by
  have S0 := Lib.hid (Below.refl W.heap.size W)
  go_enter Tryd.func4, Tryd.ntmps4
  go_wp2_with fail
  refine (c7awake_any _).mono ?_
  rintro e w1 ⟨rfl, hb1⟩
  have S1 := Lib.hid (below_on S0.out hb1)
  clear hb1
  go_wp2_with fail
  refine (HF _).mono ?_
  rintro e wq ⟨rfl, rfl⟩
  go_wp2_with fail
  go_ret
  exact ⟨rfl, S1.out⟩
theorem walk_2late (u y g : Int) (hu : 0 ≤ u) (hu2 : u ≤ 255) (hk : u % 2 = 1)
    (HF : ∀ w, Calls Tryd.prog 11 #[.int .i64 2, .int .i64 y] w fun e w' => e = .returned (.int .i64 0) ∧ w = w')
    (HO : ∀ w, Calls Tryd.prog 9 #[.int .i64 2, .int .i64 y] w fun e w' => e = .returned (numv 25 0) ∧ Below w.heap.size w w')
    (HL : ∀ w, Calls Tryd.prog 10 #[.int .i64 2, .int .i64 y] w fun e w' => e = .returned (numv 31 0) ∧ Below w.heap.size w w')
    (HG : ∀ w, Calls Tryd.prog 16 #[.int .i64 y] w fun e w' => e = .returned (.int .i64 g) ∧ w = w')
    (hg : 11 < g)
    (W : World) :
    Calls Tryd.prog 4 #[.int .u8 u, .int .i64 y] W fun e w' => e = .returned (.bool true) ∧ Below W.heap.size W w' := by
  have S0 := Lib.hid (Below.refl W.heap.size W)
  go_enter Tryd.func4, Tryd.ntmps4
  go_wp2_with fail
  refine (c7awake_any _).mono ?_
  rintro e w1 ⟨rfl, hb1⟩
  have S1 := Lib.hid (below_on S0.out hb1)
  clear hb1
  go_wp2_with fail
  refine (HF _).mono ?_
  rintro e wq ⟨rfl, rfl⟩
  go_wp2_with fail
  refine (HO _).mono ?_
  rintro e w2 ⟨rfl, hb2⟩
  have S2 := Lib.hid (below_on S1.out hb2)
  clear hb2
  go_wp2_with fail
  refine (HL _).mono ?_
  rintro e w3 ⟨rfl, hb3⟩
  have S3 := Lib.hid (below_on S2.out hb3)
  clear hb3
  go_wp2_with fail
  refine (HG _).mono ?_
  rintro e wq ⟨rfl, rfl⟩
  go_wp2_with fail
  go_ret
  exact ⟨rfl, S3.out⟩
theorem walk_2lo (u y g : Int) (hu : 0 ≤ u) (hu2 : u ≤ 255) (hk : u % 2 = 1)
    (HF : ∀ w, Calls Tryd.prog 11 #[.int .i64 2, .int .i64 y] w fun e w' => e = .returned (.int .i64 0) ∧ w = w')
    (HO : ∀ w, Calls Tryd.prog 9 #[.int .i64 2, .int .i64 y] w fun e w' => e = .returned (numv 25 0) ∧ Below w.heap.size w w')
    (HL : ∀ w, Calls Tryd.prog 10 #[.int .i64 2, .int .i64 y] w fun e w' => e = .returned (numv 25 0) ∧ Below w.heap.size w w')
    (HG : ∀ w, Calls Tryd.prog 16 #[.int .i64 y] w fun e w' => e = .returned (.int .i64 g) ∧ w = w')
    (hg : ¬ 11 < g) (hg2 : decide (11 < g) = false)
    (W : World) :
    Calls Tryd.prog 4 #[.int .u8 u, .int .i64 y] W fun e w' => e = .returned (.bool true) ∧ Below W.heap.size W w' := by
  have S0 := Lib.hid (Below.refl W.heap.size W)
  go_enter Tryd.func4, Tryd.ntmps4
  go_wp2_with fail
  refine (c7awake_any _).mono ?_
  rintro e w1 ⟨rfl, hb1⟩
  have S1 := Lib.hid (below_on S0.out hb1)
  clear hb1
  go_wp2_with fail
  refine (HF _).mono ?_
  rintro e wq ⟨rfl, rfl⟩
  go_wp2_with fail
  refine (HO _).mono ?_
  rintro e w2 ⟨rfl, hb2⟩
  have S2 := Lib.hid (below_on S1.out hb2)
  clear hb2
  go_wp2_with fail
  refine (HL _).mono ?_
  rintro e w3 ⟨rfl, hb3⟩
  have S3 := Lib.hid (below_on S2.out hb3)
  clear hb3
  go_wp2_with fail
  refine (HG _).mono ?_
  rintro e wq ⟨rfl, rfl⟩
  go_wp2_with fail
  go_ret
  exact ⟨rfl, S3.out⟩
theorem walk_2pl (u y a : Int) (hu : 0 ≤ u) (hu2 : u ≤ 255) (hk : u % 2 = 1)
    (HF : ∀ w, Calls Tryd.prog 11 #[.int .i64 2, .int .i64 y] w fun e w' => e = .returned (.int .i64 0) ∧ w = w')
    (HO : ∀ w, Calls Tryd.prog 9 #[.int .i64 2, .int .i64 y] w fun e w' => e = .returned (numv a 0) ∧ Below w.heap.size w w')
    (HL : ∀ w, Calls Tryd.prog 10 #[.int .i64 2, .int .i64 y] w fun e w' => e = .returned (numv a 0) ∧ Below w.heap.size w w')
    (ha : (a == 25) = false) (a1 : 1 ≤ a) (a2 : a ≤ 30) (a3 : (a == 31) = false) (a4 : (a != 31) = true)
    (W : World) :
    Calls Tryd.prog 4 #[.int .u8 u, .int .i64 y] W fun e w' => e = .returned (.bool true) ∧ Below W.heap.size W w' := by
  have S0 := Lib.hid (Below.refl W.heap.size W)
  go_enter Tryd.func4, Tryd.ntmps4
  go_wp2_with fail
  refine (c7awake_any _).mono ?_
  rintro e w1 ⟨rfl, hb1⟩
  have S1 := Lib.hid (below_on S0.out hb1)
  clear hb1
  go_wp2_with fail
  refine (HF _).mono ?_
  rintro e wq ⟨rfl, rfl⟩
  go_wp2_with fail
  refine (HO _).mono ?_
  rintro e w2 ⟨rfl, hb2⟩
  have S2 := Lib.hid (below_on S1.out hb2)
  clear hb2
  go_wp2_with fail
  refine (HL _).mono ?_
  rintro e w3 ⟨rfl, hb3⟩
  have S3 := Lib.hid (below_on S2.out hb3)
  clear hb3
  go_wp2_with fail
  go_ret
  exact ⟨rfl, S3.out⟩
theorem jul_late {y : Int} (h : epc 1 y = 25) : ¬ 11 < gold y := by
  have hb := gold_bd y
  change ep30 (11 * gold y - 3) = 25 at h
  unfold ep30 at h
  generalize gold y = g at *
  split at h <;> omega
theorem walk (u y : Int) (w0 : (Lit.int .u8 u).wf = true) (w1 : (Lit.int .i64 y).wf = true) (W : World) (_ : True) :
    Calls Tryd.prog 4 #[.int .u8 u, .int .i64 y] W fun e w' => e = .returned (.bool true) ∧ Below W.heap.size W w' := by
  have hb := bounds_u8 w0
  by_cases hk : u % 2 = 0
  · have HF := fun w => rfail_any 1 y w
    have HO := fun w => eOf_any 1 y w (by decide)
    have HL := fun w => eLab_any 1 y w (by decide)
    by_cases h : epE 1 y = 0
    · obtain ⟨e1, e2⟩ := epN_at h
      obtain ⟨y1, y2⟩ := epE_inY h
      have HG := fun w => rgold_any y w y1 y2
      have eb := ep30_bd (epF 1 y)
      rw [e1, h] at HO
      rw [e2, h] at HL
      rw [h] at HF
      unfold lab lbl at HL
      by_cases ha : epc 1 y = 25
      · rw [ha] at HO HL
        by_cases hg : 11 < gold y
        · exact absurd hg (jul_late ha)
        · rw [if_neg (fun g => hg g.2)] at HL; exact walk_1lo u y _ hb.1 hb.2 (by omega) HF HO HL HG hg (decide_eq_false hg) W
      · rw [if_neg (fun g => ha g.1)] at HL
        exact walk_1pl u y _ hb.1 hb.2 (by omega) HF HO HL (by rw [beq_eq_false_iff_ne]; exact ha) eb.1 eb.2 (by rw [beq_eq_false_iff_ne]; have : epc 1 y ≤ 30 := eb.2; omega) (by rw [bne_iff_ne]; have : epc 1 y ≤ 30 := eb.2; omega) W
    · exact walk_1out u y _ hb.1 hb.2 (by omega) HF (by rw [bne_iff_ne]; exact h) W
  · have HF := fun w => rfail_any 2 y w
    have HO := fun w => eOf_any 2 y w (by decide)
    have HL := fun w => eLab_any 2 y w (by decide)
    by_cases h : epE 2 y = 0
    · obtain ⟨e1, e2⟩ := epN_at h
      obtain ⟨y1, y2⟩ := epE_inY h
      have HG := fun w => rgold_any y w y1 y2
      have eb := ep30_bd (epF 2 y)
      rw [e1, h] at HO
      rw [e2, h] at HL
      rw [h] at HF
      unfold lab lbl at HL
      by_cases ha : epc 2 y = 25
      · rw [ha] at HO HL
        by_cases hg : 11 < gold y
        · rw [if_pos ⟨rfl, hg⟩] at HL; exact walk_2late u y _ hb.1 hb.2 (by omega) HF HO HL HG hg W
        · rw [if_neg (fun g => hg g.2)] at HL; exact walk_2lo u y _ hb.1 hb.2 (by omega) HF HO HL HG hg (decide_eq_false hg) W
      · rw [if_neg (fun g => ha g.1)] at HL
        exact walk_2pl u y _ hb.1 hb.2 (by omega) HF HO HL (by rw [beq_eq_false_iff_ne]; exact ha) eb.1 eb.2 (by rw [beq_eq_false_iff_ne]; have : epc 2 y ≤ 30 := eb.2; omega) (by rw [bne_iff_ne]; have : epc 2 y ≤ 30 := eb.2; omega) W
    · exact walk_2out u y _ hb.1 hb.2 (by omega) HF (by rw [bne_iff_ne]; exact h) W

/-! ### the row's step -/
set_option maxRecDepth 100000 in
theorem lifted (os : Os) (started : os.Started) (H : Type) (enc : TypeId × Value → H) :
    ReturnsInHanded {} Tryd.checked os 4 .any (fun w args => (Rows.epactLabelSpec.pre enc Tryd.prog Tryd.f4 [] false w args ∧ laidMetH Tryd.prog laidL w) ∧ sizedMet enc Tryd.prog Tryd.f4 (OpenSpec.ofChange Rows.epactLabelSpec) false w args)
      (Rows.epactLabelSpec.post enc Tryd.prog Tryd.f4 false true false false) := by
  refine returnsInHanded_of_change_and (C := Tryd.checked) (X := fun w _ => laidMetH Tryd.prog laidL w) (fun _ _ _ hh h => h.of_heap hh) own started (by kernel_rfl) Tryd.func4
    (ChangeSpec.witness_shaped (enc := enc) (C := Tryd.checked) (os := os) (X := fun w _ => laidMetH Tryd.prog laidL w) false (World.doorLaid Tryd.prog 400 os) #[.int .u8 0, .int .i64 0] 8 rfl (World.shaped_of_RefB (by kernel_rfl) (by kernel_rfl)) (by kernel_rfl) (by kernel_rfl) (by kernel_rfl) (door_met os _)) ?_
  intro W base args ds gs before hval0 hW _ _ hL _
  have hval : ∀ (j : Nat) t v, Tryd.f4.params[j]? = some t → args[j]? = some v → Value.okWide Tryd.prog W .any base t v := hval0
  have hW' := hW
  obtain ⟨p, q, hA0, hV, rfl, hfz, hnd⟩ := hW
  have hA : DataW.TrodAll enc Tryd.prog W 0 (fun _ => true) true Tryd.f4.params.toList args.toList ds p := hA0
  rw [Tryd.params4] at hA hval
  obtain ⟨v0, vs0, d0, ds0, p0, q0, hargs, rfl, rfl, h0, r0⟩ := trodAll_cons hA
  obtain ⟨v1, vs1, d1, ds1, p1, q1, rfl, rfl, rfl, h1, r1⟩ := trodAll_cons r0
  obtain ⟨rfl, rfl, rfl⟩ := trodAll_nil r1
  obtain rfl : args = #[v0, v1] := by cases args; simp_all
  obtain ⟨rfl, rfl⟩ := trodVars_none hV
  obtain ⟨a0, rfl, rfl, rfl, w0⟩ := open_int Tryd.underlying5 (hval 0 5 v0 rfl rfl) h0
  obtain ⟨a1, rfl, rfl, rfl, w1⟩ := open_int Tryd.underlying3 (hval 1 3 v1 rfl rfl) h1
  clear hA0 hval0
  simp only [List.append_nil] at hW'
  refine (walk a0 a1 w0 w1 W (laid_facts hL)).mono fun e W' ⟨he, bel⟩ => ?_
  subst he
  exact ⟨_, rfl, _, _, _, [], _, [], hW', trodAll_mk1 (shut_bool Tryd.underlying4 _), (trodAll_cons_mk (shut_int Tryd.underlying5 w0) (trodAll_cons_mk (shut_int Tryd.underlying3 w1) trodAll_mk0)), rfl, bel.frame _, fun h => by cases h⟩

theorem over : Rows.epactLabelRow.holds Tryd.pinned (OpenSpec.ofChange Rows.epactLabelSpec) :=
  OpenClaim.holds_of_wide 4 Tryd.f4 rfl rfl rfl rfl rfl rfl rfl ⟨rfl, rfl, rfl, rfl, rfl⟩ rfl rfl rfl rfl rfl (by kernel_rfl) Tryd.func4 (by kernel_rfl)
    (of_decide_eq_true (by kernel_rfl)) (by unfold Func.isWrapper; first | (rw [if_pos (by decide +kernel)]; kernel_rfl) | (rw [if_neg (by decide +kernel)]; exact ⟨rfl, rfl⟩))
    (fun os started H enc _ => lifted os started H enc)

/-- The statement: the tied card. -/
theorem proved : Rows.EpactLabelCardSaid :=
  Claim7.holds_tied_plain_at .later [] [.data, .data, .data] true (true, "b963811442bab6dbbb09f52966fa8716103917afb5f51ddd846ef8c60cacc619") false
    over (fun _ h => by cases h) (by kernel_rfl) (fun _ h => by cases h) epactLabel_row_tie rfl ⟨rfl, rfl⟩ (by kernel_rfl) rfl
    (fun f fn hf hfn => by
      obtain rfl : f = 4 := Option.some.inj ((show Tryd.prog.funcNamed "computus/computuslaw07.EpactLabel" = some 4 by kernel_rfl).symm.trans hf) |>.symm
      obtain rfl : fn = Tryd.f4 := (Option.some.inj (Tryd.func4.symm.trans hfn)).symm
      exact ⟨by kernel_rfl, fun j t ht => by
        rw [Tryd.params4] at ht
        have hm : t ∈ [5, 3] := by simpa using Array.mem_of_getElem? ht
        have hall : ([5, 3].all fun u => !Tryd.prog.wantsStandIn u) = true := by kernel_rfl
        exact (show Tryd.prog.wantsStandIn t = false by simpa using List.all_eq_true.1 hall t hm)⟩)
    (by kernel_rfl)
#print axioms proved
end Go.Proofs.YtoockmlobpegcaaDoor.epactLabel
