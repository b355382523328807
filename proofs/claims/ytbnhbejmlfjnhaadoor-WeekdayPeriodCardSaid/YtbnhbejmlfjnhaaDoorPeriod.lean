/- Proved: for every 64-bit integer, the law WeekdayPeriod of package computuslaw04 (consecutive days have consecutive days of the week, and a week later it is the same) returns true, and what was in memory is as it was. Condition: the table of names of package weekday reads as the program's text lays it (the card ties it). -/
import Derived.Test.YtbnhbejmlfjnhaaDoorWg
import Derived.Test.YtbnhbejmlfjnhaaDoorWy
import Derived.WalkKit
import Derived.ProofKit
import Derived.OpenShut
import Derived.ShutString
import Derived.Lib.SmallJoins
import Derived.LaidMore
import Derived.Stop.Joined
import Derived.SevenTiedAt
import Derived.Test.YtbnhbejmlfjnhaaDoorCards
import Derived.Test.YtbnhbejmlfjnhaaDoorTie
namespace Go.Proofs.YtbnhbejmlfjnhaaDoor.weekdayPeriod
open Go.ChangeShapes Go.WideShapes Go.ChangeAt Go.RowKit Go.Joins
open Go.ChangeMaps (open_string shut_string)
set_option linter.unusedVariables false      -- a walk need not use every fact

theorem walk_big (n : Int) (h : 4611686018427387904 < n) (W : World) (ht : WTab W) :
    Calls Tryd.prog 5 #[.int .i64 n] W fun e w' => e = .returned (.bool true) ∧ Below W.heap.size W w' := by
  have S0 := Lib.hid (And.intro ht (Below.refl W.heap.size W))
  clear ht
  go_enter Tryd.func5, Tryd.ntmps5
  go_wp2_with fail
  refine (wawake_any _ S0.out.1).mono ?_
  rintro e w1 ⟨rfl, hb1⟩
  have S1 := Lib.hid (And.intro (S0.out.1.on hb1) (below_on S0.out.2 hb1))
  clear hb1
  go_wp2_with fail
  refine (wawake_any _ S1.out.1).mono ?_
  rintro e w2 ⟨rfl, hb2⟩
  have S2 := Lib.hid (And.intro (S1.out.1.on hb2) (below_on S1.out.2 hb2))
  clear hb2
  go_wp2_with fail
  go_ret
  exact ⟨rfl, S2.out.2⟩
theorem walk_small (n q r : Int) (h1 : -9223372036854775808 ≤ n) (h2 : n ≤ 4611686018427387904) (q1 : 0 ≤ q) (q2 : q ≤ 6) (hr : r = (q + 1) % 7)
    (H1 : ∀ w, Calls Tryd.prog 15 #[.int .i64 n] w fun e w' => e = .returned (.int .i64 q) ∧ Below w.heap.size w w')
    (H2 : ∀ w, Calls Tryd.prog 15 #[.int .i64 (n + 7)] w fun e w' => e = .returned (.int .i64 q) ∧ Below w.heap.size w w')
    (H3 : ∀ w, Calls Tryd.prog 15 #[.int .i64 (n + 1)] w fun e w' => e = .returned (.int .i64 r) ∧ Below w.heap.size w w') (W : World) (ht : WTab W) :
    Calls Tryd.prog 5 #[.int .i64 n] W fun e w' => e = .returned (.bool true) ∧ Below W.heap.size W w' := by
  have HR := Lib.hid hr
  clear hr
  have S0 := Lib.hid (And.intro ht (Below.refl W.heap.size W))
  clear ht
  go_enter Tryd.func5, Tryd.ntmps5
  go_wp2_with fail
  refine (wawake_any _ S0.out.1).mono ?_
  rintro e w1 ⟨rfl, hb1⟩
  have S1 := Lib.hid (And.intro (S0.out.1.on hb1) (below_on S0.out.2 hb1))
  clear hb1
  go_wp2_with fail
  refine (H1 _).mono ?_
  rintro e w2 ⟨rfl, hb2⟩
  have S2 := Lib.hid (And.intro (S1.out.1.on hb2) (below_on S1.out.2 hb2))
  clear hb2
  go_wp2_with fail
  refine (H2 _).mono ?_
  rintro e w3 ⟨rfl, hb3⟩
  have S3 := Lib.hid (And.intro (S2.out.1.on hb3) (below_on S2.out.2 hb3))
  clear hb3
  go_wp2_with fail
  refine (H3 _).mono ?_
  rintro e w4 ⟨rfl, hb4⟩
  have S4 := Lib.hid (And.intro (S3.out.1.on hb4) (below_on S3.out.2 hb4))
  clear hb4
  go_wp2_with fail
  go_ret
  exact ⟨ret_bool (by rw [beq_iff_eq]; have := HR.out; omega), S4.out.2⟩
theorem walk (n : Int) (w0 : (Lit.int .i64 n).wf = true) (W : World) (ht : WTab W) :
    Calls Tryd.prog 5 #[.int .i64 n] W fun e w' => e = .returned (.bool true) ∧ Below W.heap.size W w' := by
  have hb := bounds_i64 w0
  by_cases h : 4611686018427387904 < n
  · exact walk_big n h W ht
  · refine walk_small n (n % 7) ((n + 1) % 7) hb.1 (by omega) (by omega) (by omega) (by omega) (fun w => of_any n w (inR_iff.2 hb)) (fun w => ?_) (fun w => of_any (n + 1) w (inR_iff.2 (by omega))) W ht
    have := of_any (n + 7) w (inR_iff.2 (by omega))
    rw [show (n + 7) % 7 = n % 7 by omega] at this
    exact this

/-! ### the row's step -/
set_option maxRecDepth 100000 in
theorem lifted (os : Os) (started : os.Started) (H : Type) (enc : TypeId × Value → H) :
    ReturnsInHanded {} Tryd.checked os 5 .any (fun w args => (Rows.weekdayPeriodSpec.pre enc Tryd.prog Tryd.f5 [] false w args ∧ laidMetH Tryd.prog laidL w) ∧ sizedMet enc Tryd.prog Tryd.f5 (OpenSpec.ofChange Rows.weekdayPeriodSpec) false w args)
      (Rows.weekdayPeriodSpec.post enc Tryd.prog Tryd.f5 false true false false) := by
  refine returnsInHanded_of_change_and (C := Tryd.checked) (X := fun w _ => laidMetH Tryd.prog laidL w) (fun _ _ _ hh h => h.of_heap hh) own started (by kernel_rfl) Tryd.func5
    (ChangeSpec.witness_shaped (enc := enc) (C := Tryd.checked) (os := os) (X := fun w _ => laidMetH Tryd.prog laidL w) false (World.doorLaid Tryd.prog 400 os) #[.int .i64 0] 8 rfl (World.shaped_of_RefB (by kernel_rfl) (by kernel_rfl)) (by kernel_rfl) (by kernel_rfl) (by kernel_rfl) (door_met os _)) ?_
  intro W base args ds gs before hval0 hW _ _ hL _
  have hval : ∀ (j : Nat) t v, Tryd.f5.params[j]? = some t → args[j]? = some v → Value.okWide Tryd.prog W .any base t v := hval0
  have hW' := hW
  obtain ⟨p, q, hA0, hV, rfl, hfz, hnd⟩ := hW
  have hA : DataW.TrodAll enc Tryd.prog W 0 (fun _ => true) true Tryd.f5.params.toList args.toList ds p := hA0
  rw [Tryd.params5] at hA hval
  obtain ⟨v0, vs0, d0, ds0, p0, q0, hargs, rfl, rfl, h0, r0⟩ := trodAll_cons hA
  obtain ⟨rfl, rfl, rfl⟩ := trodAll_nil r0
  obtain rfl : args = #[v0] := by cases args; simp_all
  obtain ⟨rfl, rfl⟩ := trodVars_none hV
  obtain ⟨a0, rfl, rfl, rfl, w0⟩ := open_int Tryd.underlying3 (hval 0 3 v0 rfl rfl) h0
  clear hA0 hval0
  simp only [List.append_nil] at hW'
  refine (walk a0 w0 W (laid_facts hL)).mono fun e W' ⟨he, bel⟩ => ?_
  subst he
  exact ⟨_, rfl, _, _, _, [], _, [], hW', trodAll_mk1 (shut_bool Tryd.underlying4 _), (trodAll_cons_mk (shut_int Tryd.underlying3 w0) trodAll_mk0), rfl, bel.frame _, fun h => by cases h⟩

theorem over : Rows.weekdayPeriodRow.holds Tryd.pinned (OpenSpec.ofChange Rows.weekdayPeriodSpec) :=
  OpenClaim.holds_of_wide 5 Tryd.f5 rfl rfl rfl rfl rfl rfl rfl ⟨rfl, rfl, rfl, rfl, rfl⟩ rfl rfl rfl rfl rfl (by kernel_rfl) Tryd.func5 (by kernel_rfl)
    (of_decide_eq_true (by kernel_rfl)) (by unfold Func.isWrapper; first | (rw [if_pos (by decide +kernel)]; kernel_rfl) | (rw [if_neg (by decide +kernel)]; exact ⟨rfl, rfl⟩))
    (fun os started H enc _ => lifted os started H enc)

/-- The statement: the tied card. -/
theorem proved : Rows.WeekdayPeriodCardSaid :=
  Claim7.holds_tied_plain_at .later [] [.data] true (true, "cf2f788374238d4a1d1cfc0760a351a645c0ad2efe73362c2e1334ead92a925a") false
    over (fun _ h => by cases h) (by kernel_rfl) (fun _ h => by cases h) weekdayPeriod_row_tie rfl ⟨rfl, rfl⟩ (by kernel_rfl) rfl
    (fun f fn hf hfn => by
      obtain rfl : f = 5 := Option.some.inj ((show Tryd.prog.funcNamed "computus/computuslaw04.WeekdayPeriod" = some 5 by kernel_rfl).symm.trans hf) |>.symm
      obtain rfl : fn = Tryd.f5 := (Option.some.inj (Tryd.func5.symm.trans hfn)).symm
      exact ⟨by kernel_rfl, fun j t ht => by
        rw [Tryd.params5] at ht
        have hm : t ∈ [3] := by simpa using Array.mem_of_getElem? ht
        have hall : ([3].all fun u => !Tryd.prog.wantsStandIn u) = true := by kernel_rfl
        exact (show Tryd.prog.wantsStandIn t = false by simpa using List.all_eq_true.1 hall t hm)⟩)
    (by kernel_rfl)
#print axioms proved
end Go.Proofs.YtbnhbejmlfjnhaaDoor.weekdayPeriod
