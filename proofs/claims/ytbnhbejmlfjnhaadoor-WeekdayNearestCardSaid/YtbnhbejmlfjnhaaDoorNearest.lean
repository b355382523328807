/- Proved: for every two 64-bit integers, the law WeekdayNearest of package computuslaw04 (the day on or after and the day on or before have the given day of the week, within six days) returns true, and what was in memory is as it was. Condition: the table of names of package weekday reads as the program's text lays it (the card ties it). -/
import Derived.Test.YtbnhbejmlfjnhaaDoorWg
import Derived.Test.YtbnhbejmlfjnhaaDoorWy
import Derived.WalkKit
import Derived.ProofKit
import Derived.OpenShut
import Derived.ShutString
import Derived.Lib.SmallJoins
import Derived.LaidMore
import Derived.Stop.Joined
import Derived.SevenTiedAt
import Derived.Test.YtbnhbejmlfjnhaaDoorCards
import Derived.Test.YtbnhbejmlfjnhaaDoorTie
namespace Go.Proofs.YtbnhbejmlfjnhaaDoor.weekdayNearest
open Go.ChangeShapes Go.WideShapes Go.ChangeAt Go.RowKit Go.Joins
open Go.ChangeMaps (open_string shut_string)
set_option linter.unusedVariables false      -- a walk need not use every fact

theorem walk_out (n x : Int) (h : wOk n x = false) (W : World) (ht : WTab W) :
    Calls Tryd.prog 4 #[.int .i64 n, .int .i64 x] W fun e w' => e = .returned (.bool true) ∧ Below W.heap.size W w' := by
  have h' : x < 0 ∨ (¬ x < 0 ∧ 6 < x) ∨ (¬ x < 0 ∧ ¬ 6 < x ∧ n < -1099511627776) ∨ (¬ x < 0 ∧ ¬ 6 < x ∧ ¬ n < -1099511627776 ∧ 1099511627776 < n) := by
    by_cases g1 : x < 0
    · exact .inl g1
    · by_cases g2 : 6 < x
      · exact .inr (.inl ⟨g1, g2⟩)
      · by_cases g3 : n < -1099511627776
        · exact .inr (.inr (.inl ⟨g1, g2, g3⟩))
        · by_cases g4 : 1099511627776 < n
          · exact .inr (.inr (.inr ⟨g1, g2, g3, g4⟩))
          · rw [wOk_iff.2 ⟨⟨by omega, by omega⟩, by omega, by omega⟩] at h; cases h
  clear h
  rcases h' with h1 | ⟨h1, h2⟩ | ⟨h1, h2, h3⟩ | ⟨h1, h2, h3, h4⟩
  all_goals
    have S0 := Lib.hid (And.intro ht (Below.refl W.heap.size W))
    clear ht
    go_enter Tryd.func4, Tryd.ntmps4
    go_wp2_with fail
    refine (wawake_any _ S0.out.1).mono ?_
    rintro e w1 ⟨rfl, hb1⟩
    have S1 := Lib.hid (And.intro (S0.out.1.on hb1) (below_on S0.out.2 hb1))
    clear hb1
    go_wp2_with fail
    refine (wawake_any _ S1.out.1).mono ?_
    rintro e w2 ⟨rfl, hb2⟩
    have S2 := Lib.hid (And.intro (S1.out.1.on hb2) (below_on S1.out.2 hb2))
    clear hb2
    go_wp2_with fail
    go_ret
    exact ⟨rfl, S2.out.2⟩
theorem walk_eq (n x : Int) (x1 : 0 ≤ x) (x2 : x ≤ 6) (n1 : -1099511627776 ≤ n) (n2 : n ≤ 1099511627776) 
    (Ha : ∀ w, Calls Tryd.prog 9 #[.int .i64 n, .int .i64 x] w fun e w' => e = .returned (.tuple #[.int .i64 n, .int .i64 0]) ∧ Below w.heap.size w w')
    (Hb : ∀ w, Calls Tryd.prog 11 #[.int .i64 n, .int .i64 x] w fun e w' => e = .returned (.tuple #[.int .i64 n, .int .i64 0]) ∧ Below w.heap.size w w')
    (H1 : ∀ w, Calls Tryd.prog 15 #[.int .i64 n] w fun e w' => e = .returned (.int .i64 x) ∧ Below w.heap.size w w')
    (H2 : ∀ w, Calls Tryd.prog 15 #[.int .i64 n] w fun e w' => e = .returned (.int .i64 x) ∧ Below w.heap.size w w')
    (H3 : ∀ w, Calls Tryd.prog 15 #[.int .i64 n] w fun e w' => e = .returned (.int .i64 x) ∧ Below w.heap.size w w') (W : World) (ht : WTab W) :
    Calls Tryd.prog 4 #[.int .i64 n, .int .i64 x] W fun e w' => e = .returned (.bool true) ∧ Below W.heap.size W w' := by
  have S0 := Lib.hid (And.intro ht (Below.refl W.heap.size W))
  clear ht
  go_enter Tryd.func4, Tryd.ntmps4
  go_wp2_with fail
  refine (wawake_any _ S0.out.1).mono ?_
  rintro e w1 ⟨rfl, hb1⟩
  have S1 := Lib.hid (And.intro (S0.out.1.on hb1) (below_on S0.out.2 hb1))
  clear hb1
  go_wp2_with fail
  refine (Ha _).mono ?_
  rintro e w2 ⟨rfl, hb2⟩
  have S2 := Lib.hid (And.intro (S1.out.1.on hb2) (below_on S1.out.2 hb2))
  clear hb2
  go_wp2_with fail
  refine (Hb _).mono ?_
  rintro e w3 ⟨rfl, hb3⟩
  have S3 := Lib.hid (And.intro (S2.out.1.on hb3) (below_on S2.out.2 hb3))
  clear hb3
  go_wp2_with fail
  refine (H1 _).mono ?_
  rintro e w4 ⟨rfl, hb4⟩
  have S4 := Lib.hid (And.intro (S3.out.1.on hb4) (below_on S3.out.2 hb4))
  clear hb4
  go_wp2_with fail
  refine (H2 _).mono ?_
  rintro e w5 ⟨rfl, hb5⟩
  have S5 := Lib.hid (And.intro (S4.out.1.on hb5) (below_on S4.out.2 hb5))
  clear hb5
  go_wp2_with fail
  refine (H3 _).mono ?_
  rintro e w6 ⟨rfl, hb6⟩
  have S6 := Lib.hid (And.intro (S5.out.1.on hb6) (below_on S5.out.2 hb6))
  clear hb6
  go_wp2_with fail
  go_ret
  exact ⟨rfl, S6.out.2⟩
theorem walk_ne (n x b q : Int) (x1 : 0 ≤ x) (x2 : x ≤ 6) (n1 : -1099511627776 ≤ n) (n2 : n ≤ 1099511627776) (b1 : n - 6 ≤ b) (b2 : b + 7 ≤ n + 6) (b3 : b ≤ n) (b4 : n ≤ b + 7) (hq : ¬ q = x) 
    (Ha : ∀ w, Calls Tryd.prog 9 #[.int .i64 n, .int .i64 x] w fun e w' => e = .returned (.tuple #[.int .i64 (b + 7), .int .i64 0]) ∧ Below w.heap.size w w')
    (Hb : ∀ w, Calls Tryd.prog 11 #[.int .i64 n, .int .i64 x] w fun e w' => e = .returned (.tuple #[.int .i64 b, .int .i64 0]) ∧ Below w.heap.size w w')
    (H1 : ∀ w, Calls Tryd.prog 15 #[.int .i64 (b + 7)] w fun e w' => e = .returned (.int .i64 x) ∧ Below w.heap.size w w')
    (H2 : ∀ w, Calls Tryd.prog 15 #[.int .i64 b] w fun e w' => e = .returned (.int .i64 x) ∧ Below w.heap.size w w')
    (H3 : ∀ w, Calls Tryd.prog 15 #[.int .i64 n] w fun e w' => e = .returned (.int .i64 q) ∧ Below w.heap.size w w') (W : World) (ht : WTab W) :
    Calls Tryd.prog 4 #[.int .i64 n, .int .i64 x] W fun e w' => e = .returned (.bool true) ∧ Below W.heap.size W w' := by
  have e1 : (b + 7 == b) = false := by rw [beq_eq_false_iff_ne]; omega
  have e2 : (q == x) = false := by rw [beq_eq_false_iff_ne]; exact hq
  have S0 := Lib.hid (And.intro ht (Below.refl W.heap.size W))
  clear ht
  go_enter Tryd.func4, Tryd.ntmps4
  go_wp2_with fail
  refine (wawake_any _ S0.out.1).mono ?_
  rintro e w1 ⟨rfl, hb1⟩
  have S1 := Lib.hid (And.intro (S0.out.1.on hb1) (below_on S0.out.2 hb1))
  clear hb1
  go_wp2_with fail
  refine (Ha _).mono ?_
  rintro e w2 ⟨rfl, hb2⟩
  have S2 := Lib.hid (And.intro (S1.out.1.on hb2) (below_on S1.out.2 hb2))
  clear hb2
  go_wp2_with fail
  refine (Hb _).mono ?_
  rintro e w3 ⟨rfl, hb3⟩
  have S3 := Lib.hid (And.intro (S2.out.1.on hb3) (below_on S2.out.2 hb3))
  clear hb3
  go_wp2_with fail
  refine (H1 _).mono ?_
  rintro e w4 ⟨rfl, hb4⟩
  have S4 := Lib.hid (And.intro (S3.out.1.on hb4) (below_on S3.out.2 hb4))
  clear hb4
  go_wp2_with fail
  refine (H2 _).mono ?_
  rintro e w5 ⟨rfl, hb5⟩
  have S5 := Lib.hid (And.intro (S4.out.1.on hb5) (below_on S4.out.2 hb5))
  clear hb5
  go_wp2_with fail
  refine (H3 _).mono ?_
  rintro e w6 ⟨rfl, hb6⟩
  have S6 := Lib.hid (And.intro (S5.out.1.on hb6) (below_on S5.out.2 hb6))
  clear hb6
  go_wp2_with fail
  go_ret
  exact ⟨rfl, S6.out.2⟩
theorem walk (n x : Int) (w0 : (Lit.int .i64 n).wf = true) (w1 : (Lit.int .i64 x).wf = true) (W : World) (ht : WTab W) :
    Calls Tryd.prog 4 #[.int .i64 n, .int .i64 x] W fun e w' => e = .returned (.bool true) ∧ Below W.heap.size W w' := by
  cases h : wOk n x
  · exact walk_out n x h W ht
  · have Ha := fun w => aft_yes n x w h
    have Hb := fun w => bef_yes n x w h
    obtain ⟨⟨x1, x2⟩, n1, n2⟩ := wOk_iff.1 h
    by_cases hq : n % 7 = x
    · rw [show aft n x = n by unfold aft; omega] at Ha
      rw [show bef n x = n by unfold bef; omega] at Hb
      have H1 := fun w => of_any n w (inR_iff.2 (by omega))
      rw [hq] at H1
      exact walk_eq n x x1 x2 n1 n2 Ha Hb H1 H1 H1 W ht
    · have ea : aft n x = bef n x + 7 := by unfold aft bef; omega
      obtain ⟨b1, b2⟩ := bef_bd (n := n) (w := x)
      obtain ⟨a1, a2⟩ := aft_bd (n := n) (w := x)
      have mb := bef_mod (n := n) x1 x2
      rw [ea] at Ha a1 a2
      have H1 := fun w => of_any (bef n x + 7) w (inR_iff.2 (by omega))
      have H2 := fun w => of_any (bef n x) w (inR_iff.2 (by omega))
      have H3 := fun w => of_any n w (inR_iff.2 (by omega))
      rw [show (bef n x + 7) % 7 = x by omega] at H1
      rw [mb] at H2
      exact walk_ne n x (bef n x) (n % 7) x1 x2 n1 n2 b1 a2 b2 a1 hq Ha Hb H1 H2 H3 W ht

/-! ### the row's step -/
set_option maxRecDepth 100000 in
theorem lifted (os : Os) (started : os.Started) (H : Type) (enc : TypeId × Value → H) :
    ReturnsInHanded {} Tryd.checked os 4 .any (fun w args => (Rows.weekdayNearestSpec.pre enc Tryd.prog Tryd.f4 [] false w args ∧ laidMetH Tryd.prog laidL w) ∧ sizedMet enc Tryd.prog Tryd.f4 (OpenSpec.ofChange Rows.weekdayNearestSpec) false w args)
      (Rows.weekdayNearestSpec.post enc Tryd.prog Tryd.f4 false true false false) := by
  refine returnsInHanded_of_change_and (C := Tryd.checked) (X := fun w _ => laidMetH Tryd.prog laidL w) (fun _ _ _ hh h => h.of_heap hh) own started (by kernel_rfl) Tryd.func4
    (ChangeSpec.witness_shaped (enc := enc) (C := Tryd.checked) (os := os) (X := fun w _ => laidMetH Tryd.prog laidL w) false (World.doorLaid Tryd.prog 400 os) #[.int .i64 0, .int .i64 0] 8 rfl (World.shaped_of_RefB (by kernel_rfl) (by kernel_rfl)) (by kernel_rfl) (by kernel_rfl) (by kernel_rfl) (door_met os _)) ?_
  intro W base args ds gs before hval0 hW _ _ hL _
  have hval : ∀ (j : Nat) t v, Tryd.f4.params[j]? = some t → args[j]? = some v → Value.okWide Tryd.prog W .any base t v := hval0
  have hW' := hW
  obtain ⟨p, q, hA0, hV, rfl, hfz, hnd⟩ := hW
  have hA : DataW.TrodAll enc Tryd.prog W 0 (fun _ => true) true Tryd.f4.params.toList args.toList ds p := hA0
  rw [Tryd.params4] at hA hval
  obtain ⟨v0, vs0, d0, ds0, p0, q0, hargs, rfl, rfl, h0, r0⟩ := trodAll_cons hA
  obtain ⟨v1, vs1, d1, ds1, p1, q1, rfl, rfl, rfl, h1, r1⟩ := trodAll_cons r0
  obtain ⟨rfl, rfl, rfl⟩ := trodAll_nil r1
  obtain rfl : args = #[v0, v1] := by cases args; simp_all
  obtain ⟨rfl, rfl⟩ := trodVars_none hV
  obtain ⟨a0, rfl, rfl, rfl, w0⟩ := open_int Tryd.underlying3 (hval 0 3 v0 rfl rfl) h0
  obtain ⟨a1, rfl, rfl, rfl, w1⟩ := open_int Tryd.underlying3 (hval 1 3 v1 rfl rfl) h1
  clear hA0 hval0
  simp only [List.append_nil] at hW'
  refine (walk a0 a1 w0 w1 W (laid_facts hL)).mono fun e W' ⟨he, bel⟩ => ?_
  subst he
  exact ⟨_, rfl, _, _, _, [], _, [], hW', trodAll_mk1 (shut_bool Tryd.underlying4 _), (trodAll_cons_mk (shut_int Tryd.underlying3 w0) (trodAll_cons_mk (shut_int Tryd.underlying3 w1) trodAll_mk0)), rfl, bel.frame _, fun h => by cases h⟩

theorem over : Rows.weekdayNearestRow.holds Tryd.pinned (OpenSpec.ofChange Rows.weekdayNearestSpec) :=
  OpenClaim.holds_of_wide 4 Tryd.f4 rfl rfl rfl rfl rfl rfl rfl ⟨rfl, rfl, rfl, rfl, rfl⟩ rfl rfl rfl rfl rfl (by kernel_rfl) Tryd.func4 (by kernel_rfl)
    (of_decide_eq_true (by kernel_rfl)) (by unfold Func.isWrapper; first | (rw [if_pos (by decide +kernel)]; kernel_rfl) | (rw [if_neg (by decide +kernel)]; exact ⟨rfl, rfl⟩))
    (fun os started H enc _ => lifted os started H enc)

/-- The statement: the tied card. -/
theorem proved : Rows.WeekdayNearestCardSaid :=
  Claim7.holds_tied_plain_at .later [] [.data] true (true, "cf2f788374238d4a1d1cfc0760a351a645c0ad2efe73362c2e1334ead92a925a") false
    over (fun _ h => by cases h) (by kernel_rfl) (fun _ h => by cases h) weekdayNearest_row_tie rfl ⟨rfl, rfl⟩ (by kernel_rfl) rfl
    (fun f fn hf hfn => by
      obtain rfl : f = 4 := Option.some.inj ((show Tryd.prog.funcNamed "computus/computuslaw04.WeekdayNearest" = some 4 by kernel_rfl).symm.trans hf) |>.symm
      obtain rfl : fn = Tryd.f4 := (Option.some.inj (Tryd.func4.symm.trans hfn)).symm
      exact ⟨by kernel_rfl, fun j t ht => by
        rw [Tryd.params4] at ht
        have hm : t ∈ [3, 3] := by simpa using Array.mem_of_getElem? ht
        have hall : ([3, 3].all fun u => !Tryd.prog.wantsStandIn u) = true := by kernel_rfl
        exact (show Tryd.prog.wantsStandIn t = false by simpa using List.all_eq_true.1 hall t hm)⟩)
    (by kernel_rfl)
#print axioms proved
end Go.Proofs.YtbnhbejmlfjnhaaDoor.weekdayNearest
