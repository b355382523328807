/- Proved: for every 64-bit integer year, the law GoldenCycle of package computuslaw06 (golden numbers are from 1 to 19, follow each other, and recur after 19 years) returns true, and what was in memory is as it was. Condition: the tables of months and groups read as the program's text lays them (the card ties them). -/
import Derived.Test.YtclnpnkjldddcaaDoorDe
import Derived.Test.YtclnpnkjldddcaaDoorVy
import Derived.WalkKit
import Derived.ProofKit
import Derived.OpenShut
import Derived.ShutString
import Derived.Lib.SmallJoins
import Derived.LaidMore
import Derived.Stop.Joined
import Derived.SevenTiedAt
import Derived.Test.YtclnpnkjldddcaaDoorCards
import Derived.Test.YtclnpnkjldddcaaDoorTie
namespace Go.Proofs.YtclnpnkjldddcaaDoor.goldenCycle
open Go.ChangeShapes Go.WideShapes Go.ChangeAt Go.RowKit Go.Joins
open Go.ChangeMaps (open_string shut_string)
set_option linter.unusedVariables false      -- a walk need not use every fact

theorem walk_lo (y : Int) 
    (h1 : y < 1)
    (W : World) (ht : CTab W) :
    Calls Tryd.prog 4 #[.int .i64 y] W fun e w' => e = .returned (.bool true) ∧ Below W.heap.size W w' := by
  have S0 := Lib.hid (St.start ht)
  clear ht
  go_enter Tryd.func4, Tryd.ntmps4
  go_wp2_with fail
  refine (c6awake_any _ S0.out.t).mono ?_
  rintro e w1 ⟨rfl, hb1⟩
  have S1 := Lib.hid (S0.out.on hb1)
  clear hb1
  go_wp2_with fail
  refine (c6awake_any _ S1.out.t).mono ?_
  rintro e w2 ⟨rfl, hb2⟩
  have S2 := Lib.hid (S1.out.on hb2)
  clear hb2
  go_wp2_with fail
  go_ret
  exact ⟨rfl, S2.out.b⟩
theorem walk_hi (y : Int) 
    (h1 : ¬ y < 1) (h2 : 999999900 < y)
    (W : World) (ht : CTab W) :
    Calls Tryd.prog 4 #[.int .i64 y] W fun e w' => e = .returned (.bool true) ∧ Below W.heap.size W w' := by
  have S0 := Lib.hid (St.start ht)
  clear ht
  go_enter Tryd.func4, Tryd.ntmps4
  go_wp2_with fail
  refine (c6awake_any _ S0.out.t).mono ?_
  rintro e w1 ⟨rfl, hb1⟩
  have S1 := Lib.hid (S0.out.on hb1)
  clear hb1
  go_wp2_with fail
  refine (c6awake_any _ S1.out.t).mono ?_
  rintro e w2 ⟨rfl, hb2⟩
  have S2 := Lib.hid (S1.out.on hb2)
  clear hb2
  go_wp2_with fail
  go_ret
  exact ⟨rfl, S2.out.b⟩
theorem walk_mid (y a : Int) 
    (h1 : 1 ≤ y) (h2 : y ≤ 999999900) (a1 : 1 ≤ a) (a2 : a ≤ 19)
    (H1 : ∀ w, Calls Tryd.prog 9 #[.int .i64 y] w fun e w' => e = .returned (numv a 0) ∧ Below w.heap.size w w')
    (H2 : ∀ w, Calls Tryd.prog 9 #[.int .i64 (y + 1)] w fun e w' => e = .returned (numv (a % 19 + 1) 0) ∧ Below w.heap.size w w')
    (H3 : ∀ w, Calls Tryd.prog 9 #[.int .i64 (y + 19)] w fun e w' => e = .returned (numv a 0) ∧ Below w.heap.size w w')
    (W : World) (ht : CTab W) :
    Calls Tryd.prog 4 #[.int .i64 y] W fun e w' => e = .returned (.bool true) ∧ Below W.heap.size W w' := by
  have S0 := Lib.hid (St.start ht)
  clear ht
  go_enter Tryd.func4, Tryd.ntmps4
  go_wp2_with fail
  refine (c6awake_any _ S0.out.t).mono ?_
  rintro e w1 ⟨rfl, hb1⟩
  have S1 := Lib.hid (S0.out.on hb1)
  clear hb1
  go_wp2_with fail
  refine (H1 _).mono ?_
  rintro e w2 ⟨rfl, hb2⟩
  have S2 := Lib.hid (S1.out.on hb2)
  clear hb2
  go_wp2_with fail
  refine (H2 _).mono ?_
  rintro e w3 ⟨rfl, hb3⟩
  have S3 := Lib.hid (S2.out.on hb3)
  clear hb3
  go_wp2_with fail
  refine (H3 _).mono ?_
  rintro e w4 ⟨rfl, hb4⟩
  have S4 := Lib.hid (S3.out.on hb4)
  clear hb4
  go_wp2_with fail
  go_ret
  exact ⟨rfl, S4.out.b⟩
theorem gold_at {y a : Int} (h1 : 1 ≤ y) (h2 : y ≤ 1000000000) (h : gold y = a) : vB (inY y) (gold y) = a ∧ eB (inY y) = 0 := by
  rw [inY_iff.2 ⟨h1, h2⟩]; exact ⟨h, rfl⟩
theorem walk (y : Int) (w0 : (Lit.int .i64 y).wf = true) (W : World) (ht : CTab W) :
    Calls Tryd.prog 4 #[.int .i64 y] W fun e w' => e = .returned (.bool true) ∧ Below W.heap.size W w' := by
  rcases Int.lt_or_le y 1 with h1 | h1
  · exact walk_lo y h1 W ht
  · rcases Int.lt_or_le 999999900 y with h2 | h2
    · exact walk_hi y (by omega) h2 W ht
    · obtain ⟨b1, b2⟩ := gold_bd y
      refine walk_mid y (gold y) h1 h2 b1 b2 (fun w => ?_) (fun w => ?_) (fun w => ?_) W ht
      · have := ggold_any y w
        obtain ⟨e1, e2⟩ := gold_at (y := y) h1 (by omega) rfl
        rw [e1, e2] at this; exact this
      · have := ggold_any (y + 1) w
        obtain ⟨e1, e2⟩ := gold_at (y := y + 1) (a := gold y % 19 + 1) (by omega) (by omega) (by unfold gold; omega)
        rw [e1, e2] at this; exact this
      · have := ggold_any (y + 19) w
        obtain ⟨e1, e2⟩ := gold_at (y := y + 19) (a := gold y) (by omega) (by omega) (by unfold gold; omega)
        rw [e1, e2] at this; exact this

/-! ### the row's step -/
set_option maxRecDepth 100000 in
theorem lifted (os : Os) (started : os.Started) (H : Type) (enc : TypeId × Value → H) :
    ReturnsInHanded {} Tryd.checked os 4 .any (fun w args => (Rows.goldenCycleSpec.pre enc Tryd.prog Tryd.f4 [] false w args ∧ laidMetH Tryd.prog laidL w) ∧ sizedMet enc Tryd.prog Tryd.f4 (OpenSpec.ofChange Rows.goldenCycleSpec) false w args)
      (Rows.goldenCycleSpec.post enc Tryd.prog Tryd.f4 false true false false) := by
  refine returnsInHanded_of_change_and (C := Tryd.checked) (X := fun w _ => laidMetH Tryd.prog laidL w) (fun _ _ _ hh h => h.of_heap hh) own started (by kernel_rfl) Tryd.func4
    (ChangeSpec.witness_shaped (enc := enc) (C := Tryd.checked) (os := os) (X := fun w _ => laidMetH Tryd.prog laidL w) false (World.doorLaid Tryd.prog 400 os) #[.int .i64 0] 8 rfl (World.shaped_of_RefB (by kernel_rfl) (by kernel_rfl)) (by kernel_rfl) (by kernel_rfl) (by kernel_rfl) (door_met os _)) ?_
  intro W base args ds gs before hval0 hW _ _ hL _
  have hval : ∀ (j : Nat) t v, Tryd.f4.params[j]? = some t → args[j]? = some v → Value.okWide Tryd.prog W .any base t v := hval0
  have hW' := hW
  obtain ⟨p, q, hA0, hV, rfl, hfz, hnd⟩ := hW
  have hA : DataW.TrodAll enc Tryd.prog W 0 (fun _ => true) true Tryd.f4.params.toList args.toList ds p := hA0
  rw [Tryd.params4] at hA hval
  obtain ⟨v0, vs0, d0, ds0, p0, q0, hargs, rfl, rfl, h0, r0⟩ := trodAll_cons hA
  obtain ⟨rfl, rfl, rfl⟩ := trodAll_nil r0
  obtain rfl : args = #[v0] := by cases args; simp_all
  obtain ⟨rfl, rfl⟩ := trodVars_none hV
  obtain ⟨a0, rfl, rfl, rfl, w0⟩ := open_int Tryd.underlying3 (hval 0 3 v0 rfl rfl) h0
  clear hA0 hval0
  simp only [List.append_nil] at hW'
  refine (walk a0 w0 W (laid_facts hL)).mono fun e W' ⟨he, bel⟩ => ?_
  subst he
  exact ⟨_, rfl, _, _, _, [], _, [], hW', trodAll_mk1 (shut_bool Tryd.underlying4 _), (trodAll_cons_mk (shut_int Tryd.underlying3 w0) trodAll_mk0), rfl, bel.frame _, fun h => by cases h⟩

theorem over : Rows.goldenCycleRow.holds Tryd.pinned (OpenSpec.ofChange Rows.goldenCycleSpec) :=
  OpenClaim.holds_of_wide 4 Tryd.f4 rfl rfl rfl rfl rfl rfl rfl ⟨rfl, rfl, rfl, rfl, rfl⟩ rfl rfl rfl rfl rfl (by kernel_rfl) Tryd.func4 (by kernel_rfl)
    (of_decide_eq_true (by kernel_rfl)) (by unfold Func.isWrapper; first | (rw [if_pos (by decide +kernel)]; kernel_rfl) | (rw [if_neg (by decide +kernel)]; exact ⟨rfl, rfl⟩))
    (fun os started H enc _ => lifted os started H enc)

/-- The statement: the tied card. -/
theorem proved : Rows.GoldenCycleCardSaid :=
  Claim7.holds_tied_plain_at .later [] [.data, .data, .data] true (true, "bff6ddbdc39f65526b6d7b9580cc599cc37756fb6942dc449d115ae4e50ae4ed") false
    over (fun _ h => by cases h) (by kernel_rfl) (fun _ h => by cases h) goldenCycle_row_tie rfl ⟨rfl, rfl⟩ (by kernel_rfl) rfl
    (fun f fn hf hfn => by
      obtain rfl : f = 4 := Option.some.inj ((show Tryd.prog.funcNamed "computus/computuslaw06.GoldenCycle" = some 4 by kernel_rfl).symm.trans hf) |>.symm
      obtain rfl : fn = Tryd.f4 := (Option.some.inj (Tryd.func4.symm.trans hfn)).symm
      exact ⟨by kernel_rfl, fun j t ht => by
        rw [Tryd.params4] at ht
        have hm : t ∈ [3] := by simpa using Array.mem_of_getElem? ht
        have hall : ([3].all fun u => !Tryd.prog.wantsStandIn u) = true := by kernel_rfl
        exact (show Tryd.prog.wantsStandIn t = false by simpa using List.all_eq_true.1 hall t hm)⟩)
    (by kernel_rfl)
#print axioms proved
end Go.Proofs.YtclnpnkjldddcaaDoor.goldenCycle
