/- Proved: for every three 64-bit integers and every string, the law WeekdayMatchesReference of package computuslaw04 (all functions return what the reference returns) returns true, and what was in memory is as it was. Condition: the table of names of package weekday reads as the program's text lays it (the card ties it). -/
import Derived.Test.YtbnhbejmlfjnhaaDoorWg
import Derived.Test.YtbnhbejmlfjnhaaDoorWy
import Derived.WalkKit
import Derived.ProofKit
import Derived.OpenShut
import Derived.ShutString
import Derived.Lib.SmallJoins
import Derived.LaidMore
import Derived.Stop.Joined
import Derived.SevenTiedAt
import Derived.Test.YtbnhbejmlfjnhaaDoorCards
import Derived.Test.YtbnhbejmlfjnhaaDoorTie
namespace Go.Proofs.YtbnhbejmlfjnhaaDoor.weekdayMatchesReference
open Go.ChangeShapes Go.WideShapes Go.ChangeAt Go.RowKit Go.Joins
open Go.ChangeMaps (open_string shut_string)
set_option linter.unusedVariables false      -- a walk need not use every fact

theorem walk_long (n x c : Int) (s : ByteArray) (h : 1000 < (s.size : Int)) (W : World) (ht : WTab W) :
    Calls Tryd.prog 3 #[.int .i64 n, .int .i64 x, .int .i64 c, .string s] W fun e w' => e = .returned (.bool true) ∧ Below W.heap.size W w' := by
  have S0 := Lib.hid (And.intro ht (Below.refl W.heap.size W))
  clear ht
  go_enter Tryd.func3, Tryd.ntmps3
  go_wp2_with fail
  refine (wawake_any _ S0.out.1).mono ?_
  rintro e w1 ⟨rfl, hb1⟩
  have S1 := Lib.hid (And.intro (S0.out.1.on hb1) (below_on S0.out.2 hb1))
  clear hb1
  go_wp2_with fail
  refine (wawake_any _ S1.out.1).mono ?_
  rintro e w2 ⟨rfl, hb2⟩
  have S2 := Lib.hid (And.intro (S1.out.1.on hb2) (below_on S1.out.2 hb2))
  clear hb2
  go_wp2_with fail
  go_ret
  exact ⟨rfl, S2.out.2⟩
theorem walk_all (n x c A B D E G q F : Int) (X s : ByteArray) (hs : (s.size : Int) ≤ 1000)
    (H1 : ∀ w, Calls Tryd.prog 9 #[.int .i64 n, .int .i64 x] w fun e w' => e = .returned (.tuple #[.int .i64 A, .int .i64 E]) ∧ Below w.heap.size w w')
    (H2 : ∀ w, Calls Tryd.prog 10 #[.int .i64 n, .int .i64 x] w fun e w' => e = .returned (.tuple #[.int .i64 A, .int .i64 E]) ∧ w = w')
    (H3 : ∀ w, Calls Tryd.prog 11 #[.int .i64 n, .int .i64 x] w fun e w' => e = .returned (.tuple #[.int .i64 B, .int .i64 E]) ∧ Below w.heap.size w w')
    (H4 : ∀ w, Calls Tryd.prog 12 #[.int .i64 n, .int .i64 x] w fun e w' => e = .returned (.tuple #[.int .i64 B, .int .i64 E]) ∧ w = w')
    (H5 : ∀ w, Calls Tryd.prog 13 #[.int .i64 n, .int .i64 x, .int .i64 c] w fun e w' => e = .returned (.tuple #[.int .i64 D, .int .i64 G]) ∧ Below w.heap.size w w')
    (H6 : ∀ w, Calls Tryd.prog 14 #[.int .i64 n, .int .i64 x, .int .i64 c] w fun e w' => e = .returned (.tuple #[.int .i64 D, .int .i64 G]) ∧ w = w')
    (H7 : ∀ w, Calls Tryd.prog 15 #[.int .i64 n] w fun e w' => e = .returned (.int .i64 q) ∧ Below w.heap.size w w')
    (H8 : ∀ w, Calls Tryd.prog 16 #[.int .i64 n] w fun e w' => e = .returned (.int .i64 q) ∧ w = w')
    (H9 : ∀ w, WTab w → Calls Tryd.prog 17 #[.int .i64 x] w fun e w' => e = .returned (.string X) ∧ w = w')
    (Ha : ∀ w, Calls Tryd.prog 18 #[.int .i64 x] w fun e w' => e = .returned (.string X) ∧ w = w')
    (Hb : ∀ w, WTab w → Calls Tryd.prog 19 #[.string s] w fun e w' => e = .returned (.int .i64 F) ∧ w = w')
    (Hc : ∀ w, Calls Tryd.prog 20 #[.string s] w fun e w' => e = .returned (.int .i64 F) ∧ w = w')
    (W : World) (ht : WTab W) :
    Calls Tryd.prog 3 #[.int .i64 n, .int .i64 x, .int .i64 c, .string s] W fun e w' => e = .returned (.bool true) ∧ Below W.heap.size W w' := by
  have S0 := Lib.hid (And.intro ht (Below.refl W.heap.size W))
  clear ht
  go_enter Tryd.func3, Tryd.ntmps3
  go_wp2_with fail
  refine (wawake_any _ S0.out.1).mono ?_
  rintro e w1 ⟨rfl, hb1⟩
  have S1 := Lib.hid (And.intro (S0.out.1.on hb1) (below_on S0.out.2 hb1))
  clear hb1
  go_wp2_with fail
  refine (H1 _).mono ?_
  rintro e w2 ⟨rfl, hb2⟩
  have S2 := Lib.hid (And.intro (S1.out.1.on hb2) (below_on S1.out.2 hb2))
  clear hb2
  go_wp2_with fail
  refine (H2 _).mono ?_
  rintro e wq ⟨rfl, rfl⟩
  go_wp2_with fail
  refine (H3 _).mono ?_
  rintro e w3 ⟨rfl, hb3⟩
  have S3 := Lib.hid (And.intro (S2.out.1.on hb3) (below_on S2.out.2 hb3))
  clear hb3
  go_wp2_with fail
  refine (H4 _).mono ?_
  rintro e wq ⟨rfl, rfl⟩
  go_wp2_with fail
  refine (H5 _).mono ?_
  rintro e w4 ⟨rfl, hb4⟩
  have S4 := Lib.hid (And.intro (S3.out.1.on hb4) (below_on S3.out.2 hb4))
  clear hb4
  go_wp2_with fail
  refine (H6 _).mono ?_
  rintro e wq ⟨rfl, rfl⟩
  go_wp2_with fail
  refine (H7 _).mono ?_
  rintro e w5 ⟨rfl, hb5⟩
  have S5 := Lib.hid (And.intro (S4.out.1.on hb5) (below_on S4.out.2 hb5))
  clear hb5
  go_wp2_with fail
  refine (H8 _).mono ?_
  rintro e wq ⟨rfl, rfl⟩
  go_wp2_with fail
  refine (H9 _ S5.out.1).mono ?_
  rintro e wq ⟨rfl, rfl⟩
  go_wp2_with fail
  refine (Ha _).mono ?_
  rintro e wq ⟨rfl, rfl⟩
  go_wp2_with fail
  refine (Hb _ S5.out.1).mono ?_
  rintro e wq ⟨rfl, rfl⟩
  go_wp2_with fail
  refine (Hc _).mono ?_
  rintro e wq ⟨rfl, rfl⟩
  go_wp2_with fail
  go_ret
  exact ⟨rfl, S5.out.2⟩
theorem walk (n x c : Int) (s : ByteArray) (w0 : (Lit.int .i64 n).wf = true) (w1 : (Lit.int .i64 x).wf = true) (w2 : (Lit.int .i64 c).wf = true) (w3 : s.size ≤ maxLen) (W : World) (ht : WTab W) :
    Calls Tryd.prog 3 #[.int .i64 n, .int .i64 x, .int .i64 c, .string s] W fun e w' => e = .returned (.bool true) ∧ Below W.heap.size W w' := by
  have hn : inR n = true := inR_iff.2 (bounds_i64 w0)
  by_cases hs : 1000 < (s.size : Int)
  · exact walk_long n x c s hs W ht
  · exact walk_all n x c _ _ _ _ _ _ _ _ s (by omega) (fun w => aft_any n x w) (fun w => raft_any n x w) (fun w => bef_any n x w) (fun w => rbef_any n x w) (fun w => nth_any n x c w) (fun w => rnth_any n x c w)
      (fun w => of_any n w hn) (fun w => rof_any n w hn) (fun w ht => name_any x w ht) (fun w => rname_any x w) (fun w ht => find_any s w ht) (fun w => rfind_any s w) W ht

/-! ### the row's step -/
set_option maxRecDepth 100000 in
theorem lifted (os : Os) (started : os.Started) (H : Type) (enc : TypeId × Value → H) :
    ReturnsInHanded {} Tryd.checked os 3 .any (fun w args => (Rows.weekdayMatchesReferenceSpec.pre enc Tryd.prog Tryd.f3 [] false w args ∧ laidMetH Tryd.prog laidL w) ∧ sizedMet enc Tryd.prog Tryd.f3 (OpenSpec.ofChange Rows.weekdayMatchesReferenceSpec) false w args)
      (Rows.weekdayMatchesReferenceSpec.post enc Tryd.prog Tryd.f3 false true false false) := by
  refine returnsInHanded_of_change_and (C := Tryd.checked) (X := fun w _ => laidMetH Tryd.prog laidL w) (fun _ _ _ hh h => h.of_heap hh) own started (by kernel_rfl) Tryd.func3
    (ChangeSpec.witness_shaped (enc := enc) (C := Tryd.checked) (os := os) (X := fun w _ => laidMetH Tryd.prog laidL w) false (World.doorLaid Tryd.prog 400 os) #[.int .i64 0, .int .i64 0, .int .i64 0, .string ByteArray.empty] 8 rfl (World.shaped_of_RefB (by kernel_rfl) (by kernel_rfl)) (by kernel_rfl) (by kernel_rfl) (by kernel_rfl) (door_met os _)) ?_
  intro W base args ds gs before hval0 hW _ _ hL _
  have hval : ∀ (j : Nat) t v, Tryd.f3.params[j]? = some t → args[j]? = some v → Value.okWide Tryd.prog W .any base t v := hval0
  have hW' := hW
  obtain ⟨p, q, hA0, hV, rfl, hfz, hnd⟩ := hW
  have hA : DataW.TrodAll enc Tryd.prog W 0 (fun _ => true) true Tryd.f3.params.toList args.toList ds p := hA0
  rw [Tryd.params3] at hA hval
  obtain ⟨v0, vs0, d0, ds0, p0, q0, hargs, rfl, rfl, h0, r0⟩ := trodAll_cons hA
  obtain ⟨v1, vs1, d1, ds1, p1, q1, rfl, rfl, rfl, h1, r1⟩ := trodAll_cons r0
  obtain ⟨v2, vs2, d2, ds2, p2, q2, rfl, rfl, rfl, h2, r2⟩ := trodAll_cons r1
  obtain ⟨v3, vs3, d3, ds3, p3, q3, rfl, rfl, rfl, h3, r3⟩ := trodAll_cons r2
  obtain ⟨rfl, rfl, rfl⟩ := trodAll_nil r3
  obtain rfl : args = #[v0, v1, v2, v3] := by cases args; simp_all
  obtain ⟨rfl, rfl⟩ := trodVars_none hV
  obtain ⟨a0, rfl, rfl, rfl, w0⟩ := open_int Tryd.underlying3 (hval 0 3 v0 rfl rfl) h0
  obtain ⟨a1, rfl, rfl, rfl, w1⟩ := open_int Tryd.underlying3 (hval 1 3 v1 rfl rfl) h1
  obtain ⟨a2, rfl, rfl, rfl, w2⟩ := open_int Tryd.underlying3 (hval 2 3 v2 rfl rfl) h2
  obtain ⟨a3, rfl, rfl, rfl, w3⟩ := open_string Tryd.underlying9 (hval 3 9 v3 rfl rfl) h3
  clear hA0 hval0
  simp only [List.append_nil] at hW'
  refine (walk a0 a1 a2 a3 w0 w1 w2 w3 W (laid_facts hL)).mono fun e W' ⟨he, bel⟩ => ?_
  subst he
  exact ⟨_, rfl, _, _, _, [], _, [], hW', trodAll_mk1 (shut_bool Tryd.underlying4 _), (trodAll_cons_mk (shut_int Tryd.underlying3 w0) (trodAll_cons_mk (shut_int Tryd.underlying3 w1) (trodAll_cons_mk (shut_int Tryd.underlying3 w2) (trodAll_cons_mk (shut_string Tryd.underlying9 w3) trodAll_mk0)))), rfl, bel.frame _, fun h => by cases h⟩

theorem over : Rows.weekdayMatchesReferenceRow.holds Tryd.pinned (OpenSpec.ofChange Rows.weekdayMatchesReferenceSpec) :=
  OpenClaim.holds_of_wide 3 Tryd.f3 rfl rfl rfl rfl rfl rfl rfl ⟨rfl, rfl, rfl, rfl, rfl⟩ rfl rfl rfl rfl rfl (by kernel_rfl) Tryd.func3 (by kernel_rfl)
    (of_decide_eq_true (by kernel_rfl)) (by unfold Func.isWrapper; first | (rw [if_pos (by decide +kernel)]; kernel_rfl) | (rw [if_neg (by decide +kernel)]; exact ⟨rfl, rfl⟩))
    (fun os started H enc _ => lifted os started H enc)

/-- The statement: the tied card. -/
theorem proved : Rows.WeekdayMatchesReferenceCardSaid :=
  Claim7.holds_tied_plain_at .later [] [.data] true (true, "cf2f788374238d4a1d1cfc0760a351a645c0ad2efe73362c2e1334ead92a925a") false
    over (fun _ h => by cases h) (by kernel_rfl) (fun _ h => by cases h) weekdayMatchesReference_row_tie rfl ⟨rfl, rfl⟩ (by kernel_rfl) rfl
    (fun f fn hf hfn => by
      obtain rfl : f = 3 := Option.some.inj ((show Tryd.prog.funcNamed "computus/computuslaw04.WeekdayMatchesReference" = some 3 by kernel_rfl).symm.trans hf) |>.symm
      obtain rfl : fn = Tryd.f3 := (Option.some.inj (Tryd.func3.symm.trans hfn)).symm
      exact ⟨by kernel_rfl, fun j t ht => by
        rw [Tryd.params3] at ht
        have hm : t ∈ [3, 3, 3, 9] := by simpa using Array.mem_of_getElem? ht
        have hall : ([3, 3, 3, 9].all fun u => !Tryd.prog.wantsStandIn u) = true := by kernel_rfl
        exact (show Tryd.prog.wantsStandIn t = false by simpa using List.all_eq_true.1 hall t hm)⟩)
    (by kernel_rfl)
#print axioms proved
end Go.Proofs.YtbnhbejmlfjnhaaDoor.weekdayMatchesReference
