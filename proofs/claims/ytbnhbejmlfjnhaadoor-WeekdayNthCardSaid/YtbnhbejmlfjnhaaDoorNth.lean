/- Proved: for every two 64-bit integers and every 16-bit integer, the law WeekdayNth of package computuslaw04 (counting further by one moves by one week, also backwards) returns true, and what was in memory is as it was. Condition: the table of names of package weekday reads as the program's text lays it (the card ties it). -/
import Derived.Test.YtbnhbejmlfjnhaaDoorWg
import Derived.Test.YtbnhbejmlfjnhaaDoorWy
import Derived.WalkKit
import Derived.ProofKit
import Derived.OpenShut
import Derived.ShutString
import Derived.Lib.SmallJoins
import Derived.LaidMore
import Derived.Stop.Joined
import Derived.SevenTiedAt
import Derived.Test.YtbnhbejmlfjnhaaDoorCards
import Derived.Test.YtbnhbejmlfjnhaaDoorTie
namespace Go.Proofs.YtbnhbejmlfjnhaaDoor.weekdayNth
open Go.ChangeShapes Go.WideShapes Go.ChangeAt Go.RowKit Go.Joins
open Go.ChangeMaps (open_string shut_string)
set_option linter.unusedVariables false      -- a walk need not use every fact

def Bad (n x k : Int) : Prop := x < 0 ∨ (¬ x < 0 ∧ 6 < x) ∨ (¬ x < 0 ∧ ¬ 6 < x ∧ n < -549755813888) ∨ (¬ x < 0 ∧ ¬ 6 < x ∧ ¬ n < -549755813888 ∧ 549755813888 < n) ∨ (¬ x < 0 ∧ ¬ 6 < x ∧ ¬ n < -549755813888 ∧ ¬ 549755813888 < n ∧ k < 1) ∨ (¬ x < 0 ∧ ¬ 6 < x ∧ ¬ n < -549755813888 ∧ ¬ 549755813888 < n ∧ ¬ k < 1 ∧ 999 < k)
theorem walk_out (n x k : Int) (h : Bad n x k) (W : World) (ht : WTab W) :
    Calls Tryd.prog 6 #[.int .i64 n, .int .i64 x, .int .i16 k] W fun e w' => e = .returned (.bool true) ∧ Below W.heap.size W w' := by
  rcases h with h1 | ⟨h1, h2⟩ | ⟨h1, h2, h3⟩ | ⟨h1, h2, h3, h4⟩ | ⟨h1, h2, h3, h4, h5⟩ | ⟨h1, h2, h3, h4, h5, h6⟩
  all_goals
    have S0 := Lib.hid (And.intro ht (Below.refl W.heap.size W))
    clear ht
    go_enter Tryd.func6, Tryd.ntmps6
    go_wp2_with fail
    refine (wawake_any _ S0.out.1).mono ?_
    rintro e w1 ⟨rfl, hb1⟩
    have S1 := Lib.hid (And.intro (S0.out.1.on hb1) (below_on S0.out.2 hb1))
    clear hb1
    go_wp2_with fail
    refine (wawake_any _ S1.out.1).mono ?_
    rintro e w2 ⟨rfl, hb2⟩
    have S2 := Lib.hid (And.intro (S1.out.1.on hb2) (below_on S1.out.2 hb2))
    clear hb2
    go_wp2_with fail
    go_ret
    exact ⟨rfl, S2.out.2⟩
theorem walk_yes (n x k A : Int) (x1 : 0 ≤ x) (x2 : x ≤ 6) (n1 : -549755813888 ≤ n) (n2 : n ≤ 549755813888) (k1 : 1 ≤ k) (k2 : k ≤ 999) (a1 : n ≤ A) (a2 : A ≤ n + 6)
    (H1 : ∀ w, Calls Tryd.prog 13 #[.int .i64 n, .int .i64 x, .int .i64 k] w fun e w' => e = .returned (.tuple #[.int .i64 (A + 7 * (k - 1)), .int .i64 0]) ∧ Below w.heap.size w w')
    (H2 : ∀ w, Calls Tryd.prog 13 #[.int .i64 n, .int .i64 x, .int .i64 (k + 1)] w fun e w' => e = .returned (.tuple #[.int .i64 (A + 7 * k), .int .i64 0]) ∧ Below w.heap.size w w')
    (H3 : ∀ w, Calls Tryd.prog 13 #[.int .i64 n, .int .i64 x, .int .i64 1] w fun e w' => e = .returned (.tuple #[.int .i64 A, .int .i64 0]) ∧ Below w.heap.size w w')
    (H4 : ∀ w, Calls Tryd.prog 13 #[.int .i64 (A - 1), .int .i64 x, .int .i64 (-k)] w fun e w' => e = .returned (.tuple #[.int .i64 (A - 7 * k), .int .i64 0]) ∧ Below w.heap.size w w') (W : World) (ht : WTab W) :
    Calls Tryd.prog 6 #[.int .i64 n, .int .i64 x, .int .i16 k] W fun e w' => e = .returned (.bool true) ∧ Below W.heap.size W w' := by
  have e1 : (A + 7 * k - (A + 7 * (k - 1)) == 7) = true := by rw [beq_iff_eq]; omega
  have S0 := Lib.hid (And.intro ht (Below.refl W.heap.size W))
  clear ht
  go_enter Tryd.func6, Tryd.ntmps6
  go_wp2_with fail
  refine (wawake_any _ S0.out.1).mono ?_
  rintro e w1 ⟨rfl, hb1⟩
  have S1 := Lib.hid (And.intro (S0.out.1.on hb1) (below_on S0.out.2 hb1))
  clear hb1
  go_wp2_with fail
  refine (H1 _).mono ?_
  rintro e w2 ⟨rfl, hb2⟩
  have S2 := Lib.hid (And.intro (S1.out.1.on hb2) (below_on S1.out.2 hb2))
  clear hb2
  go_wp2_with fail
  refine (H2 _).mono ?_
  rintro e w3 ⟨rfl, hb3⟩
  have S3 := Lib.hid (And.intro (S2.out.1.on hb3) (below_on S2.out.2 hb3))
  clear hb3
  go_wp2_with fail
  refine (H3 _).mono ?_
  rintro e w4 ⟨rfl, hb4⟩
  have S4 := Lib.hid (And.intro (S3.out.1.on hb4) (below_on S3.out.2 hb4))
  clear hb4
  go_wp2_with fail
  refine (H4 _).mono ?_
  rintro e w5 ⟨rfl, hb5⟩
  have S5 := Lib.hid (And.intro (S4.out.1.on hb5) (below_on S4.out.2 hb5))
  clear hb5
  go_wp2_with fail
  go_ret
  exact ⟨rfl, S5.out.2⟩
theorem walk (n x k : Int) (w0 : (Lit.int .i64 n).wf = true) (w1 : (Lit.int .i64 x).wf = true) (w2 : (Lit.int .i16 k).wf = true) (W : World) (ht : WTab W) :
    Calls Tryd.prog 6 #[.int .i64 n, .int .i64 x, .int .i16 k] W fun e w' => e = .returned (.bool true) ∧ Below W.heap.size W w' := by
  by_cases h : Bad n x k
  · exact walk_out n x k h W ht
  · have hb : (0 ≤ x ∧ x ≤ 6) ∧ (-549755813888 ≤ n ∧ n ≤ 549755813888) ∧ (1 ≤ k ∧ k ≤ 999) := by
      unfold Bad at h; omega
    obtain ⟨⟨x1, x2⟩, ⟨n1, n2⟩, k1, k2⟩ := hb
    obtain ⟨a1, a2⟩ := aft_bd (n := n) (w := x)
    have ma := aft_mod (n := n) x1 x2
    have ok : ∀ m c, -1099511627776 ≤ m → m ≤ 1099511627776 → ¬ c = 0 → -1000 ≤ c → c ≤ 1000 → nOk m x c = true ∧ nErr m x c = 0 := fun m c g1 g2 g3 g4 g5 => by
      have hc := cOk_iff.2 ⟨g3, g4, g5⟩
      have hw : wOk m x = true := wOk_iff.2 ⟨⟨x1, x2⟩, g1, g2⟩
      exact ⟨by rw [nOk_w hc, hw], by rw [nErr_w hc, wErr_ok hw]⟩
    have H1 := fun w => nth_any n x k w
    have H2 := fun w => nth_any n x (k + 1) w
    have H3 := fun w => nth_any n x 1 w
    have H4 := fun w => nth_any (aft n x - 1) x (-k) w
    rw [(ok n k (by omega) (by omega) (by omega) (by omega) (by omega)).1, (ok n k (by omega) (by omega) (by omega) (by omega) (by omega)).2, ifb_true, nth_pos (by omega)] at H1
    rw [(ok n (k + 1) (by omega) (by omega) (by omega) (by omega) (by omega)).1, (ok n (k + 1) (by omega) (by omega) (by omega) (by omega) (by omega)).2, ifb_true, nth_pos (by omega), show k + 1 - 1 = k by omega] at H2
    rw [(ok n 1 (by omega) (by omega) (by omega) (by omega) (by omega)).1, (ok n 1 (by omega) (by omega) (by omega) (by omega) (by omega)).2, ifb_true, nth_pos (by omega), show aft n x + 7 * (1 - 1) = aft n x by omega] at H3
    rw [(ok (aft n x - 1) (-k) (by omega) (by omega) (by omega) (by omega) (by omega)).1, (ok (aft n x - 1) (-k) (by omega) (by omega) (by omega) (by omega) (by omega)).2, ifb_true, nth_neg (by omega), show bef (aft n x - 1) x + 7 * (-k + 1) = aft n x - 7 * k by unfold bef; omega] at H4
    exact walk_yes n x k (aft n x) x1 x2 n1 n2 k1 k2 a1 a2 H1 H2 H3 H4 W ht

/-! ### the row's step -/
set_option maxRecDepth 100000 in
theorem lifted (os : Os) (started : os.Started) (H : Type) (enc : TypeId × Value → H) :
    ReturnsInHanded {} Tryd.checked os 6 .any (fun w args => (Rows.weekdayNthSpec.pre enc Tryd.prog Tryd.f6 [] false w args ∧ laidMetH Tryd.prog laidL w) ∧ sizedMet enc Tryd.prog Tryd.f6 (OpenSpec.ofChange Rows.weekdayNthSpec) false w args)
      (Rows.weekdayNthSpec.post enc Tryd.prog Tryd.f6 false true false false) := by
  refine returnsInHanded_of_change_and (C := Tryd.checked) (X := fun w _ => laidMetH Tryd.prog laidL w) (fun _ _ _ hh h => h.of_heap hh) own started (by kernel_rfl) Tryd.func6
    (ChangeSpec.witness_shaped (enc := enc) (C := Tryd.checked) (os := os) (X := fun w _ => laidMetH Tryd.prog laidL w) false (World.doorLaid Tryd.prog 400 os) #[.int .i64 0, .int .i64 0, .int .i16 0] 8 rfl (World.shaped_of_RefB (by kernel_rfl) (by kernel_rfl)) (by kernel_rfl) (by kernel_rfl) (by kernel_rfl) (door_met os _)) ?_
  intro W base args ds gs before hval0 hW _ _ hL _
  have hval : ∀ (j : Nat) t v, Tryd.f6.params[j]? = some t → args[j]? = some v → Value.okWide Tryd.prog W .any base t v := hval0
  have hW' := hW
  obtain ⟨p, q, hA0, hV, rfl, hfz, hnd⟩ := hW
  have hA : DataW.TrodAll enc Tryd.prog W 0 (fun _ => true) true Tryd.f6.params.toList args.toList ds p := hA0
  rw [Tryd.params6] at hA hval
  obtain ⟨v0, vs0, d0, ds0, p0, q0, hargs, rfl, rfl, h0, r0⟩ := trodAll_cons hA
  obtain ⟨v1, vs1, d1, ds1, p1, q1, rfl, rfl, rfl, h1, r1⟩ := trodAll_cons r0
  obtain ⟨v2, vs2, d2, ds2, p2, q2, rfl, rfl, rfl, h2, r2⟩ := trodAll_cons r1
  obtain ⟨rfl, rfl, rfl⟩ := trodAll_nil r2
  obtain rfl : args = #[v0, v1, v2] := by cases args; simp_all
  obtain ⟨rfl, rfl⟩ := trodVars_none hV
  obtain ⟨a0, rfl, rfl, rfl, w0⟩ := open_int Tryd.underlying3 (hval 0 3 v0 rfl rfl) h0
  obtain ⟨a1, rfl, rfl, rfl, w1⟩ := open_int Tryd.underlying3 (hval 1 3 v1 rfl rfl) h1
  obtain ⟨a2, rfl, rfl, rfl, w2⟩ := open_int Tryd.underlying36 (hval 2 36 v2 rfl rfl) h2
  clear hA0 hval0
  simp only [List.append_nil] at hW'
  refine (walk a0 a1 a2 w0 w1 w2 W (laid_facts hL)).mono fun e W' ⟨he, bel⟩ => ?_
  subst he
  exact ⟨_, rfl, _, _, _, [], _, [], hW', trodAll_mk1 (shut_bool Tryd.underlying4 _), (trodAll_cons_mk (shut_int Tryd.underlying3 w0) (trodAll_cons_mk (shut_int Tryd.underlying3 w1) (trodAll_cons_mk (shut_int Tryd.underlying36 w2) trodAll_mk0))), rfl, bel.frame _, fun h => by cases h⟩

theorem over : Rows.weekdayNthRow.holds Tryd.pinned (OpenSpec.ofChange Rows.weekdayNthSpec) :=
  OpenClaim.holds_of_wide 6 Tryd.f6 rfl rfl rfl rfl rfl rfl rfl ⟨rfl, rfl, rfl, rfl, rfl⟩ rfl rfl rfl rfl rfl (by kernel_rfl) Tryd.func6 (by kernel_rfl)
    (of_decide_eq_true (by kernel_rfl)) (by unfold Func.isWrapper; first | (rw [if_pos (by decide +kernel)]; kernel_rfl) | (rw [if_neg (by decide +kernel)]; exact ⟨rfl, rfl⟩))
    (fun os started H enc _ => lifted os started H enc)

/-- The statement: the tied card. -/
theorem proved : Rows.WeekdayNthCardSaid :=
  Claim7.holds_tied_plain_at .later [] [.data] true (true, "cf2f788374238d4a1d1cfc0760a351a645c0ad2efe73362c2e1334ead92a925a") false
    over (fun _ h => by cases h) (by kernel_rfl) (fun _ h => by cases h) weekdayNth_row_tie rfl ⟨rfl, rfl⟩ (by kernel_rfl) rfl
    (fun f fn hf hfn => by
      obtain rfl : f = 6 := Option.some.inj ((show Tryd.prog.funcNamed "computus/computuslaw04.WeekdayNth" = some 6 by kernel_rfl).symm.trans hf) |>.symm
      obtain rfl : fn = Tryd.f6 := (Option.some.inj (Tryd.func6.symm.trans hfn)).symm
      exact ⟨by kernel_rfl, fun j t ht => by
        rw [Tryd.params6] at ht
        have hm : t ∈ [3, 3, 36] := by simpa using Array.mem_of_getElem? ht
        have hall : ([3, 3, 36].all fun u => !Tryd.prog.wantsStandIn u) = true := by kernel_rfl
        exact (show Tryd.prog.wantsStandIn t = false by simpa using List.all_eq_true.1 hall t hm)⟩)
    (by kernel_rfl)
#print axioms proved
end Go.Proofs.YtbnhbejmlfjnhaaDoor.weekdayNth
