/- Proved: for every byte calendar and all 64-bit integers year, month and day, the law CyclePeriods of package computuslaw14 (Easter recurs on the same month and day after 532 years in the Julian, and after 5,700,000 years in the Gregorian calendar) returns true, and what was in memory is as it was. No condition. -/
import Derived.Test.YtnaglaecoephnaaKi
import Derived.Test.YtnaglaecoephnaaVy
import Derived.WalkKit
import Derived.ProofKit
import Derived.OpenShut
import Derived.ShutString
import Derived.Lib.SmallJoins
namespace Go.Proofs.Ytnaglaecoephnaa.cyclePeriods
open Go.ChangeShapes Go.WideShapes Go.ChangeAt Go.RowKit Go.Joins
open Go.ChangeMaps (open_string shut_string)
set_option linter.unusedVariables false      -- a walk need not use every fact

set_option maxRecDepth 100000 in
set_option maxHeartbeats 1000000 in
theorem walk_a1 (u y m d : Int)
    (hu : 0 ≤ u) (hu2 : u ≤ 255) (hk : u % 2 = 0)
    (HI : ∀ w, Calls Try.prog 9 #[.int .i64 y] w fun e w' => e = .returned (.bool false) ∧ w = w')
    (W : World) :
    Calls Try.prog 5 #[.int .u8 u, .int .i64 y, .int .i64 m, .int .i64 d] W fun e w' => e = .returned (.bool true) ∧ Below W.heap.size W w' := by
  have S0 := Lib.hid (Bst.start W)
  go_enter Try.func5, Try.ntmps5
  go_wp2_with fail
  refine (kper1 _).mono ?_
  rintro e wq ⟨rfl, rfl⟩
  go_wp2_with fail
  refine (c14awake_any _).mono ?_
  rintro e w1 ⟨rfl, hb1⟩
  have S1 := Lib.hid (S0.out.on hb1)
  clear hb1
  go_wp2_with fail
  refine (HI _).mono ?_
  rintro e wq ⟨rfl, rfl⟩
  go_wp2_with fail
  refine (c14awake_any _).mono ?_
  rintro e w2 ⟨rfl, hb2⟩
  have S2 := Lib.hid (S1.out.on hb2)
  clear hb2
  go_wp2_with fail
  go_ret
  exact ⟨rfl, S2.out.b⟩
set_option maxRecDepth 100000 in
set_option maxHeartbeats 1000000 in
theorem walk_b1 (u y m d : Int)
    (hu : 0 ≤ u) (hu2 : u ≤ 255) (hk : u % 2 = 0)
    (HI : ∀ w, Calls Try.prog 9 #[.int .i64 y] w fun e w' => e = .returned (.bool true) ∧ w = w')
    (hy : 990000000 < y)
    (W : World) :
    Calls Try.prog 5 #[.int .u8 u, .int .i64 y, .int .i64 m, .int .i64 d] W fun e w' => e = .returned (.bool true) ∧ Below W.heap.size W w' := by
  have S0 := Lib.hid (Bst.start W)
  go_enter Try.func5, Try.ntmps5
  go_wp2_with fail
  refine (kper1 _).mono ?_
  rintro e wq ⟨rfl, rfl⟩
  go_wp2_with fail
  refine (c14awake_any _).mono ?_
  rintro e w1 ⟨rfl, hb1⟩
  have S1 := Lib.hid (S0.out.on hb1)
  clear hb1
  go_wp2_with fail
  refine (HI _).mono ?_
  rintro e wq ⟨rfl, rfl⟩
  go_wp2_with fail
  refine (c14awake_any _).mono ?_
  rintro e w2 ⟨rfl, hb2⟩
  have S2 := Lib.hid (S1.out.on hb2)
  clear hb2
  go_wp2_with fail
  go_ret
  exact ⟨rfl, S2.out.b⟩
set_option maxRecDepth 100000 in
set_option maxHeartbeats 1000000 in
theorem walk_ok1 (u y m d p q : Int)
    (hu : 0 ≤ u) (hu2 : u ≤ 255) (hk : u % 2 = 0)
    (HI : ∀ w, Calls Try.prog 9 #[.int .i64 y] w fun e w' => e = .returned (.bool true) ∧ w = w')
    (y1 : 1 ≤ y) (hy : y ≤ 990000000) (n : Nat) (hn : n ≤ 10000)
    (H1 : ∀ w, Calls Try.prog 10 #[.int .i64 1, .int .i64 y, .int .i64 y, .int .i64 m, .int .i64 d] w (RetL n 0 w))
    (H2 : ∀ w, Calls Try.prog 10 #[.int .i64 1, .int .i64 (y + 532), .int .i64 (y + 532), .int .i64 m, .int .i64 d] w (RetL n 0 w))
    (H3 : ∀ w, Calls Try.prog 21 #[.int .i64 1, .int .i64 y] w fun e w' => e = .returned (dtv y p q) ∧ Below w.heap.size w w')
    (H4 : ∀ w, Calls Try.prog 21 #[.int .i64 1, .int .i64 (y + 532)] w fun e w' => e = .returned (dtv (y + 532) p q) ∧ Below w.heap.size w w')
    (W : World) :
    Calls Try.prog 5 #[.int .u8 u, .int .i64 y, .int .i64 m, .int .i64 d] W fun e w' => e = .returned (.bool true) ∧ Below W.heap.size W w' := by
  have S0 := Lib.hid (Bst.start W)
  go_enter Try.func5, Try.ntmps5
  go_wp2_with fail
  refine (kper1 _).mono ?_
  rintro e wq ⟨rfl, rfl⟩
  go_wp2_with fail
  refine (c14awake_any _).mono ?_
  rintro e w1 ⟨rfl, hb1⟩
  have S1 := Lib.hid (S0.out.on hb1)
  clear hb1
  go_wp2_with fail
  refine (HI _).mono ?_
  rintro e wq ⟨rfl, rfl⟩
  go_wp2_with fail
  refine (H1 _).mono ?_
  rintro e w2 ⟨ba2, ca2, rfl, hb2⟩
  have S2 := Lib.hid (S1.out.on hb2)
  clear hb2
  go_wp2_with fail
  refine (H2 _).mono ?_
  rintro e w3 ⟨ba3, ca3, rfl, hb3⟩
  have S3 := Lib.hid (S2.out.on hb3)
  clear hb3
  go_wp2_with fail
  refine (H3 _).mono ?_
  rintro e w4 ⟨rfl, hb4⟩
  have S4 := Lib.hid (S3.out.on hb4)
  clear hb4
  go_wp2_with fail
  refine (H4 _).mono ?_
  rintro e w5 ⟨rfl, hb5⟩
  have S5 := Lib.hid ((S4.out.al _).on hb5)
  have RX5 := Lib.hid (row_on (heap_alloc_new _ _) hb5)
  obtain ⟨cX0, cX1, cX2, gX0, gX1, gX2, zX⟩ := row3 RX5.out
  clear hb5
  have nXZ := Nat.ne_of_lt zX
  have nZX := (Nat.ne_of_lt zX).symm
  go_wp2_with fail
  go_ret
  exact ⟨rfl, (S5.out.al _).b⟩
set_option maxRecDepth 100000 in
set_option maxHeartbeats 1000000 in
theorem walk_a2 (u y m d : Int)
    (hu : 0 ≤ u) (hu2 : u ≤ 255) (hk : u % 2 = 1)
    (HI : ∀ w, Calls Try.prog 20 #[.int .i64 y] w fun e w' => e = .returned (.bool false) ∧ w = w')
    (W : World) :
    Calls Try.prog 5 #[.int .u8 u, .int .i64 y, .int .i64 m, .int .i64 d] W fun e w' => e = .returned (.bool true) ∧ Below W.heap.size W w' := by
  have S0 := Lib.hid (Bst.start W)
  go_enter Try.func5, Try.ntmps5
  go_wp2_with fail
  refine (kper2 _).mono ?_
  rintro e wq ⟨rfl, rfl⟩
  go_wp2_with fail
  refine (c14awake_any _).mono ?_
  rintro e w1 ⟨rfl, hb1⟩
  have S1 := Lib.hid (S0.out.on hb1)
  clear hb1
  go_wp2_with fail
  refine (HI _).mono ?_
  rintro e wq ⟨rfl, rfl⟩
  go_wp2_with fail
  refine (c14awake_any _).mono ?_
  rintro e w2 ⟨rfl, hb2⟩
  have S2 := Lib.hid (S1.out.on hb2)
  clear hb2
  go_wp2_with fail
  go_ret
  exact ⟨rfl, S2.out.b⟩
set_option maxRecDepth 100000 in
set_option maxHeartbeats 1000000 in
theorem walk_b2 (u y m d : Int)
    (hu : 0 ≤ u) (hu2 : u ≤ 255) (hk : u % 2 = 1)
    (HI : ∀ w, Calls Try.prog 20 #[.int .i64 y] w fun e w' => e = .returned (.bool true) ∧ w = w')
    (hy : 990000000 < y)
    (W : World) :
    Calls Try.prog 5 #[.int .u8 u, .int .i64 y, .int .i64 m, .int .i64 d] W fun e w' => e = .returned (.bool true) ∧ Below W.heap.size W w' := by
  have S0 := Lib.hid (Bst.start W)
  go_enter Try.func5, Try.ntmps5
  go_wp2_with fail
  refine (kper2 _).mono ?_
  rintro e wq ⟨rfl, rfl⟩
  go_wp2_with fail
  refine (c14awake_any _).mono ?_
  rintro e w1 ⟨rfl, hb1⟩
  have S1 := Lib.hid (S0.out.on hb1)
  clear hb1
  go_wp2_with fail
  refine (HI _).mono ?_
  rintro e wq ⟨rfl, rfl⟩
  go_wp2_with fail
  refine (c14awake_any _).mono ?_
  rintro e w2 ⟨rfl, hb2⟩
  have S2 := Lib.hid (S1.out.on hb2)
  clear hb2
  go_wp2_with fail
  go_ret
  exact ⟨rfl, S2.out.b⟩
set_option maxRecDepth 100000 in
set_option maxHeartbeats 1000000 in
theorem walk_ok2 (u y m d p q : Int)
    (hu : 0 ≤ u) (hu2 : u ≤ 255) (hk : u % 2 = 1)
    (HI : ∀ w, Calls Try.prog 20 #[.int .i64 y] w fun e w' => e = .returned (.bool true) ∧ w = w')
    (y1 : 1 ≤ y) (hy : y ≤ 990000000) (n : Nat) (hn : n ≤ 10000)
    (H1 : ∀ w, Calls Try.prog 10 #[.int .i64 2, .int .i64 y, .int .i64 y, .int .i64 m, .int .i64 d] w (RetL n 0 w))
    (H2 : ∀ w, Calls Try.prog 10 #[.int .i64 2, .int .i64 (y + 5700000), .int .i64 (y + 5700000), .int .i64 m, .int .i64 d] w (RetL n 0 w))
    (H3 : ∀ w, Calls Try.prog 21 #[.int .i64 2, .int .i64 y] w fun e w' => e = .returned (dtv y p q) ∧ Below w.heap.size w w')
    (H4 : ∀ w, Calls Try.prog 21 #[.int .i64 2, .int .i64 (y + 5700000)] w fun e w' => e = .returned (dtv (y + 5700000) p q) ∧ Below w.heap.size w w')
    (W : World) :
    Calls Try.prog 5 #[.int .u8 u, .int .i64 y, .int .i64 m, .int .i64 d] W fun e w' => e = .returned (.bool true) ∧ Below W.heap.size W w' := by
  have S0 := Lib.hid (Bst.start W)
  go_enter Try.func5, Try.ntmps5
  go_wp2_with fail
  refine (kper2 _).mono ?_
  rintro e wq ⟨rfl, rfl⟩
  go_wp2_with fail
  refine (c14awake_any _).mono ?_
  rintro e w1 ⟨rfl, hb1⟩
  have S1 := Lib.hid (S0.out.on hb1)
  clear hb1
  go_wp2_with fail
  refine (HI _).mono ?_
  rintro e wq ⟨rfl, rfl⟩
  go_wp2_with fail
  refine (H1 _).mono ?_
  rintro e w2 ⟨ba2, ca2, rfl, hb2⟩
  have S2 := Lib.hid (S1.out.on hb2)
  clear hb2
  go_wp2_with fail
  refine (H2 _).mono ?_
  rintro e w3 ⟨ba3, ca3, rfl, hb3⟩
  have S3 := Lib.hid (S2.out.on hb3)
  clear hb3
  go_wp2_with fail
  refine (H3 _).mono ?_
  rintro e w4 ⟨rfl, hb4⟩
  have S4 := Lib.hid (S3.out.on hb4)
  clear hb4
  go_wp2_with fail
  refine (H4 _).mono ?_
  rintro e w5 ⟨rfl, hb5⟩
  have S5 := Lib.hid ((S4.out.al _).on hb5)
  have RX5 := Lib.hid (row_on (heap_alloc_new _ _) hb5)
  obtain ⟨cX0, cX1, cX2, gX0, gX1, gX2, zX⟩ := row3 RX5.out
  clear hb5
  have nXZ := Nat.ne_of_lt zX
  have nZX := (Nat.ne_of_lt zX).symm
  go_wp2_with fail
  go_ret
  exact ⟨rfl, (S5.out.al _).b⟩
theorem walk (u y m d : Int) (w0 : (Lit.int .u8 u).wf = true) (w1 : (Lit.int .i64 y).wf = true) (w2 : (Lit.int .i64 m).wf = true) (w3 : (Lit.int .i64 d).wf = true) (W : World) :
    Calls Try.prog 5 #[.int .u8 u, .int .i64 y, .int .i64 m, .int .i64 d] W fun e w' => e = .returned (.bool true) ∧ Below W.heap.size W w' := by
  obtain ⟨hu, hu2⟩ := bounds_u8 w0
  have h01 : u % 2 = 0 ∨ u % 2 = 1 := by omega
  rcases h01 with hk | hk
  · have HI := fun w => rin_any y w
    rcases epE_in1 y with ⟨h0, y1, y2⟩ | ⟨h0, y1⟩
    · have hi : inY y = true := inY_iff.2 ⟨y1, y2⟩
      rw [hi] at HI
      by_cases hy : 990000000 < y
      · exact walk_b1 u y m d hu hu2 hk HI hy W
      · have hl : epE 1 (y + 532) = 0 := by
          rcases epE_in1 (y + 532) with r | r
          · exact r.1
          · omega
        have e := u_per (c := 1) (.inl rfl) y
        rw [show per 1 = 532 from rfl] at e
        have eo := hO_per (c := 1) (.inl rfl) y m d
        rw [show per 1 = 532 from rfl] at eo
        have H3 := fun w => r10date_any 1 y w h0 ⟨⟨trivial, trivial⟩, trivial⟩
        have H4 := fun w => r10date_any 1 (y + 532) w hl ⟨⟨trivial, trivial⟩, trivial⟩
        rw [← u_easter (.inl rfl)] at H3 H4
        rw [e] at H4
        have H1 := fun w => (kyears_ok 1 y y m d w 1 (rgE_of h0 h0 (by omega) (by omega)) (by omega)).mono fun _ _ h => h.len (yrs_one _ _ _ _)
        have H2 := fun w => (kyears_ok 1 (y + 532) (y + 532) m d w 1 (rgE_of hl hl (by omega) (by omega)) (by omega)).mono fun _ _ h => h.len (yrs_one _ _ _ _)
        rw [eo] at H2
        exact walk_ok1 u y m d _ _ hu hu2 hk HI (by omega) (by omega) _ (by split <;> omega) H1 H2 H3 H4 W
    · have hi : inY y = false := by
        rw [← Bool.not_eq_true, inY_iff]; exact y1
      rw [hi] at HI
      exact walk_a1 u y m d hu hu2 hk HI W
  · have HI := fun w => rgre_any y w
    rcases epE_in2 y with ⟨h0, y1, y2⟩ | ⟨h0, y1⟩
    · have hi : inG y = true := inG_iff.2 ⟨y1, y2⟩
      rw [hi] at HI
      by_cases hy : 990000000 < y
      · exact walk_b2 u y m d hu hu2 hk HI hy W
      · have hl : epE 2 (y + 5700000) = 0 := by
          rcases epE_in2 (y + 5700000) with r | r
          · exact r.1
          · omega
        have e := u_per (c := 2) (.inr rfl) y
        rw [show per 2 = 5700000 from rfl] at e
        have eo := hO_per (c := 2) (.inr rfl) y m d
        rw [show per 2 = 5700000 from rfl] at eo
        have H3 := fun w => r10date_any 2 y w h0 ⟨⟨trivial, trivial⟩, trivial⟩
        have H4 := fun w => r10date_any 2 (y + 5700000) w hl ⟨⟨trivial, trivial⟩, trivial⟩
        rw [← u_easter (.inr rfl)] at H3 H4
        rw [e] at H4
        have H1 := fun w => (kyears_ok 2 y y m d w 1 (rgE_of h0 h0 (by omega) (by omega)) (by omega)).mono fun _ _ h => h.len (yrs_one _ _ _ _)
        have H2 := fun w => (kyears_ok 2 (y + 5700000) (y + 5700000) m d w 1 (rgE_of hl hl (by omega) (by omega)) (by omega)).mono fun _ _ h => h.len (yrs_one _ _ _ _)
        rw [eo] at H2
        exact walk_ok2 u y m d _ _ hu hu2 hk HI (by omega) (by omega) _ (by split <;> omega) H1 H2 H3 H4 W
    · have hi : inG y = false := by
        rw [← Bool.not_eq_true, inG_iff]; exact y1
      rw [hi] at HI
      exact walk_a2 u y m d hu hu2 hk HI W

/-! ### the row's step -/
set_option maxRecDepth 100000 in
theorem lifted (os : Os) (started : os.Started) (H : Type) (enc : TypeId × Value → H) :
    ReturnsInHanded {} Try.checked os 5 .any (Rows.cyclePeriodsSpec.pre6 enc Try.prog Try.f5 Rows.cyclePeriodsRow.domain false) (Rows.cyclePeriodsSpec.post enc Try.prog Try.f5 false true false false) := by
  refine returnsInHanded_of_change (C := Try.checked) own started (by kernel_rfl) Try.func5
    (ChangeSpec.witness6 (enc := enc) (C := Try.checked) false ⟨#[], #[.int .u8 0, .int .i64 0, .int .i64 0, .int .i64 0], []⟩ 8 (by kernel_rfl) (by kernel_rfl) (by kernel_rfl) (by kernel_rfl)) ?_
  intro W base args ds gs before hval0 hW hcnd _
  have hval : ∀ (j : Nat) t v, Try.f5.params[j]? = some t → args[j]? = some v → Value.okWide Try.prog W .any base t v := hval0
  have hW' := hW
  obtain ⟨p, q, hA0, hV, rfl, hfz, hnd⟩ := hW
  have hA : DataW.TrodAll enc Try.prog W 0 (fun _ => true) true Try.f5.params.toList args.toList ds p := hA0
  rw [Try.params5] at hA hval
  obtain ⟨v0, vs0, d0, ds0, p0, q0, hargs, rfl, rfl, h0, r0⟩ := trodAll_cons hA
  obtain ⟨v1, vs1, d1, ds1, p1, q1, rfl, rfl, rfl, h1, r1⟩ := trodAll_cons r0
  obtain ⟨v2, vs2, d2, ds2, p2, q2, rfl, rfl, rfl, h2, r2⟩ := trodAll_cons r1
  obtain ⟨v3, vs3, d3, ds3, p3, q3, rfl, rfl, rfl, h3, r3⟩ := trodAll_cons r2
  obtain ⟨rfl, rfl, rfl⟩ := trodAll_nil r3
  obtain rfl : args = #[v0, v1, v2, v3] := by cases args; simp_all
  obtain ⟨rfl, rfl⟩ := trodVars_none hV
  obtain ⟨a0, rfl, rfl, rfl, w0⟩ := open_int Try.underlying5 (hval 0 5 v0 rfl rfl) h0
  obtain ⟨a1, rfl, rfl, rfl, w1⟩ := open_int Try.underlying3 (hval 1 3 v1 rfl rfl) h1
  obtain ⟨a2, rfl, rfl, rfl, w2⟩ := open_int Try.underlying3 (hval 2 3 v2 rfl rfl) h2
  obtain ⟨a3, rfl, rfl, rfl, w3⟩ := open_int Try.underlying3 (hval 3 3 v3 rfl rfl) h3
  clear hA0 hval0
  simp only [List.append_nil] at hW'
  refine (walk a0 a1 a2 a3 w0 w1 w2 w3 W).mono fun e W' ⟨he, bel⟩ => ?_
  subst he
  exact ⟨_, rfl, _, _, _, [], _, [], hW', trodAll_mk1 (shut_bool Try.underlying4 _), (trodAll_cons_mk (shut_int Try.underlying5 w0) (trodAll_cons_mk (shut_int Try.underlying3 w1) (trodAll_cons_mk (shut_int Try.underlying3 w2) (trodAll_cons_mk (shut_int Try.underlying3 w3) trodAll_mk0)))), rfl, bel.frame _, fun h => by cases h⟩

theorem over : Rows.cyclePeriodsRow.holds Try.pinned (OpenSpec.ofChange Rows.cyclePeriodsSpec) :=
  OpenClaim.holds_of_wide 5 Try.f5 rfl rfl rfl rfl rfl rfl rfl ⟨rfl, rfl, rfl, rfl, rfl⟩ rfl rfl rfl rfl rfl (by kernel_rfl) Try.func5 (by kernel_rfl)
    (of_decide_eq_true (by kernel_rfl)) (by unfold Func.isWrapper; first | (rw [if_pos (by decide +kernel)]; kernel_rfl) | (rw [if_neg (by decide +kernel)]; exact ⟨rfl, rfl⟩))
    (fun os started H enc _ => lifted os started H enc)

/-- The statement. -/
theorem proved : Rows.CyclePeriodsSaid :=
  over
#print axioms proved
end Go.Proofs.Ytnaglaecoephnaa.cyclePeriods
