/- Proved: for every byte calendar and all 64-bit integers year and other, the law GaussConstants of package computuslaw11 (M and N are the same for all years of a century, and constant in the Julian calendar) returns true, and what was in memory is as it was. No condition. -/
import Derived.Test.YtoiiajmdfkgcbaaUe
import Derived.Test.YtoiiajmdfkgcbaaVy
import Derived.WalkKit
import Derived.ProofKit
import Derived.OpenShut
import Derived.ShutString
import Derived.Lib.SmallJoins
namespace Go.Proofs.Ytoiiajmdfkgcbaa.gaussConstants
open Go.ChangeShapes Go.WideShapes Go.ChangeAt Go.RowKit Go.Joins
open Go.ChangeMaps (open_string shut_string)
set_option linter.unusedVariables false      -- a walk need not use every fact

theorem walk_a (u y o k : Int)
    (hu : 0 ≤ u) (hu2 : u ≤ 255)
    (HA : ∀ w, Calls Try.prog 9 #[.int .i64 (1 + u % 2), .int .i64 y] w fun e w' => e = .returned (.int .i64 k) ∧ w = w')
    (hk : (k != 0) = true)
    (W : World) :
    Calls Try.prog 5 #[.int .u8 u, .int .i64 y, .int .i64 o] W fun e w' => e = .returned (.bool true) ∧ Below W.heap.size W w' := by
  have S0 := Lib.hid (Bst.start W)
  go_enter Try.func5, Try.ntmps5
  go_wp2_with fail
  refine (c11awake_any _).mono ?_
  rintro e w1 ⟨rfl, hb1⟩
  have S1 := Lib.hid (S0.out.on hb1)
  clear hb1
  go_wp2_with fail
  refine (HA _).mono ?_
  rintro e wq ⟨rfl, rfl⟩
  go_wp2_with fail
  refine (c11awake_any _).mono ?_
  rintro e w2 ⟨rfl, hb2⟩
  have S2 := Lib.hid (S1.out.on hb2)
  clear hb2
  go_wp2_with fail
  go_ret
  exact ⟨rfl, S2.out.b⟩
theorem walk_b (u y o k : Int)
    (hu : 0 ≤ u) (hu2 : u ≤ 255)
    (HA : ∀ w, Calls Try.prog 9 #[.int .i64 (1 + u % 2), .int .i64 y] w fun e w' => e = .returned (.int .i64 0) ∧ w = w')
    (HB : ∀ w, Calls Try.prog 9 #[.int .i64 (1 + u % 2), .int .i64 o] w fun e w' => e = .returned (.int .i64 k) ∧ w = w')
    (hk : (k != 0) = true)
    (W : World) :
    Calls Try.prog 5 #[.int .u8 u, .int .i64 y, .int .i64 o] W fun e w' => e = .returned (.bool true) ∧ Below W.heap.size W w' := by
  have S0 := Lib.hid (Bst.start W)
  go_enter Try.func5, Try.ntmps5
  go_wp2_with fail
  refine (c11awake_any _).mono ?_
  rintro e w1 ⟨rfl, hb1⟩
  have S1 := Lib.hid (S0.out.on hb1)
  clear hb1
  go_wp2_with fail
  refine (HA _).mono ?_
  rintro e wq ⟨rfl, rfl⟩
  go_wp2_with fail
  refine (HB _).mono ?_
  rintro e wq ⟨rfl, rfl⟩
  go_wp2_with fail
  refine (c11awake_any _).mono ?_
  rintro e w2 ⟨rfl, hb2⟩
  have S2 := Lib.hid (S1.out.on hb2)
  clear hb2
  go_wp2_with fail
  go_ret
  exact ⟨rfl, S2.out.b⟩
set_option maxRecDepth 100000 in
set_option maxHeartbeats 1000000 in
theorem walk_1 (u y o d e9 x m2 n2 d2 e2 x2 : Int)
    (hu : 0 ≤ u) (hu2 : u ≤ 255)
    (h1 : u % 2 = 0)
    (HA : ∀ w, Calls Try.prog 9 #[.int .i64 (1 + u % 2), .int .i64 y] w fun e w' => e = .returned (.int .i64 0) ∧ w = w')
    (HB : ∀ w, Calls Try.prog 9 #[.int .i64 (1 + u % 2), .int .i64 o] w fun e w' => e = .returned (.int .i64 0) ∧ w = w')
    (H1 : ∀ w, Calls Try.prog 7 #[.int .i64 (1 + u % 2), .int .i64 y] w fun e w' => e = .returned (stv 15 6 d e9 x 0) ∧ Below w.heap.size w w')
    (H2 : ∀ w, Calls Try.prog 7 #[.int .i64 (1 + u % 2), .int .i64 o] w fun e w' => e = .returned (stv m2 n2 d2 e2 x2 0) ∧ Below w.heap.size w w')
    (y1 : 1 ≤ y) (y2 : y ≤ 1000000000) (o1 : 1 ≤ o) (o2 : o ≤ 1000000000)
    (W : World) :
    Calls Try.prog 5 #[.int .u8 u, .int .i64 y, .int .i64 o] W fun e w' => e = .returned (.bool true) ∧ Below W.heap.size W w' := by
  have hk : ((1 + u % 2) == 1) = true := beq_iff_eq.2 (by omega)
  clear h1
  have S0 := Lib.hid (Bst.start W)
  go_enter Try.func5, Try.ntmps5
  go_wp2_with fail
  refine (c11awake_any _).mono ?_
  rintro e w1 ⟨rfl, hb1⟩
  have S1 := Lib.hid (S0.out.on hb1)
  clear hb1
  go_wp2_with fail
  refine (HA _).mono ?_
  rintro e wq ⟨rfl, rfl⟩
  go_wp2_with fail
  refine (HB _).mono ?_
  rintro e wq ⟨rfl, rfl⟩
  go_wp2_with fail
  refine (H1 _).mono ?_
  rintro e w2 ⟨rfl, hb2⟩
  have S2 := Lib.hid (S1.out.on hb2)
  clear hb2
  go_wp2_with fail
  refine (H2 _).mono ?_
  rintro e w3 ⟨rfl, hb3⟩
  have S3 := Lib.hid ((S2.out.al _).on hb3)
  have RS3 := Lib.hid (row_on (heap_alloc_new _ _) hb3)
  obtain ⟨cS0, cS1, cS2, cS3, cS4, gS0, gS1, gS2, gS3, gS4, zS⟩ := row5 RS3.out
  clear hb3
  go_wp2_with fail
  go_ret
  exact ⟨rfl, (S3.out.al _).b⟩
set_option maxRecDepth 100000 in
set_option maxHeartbeats 1000000 in
theorem walk_2 (u y o m n d e9 x m2 n2 d2 e2 x2 : Int)
    (hu : 0 ≤ u) (hu2 : u ≤ 255)
    (h1 : u % 2 = 1) (hq : (y / 100 != o / 100) = true)
    (HA : ∀ w, Calls Try.prog 9 #[.int .i64 (1 + u % 2), .int .i64 y] w fun e w' => e = .returned (.int .i64 0) ∧ w = w')
    (HB : ∀ w, Calls Try.prog 9 #[.int .i64 (1 + u % 2), .int .i64 o] w fun e w' => e = .returned (.int .i64 0) ∧ w = w')
    (H1 : ∀ w, Calls Try.prog 7 #[.int .i64 (1 + u % 2), .int .i64 y] w fun e w' => e = .returned (stv m n d e9 x 0) ∧ Below w.heap.size w w')
    (H2 : ∀ w, Calls Try.prog 7 #[.int .i64 (1 + u % 2), .int .i64 o] w fun e w' => e = .returned (stv m2 n2 d2 e2 x2 0) ∧ Below w.heap.size w w')
    (y1 : 1 ≤ y) (y2 : y ≤ 1000000000) (o1 : 1 ≤ o) (o2 : o ≤ 1000000000)
    (m1 : 0 ≤ m) (m3 : m ≤ 29) (n1 : 0 ≤ n) (n3 : n ≤ 6)
    (W : World) :
    Calls Try.prog 5 #[.int .u8 u, .int .i64 y, .int .i64 o] W fun e w' => e = .returned (.bool true) ∧ Below W.heap.size W w' := by
  have hk : ((1 + u % 2) == 1) = false := beq_eq_false_iff_ne.2 (by omega)
  clear h1
  have S0 := Lib.hid (Bst.start W)
  go_enter Try.func5, Try.ntmps5
  go_wp2_with fail
  refine (c11awake_any _).mono ?_
  rintro e w1 ⟨rfl, hb1⟩
  have S1 := Lib.hid (S0.out.on hb1)
  clear hb1
  go_wp2_with fail
  refine (HA _).mono ?_
  rintro e wq ⟨rfl, rfl⟩
  go_wp2_with fail
  refine (HB _).mono ?_
  rintro e wq ⟨rfl, rfl⟩
  go_wp2_with fail
  refine (H1 _).mono ?_
  rintro e w2 ⟨rfl, hb2⟩
  have S2 := Lib.hid (S1.out.on hb2)
  clear hb2
  go_wp2_with fail
  refine (H2 _).mono ?_
  rintro e w3 ⟨rfl, hb3⟩
  have S3 := Lib.hid ((S2.out.al _).on hb3)
  have RS3 := Lib.hid (row_on (heap_alloc_new _ _) hb3)
  obtain ⟨cS0, cS1, cS2, cS3, cS4, gS0, gS1, gS2, gS3, gS4, zS⟩ := row5 RS3.out
  clear hb3
  go_wp2_with fail
  go_ret
  exact ⟨rfl, (S3.out.al _).b⟩
set_option maxRecDepth 100000 in
set_option maxHeartbeats 1000000 in
theorem walk_3 (u y o m n d e9 x d2 e2 x2 : Int)
    (hu : 0 ≤ u) (hu2 : u ≤ 255)
    (h1 : u % 2 = 1) (hq : (y / 100 != o / 100) = false)
    (HA : ∀ w, Calls Try.prog 9 #[.int .i64 (1 + u % 2), .int .i64 y] w fun e w' => e = .returned (.int .i64 0) ∧ w = w')
    (HB : ∀ w, Calls Try.prog 9 #[.int .i64 (1 + u % 2), .int .i64 o] w fun e w' => e = .returned (.int .i64 0) ∧ w = w')
    (H1 : ∀ w, Calls Try.prog 7 #[.int .i64 (1 + u % 2), .int .i64 y] w fun e w' => e = .returned (stv m n d e9 x 0) ∧ Below w.heap.size w w')
    (H2 : ∀ w, Calls Try.prog 7 #[.int .i64 (1 + u % 2), .int .i64 o] w fun e w' => e = .returned (stv m n d2 e2 x2 0) ∧ Below w.heap.size w w')
    (y1 : 1 ≤ y) (y2 : y ≤ 1000000000) (o1 : 1 ≤ o) (o2 : o ≤ 1000000000)
    (m1 : 0 ≤ m) (m3 : m ≤ 29) (n1 : 0 ≤ n) (n3 : n ≤ 6)
    (W : World) :
    Calls Try.prog 5 #[.int .u8 u, .int .i64 y, .int .i64 o] W fun e w' => e = .returned (.bool true) ∧ Below W.heap.size W w' := by
  have hk : ((1 + u % 2) == 1) = false := beq_eq_false_iff_ne.2 (by omega)
  clear h1
  have S0 := Lib.hid (Bst.start W)
  go_enter Try.func5, Try.ntmps5
  go_wp2_with fail
  refine (c11awake_any _).mono ?_
  rintro e w1 ⟨rfl, hb1⟩
  have S1 := Lib.hid (S0.out.on hb1)
  clear hb1
  go_wp2_with fail
  refine (HA _).mono ?_
  rintro e wq ⟨rfl, rfl⟩
  go_wp2_with fail
  refine (HB _).mono ?_
  rintro e wq ⟨rfl, rfl⟩
  go_wp2_with fail
  refine (H1 _).mono ?_
  rintro e w2 ⟨rfl, hb2⟩
  have S2 := Lib.hid (S1.out.on hb2)
  clear hb2
  go_wp2_with fail
  refine (H2 _).mono ?_
  rintro e w3 ⟨rfl, hb3⟩
  have S3 := Lib.hid ((S2.out.al _).on hb3)
  have RS3 := Lib.hid (row_on (heap_alloc_new _ _) hb3)
  obtain ⟨cS0, cS1, cS2, cS3, cS4, gS0, gS1, gS2, gS3, gS4, zS⟩ := row5 RS3.out
  clear hb3
  go_wp2_with fail
  go_ret
  exact ⟨rfl, (S3.out.al _).b⟩
theorem walk (u y o : Int) (w0 : (Lit.int .u8 u).wf = true) (w1 : (Lit.int .i64 y).wf = true) (w2 : (Lit.int .i64 o).wf = true) (W : World) :
    Calls Try.prog 5 #[.int .u8 u, .int .i64 y, .int .i64 o] W fun e w' => e = .returned (.bool true) ∧ Below W.heap.size W w' := by
  obtain ⟨hu, hu2⟩ := bounds_u8 w0
  have HA := fun w => rfail_any (1 + u % 2) y w
  by_cases h : epE (1 + u % 2) y = 0
  · rw [h] at HA
    have HB := fun w => rfail_any (1 + u % 2) o w
    by_cases g : epE (1 + u % 2) o = 0
    · rw [g] at HB
      obtain ⟨y1, y2⟩ := epE_inY h
      obtain ⟨o1, o2⟩ := epE_inY g
      have H1 := fun w => utrace_any (1 + u % 2) y w h
      have H2 := fun w => utrace_any (1 + u % 2) o w g
      obtain ⟨m1, m2⟩ := uM_bd (1 + u % 2) y
      obtain ⟨n1, n2⟩ := uN_bd (1 + u % 2) y
      by_cases h1 : u % 2 = 0
      · have em : uM (1 + u % 2) y = 15 := by unfold uM; rw [if_pos (by omega)]
        have en : uN (1 + u % 2) y = 6 := by unfold uN; rw [if_pos (by omega)]
        rw [em, en] at H1
        exact walk_1 u y o _ _ _ _ _ _ _ _ hu hu2 h1 HA HB H1 H2 y1 y2 o1 o2 W
      · have h1' : u % 2 = 1 := by omega
        cases hq : (y / 100 != o / 100)
        · have e : y / 100 = o / 100 := by simpa using hq
          have em : uM (1 + u % 2) o = uM (1 + u % 2) y := by unfold uM; rw [e]
          have en : uN (1 + u % 2) o = uN (1 + u % 2) y := by unfold uN; rw [e]
          rw [em, en] at H2
          exact walk_3 u y o _ _ _ _ _ _ _ _ hu hu2 h1' hq HA HB H1 H2 y1 y2 o1 o2 m1 m2 n1 n2 W
        · exact walk_2 u y o _ _ _ _ _ _ _ _ _ _ hu hu2 h1' hq HA HB H1 H2 y1 y2 o1 o2 m1 m2 n1 n2 W
    · exact walk_b u y o _ hu hu2 HA HB (bne_iff_ne.2 g) W
  · exact walk_a u y o _ hu hu2 HA (bne_iff_ne.2 h) W

/-! ### the row's step -/
set_option maxRecDepth 100000 in
theorem lifted (os : Os) (started : os.Started) (H : Type) (enc : TypeId × Value → H) :
    ReturnsInHanded {} Try.checked os 5 .any (Rows.gaussConstantsSpec.pre6 enc Try.prog Try.f5 Rows.gaussConstantsRow.domain false) (Rows.gaussConstantsSpec.post enc Try.prog Try.f5 false true false false) := by
  refine returnsInHanded_of_change (C := Try.checked) own started (by kernel_rfl) Try.func5
    (ChangeSpec.witness6 (enc := enc) (C := Try.checked) false ⟨#[], #[.int .u8 0, .int .i64 0, .int .i64 0], []⟩ 8 (by kernel_rfl) (by kernel_rfl) (by kernel_rfl) (by kernel_rfl)) ?_
  intro W base args ds gs before hval0 hW hcnd _
  have hval : ∀ (j : Nat) t v, Try.f5.params[j]? = some t → args[j]? = some v → Value.okWide Try.prog W .any base t v := hval0
  have hW' := hW
  obtain ⟨p, q, hA0, hV, rfl, hfz, hnd⟩ := hW
  have hA : DataW.TrodAll enc Try.prog W 0 (fun _ => true) true Try.f5.params.toList args.toList ds p := hA0
  rw [Try.params5] at hA hval
  obtain ⟨v0, vs0, d0, ds0, p0, q0, hargs, rfl, rfl, h0, r0⟩ := trodAll_cons hA
  obtain ⟨v1, vs1, d1, ds1, p1, q1, rfl, rfl, rfl, h1, r1⟩ := trodAll_cons r0
  obtain ⟨v2, vs2, d2, ds2, p2, q2, rfl, rfl, rfl, h2, r2⟩ := trodAll_cons r1
  obtain ⟨rfl, rfl, rfl⟩ := trodAll_nil r2
  obtain rfl : args = #[v0, v1, v2] := by cases args; simp_all
  obtain ⟨rfl, rfl⟩ := trodVars_none hV
  obtain ⟨a0, rfl, rfl, rfl, w0⟩ := open_int Try.underlying5 (hval 0 5 v0 rfl rfl) h0
  obtain ⟨a1, rfl, rfl, rfl, w1⟩ := open_int Try.underlying3 (hval 1 3 v1 rfl rfl) h1
  obtain ⟨a2, rfl, rfl, rfl, w2⟩ := open_int Try.underlying3 (hval 2 3 v2 rfl rfl) h2
  clear hA0 hval0
  simp only [List.append_nil] at hW'
  refine (walk a0 a1 a2 w0 w1 w2 W).mono fun e W' ⟨he, bel⟩ => ?_
  subst he
  exact ⟨_, rfl, _, _, _, [], _, [], hW', trodAll_mk1 (shut_bool Try.underlying4 _), (trodAll_cons_mk (shut_int Try.underlying5 w0) (trodAll_cons_mk (shut_int Try.underlying3 w1) (trodAll_cons_mk (shut_int Try.underlying3 w2) trodAll_mk0))), rfl, bel.frame _, fun h => by cases h⟩

theorem over : Rows.gaussConstantsRow.holds Try.pinned (OpenSpec.ofChange Rows.gaussConstantsSpec) :=
  OpenClaim.holds_of_wide 5 Try.f5 rfl rfl rfl rfl rfl rfl rfl ⟨rfl, rfl, rfl, rfl, rfl⟩ rfl rfl rfl rfl rfl (by kernel_rfl) Try.func5 (by kernel_rfl)
    (of_decide_eq_true (by kernel_rfl)) (by unfold Func.isWrapper; first | (rw [if_pos (by decide +kernel)]; kernel_rfl) | (rw [if_neg (by decide +kernel)]; exact ⟨rfl, rfl⟩))
    (fun os started H enc _ => lifted os started H enc)

/-- The statement. -/
theorem proved : Rows.GaussConstantsSaid :=
  over
#print axioms proved
end Go.Proofs.Ytoiiajmdfkgcbaa.gaussConstants
