/- Proved: for every byte calendar and every 64-bit integer year, the law GaussExceptions of package computuslaw11 (an exception moves Easter from 26 or 25 April to a week earlier; there is none in the Julian calendar) returns true, and what was in memory is as it was. No condition. -/
import Derived.Test.YtoiiajmdfkgcbaaUe
import Derived.Test.YtoiiajmdfkgcbaaVy
import Derived.WalkKit
import Derived.ProofKit
import Derived.OpenShut
import Derived.ShutString
import Derived.Lib.SmallJoins
namespace Go.Proofs.Ytoiiajmdfkgcbaa.gaussExceptions
open Go.ChangeShapes Go.WideShapes Go.ChangeAt Go.RowKit Go.Joins
open Go.ChangeMaps (open_string shut_string)
set_option linter.unusedVariables false      -- a walk need not use every fact

theorem walk_a (u y k : Int)
    (hu : 0 ≤ u) (hu2 : u ≤ 255)
    (HA : ∀ w, Calls Try.prog 9 #[.int .i64 (1 + u % 2), .int .i64 y] w fun e w' => e = .returned (.int .i64 k) ∧ w = w')
    (hk : (k != 0) = true)
    (W : World) :
    Calls Try.prog 4 #[.int .u8 u, .int .i64 y] W fun e w' => e = .returned (.bool true) ∧ Below W.heap.size W w' := by
  have S0 := Lib.hid (Bst.start W)
  go_enter Try.func4, Try.ntmps4
  go_wp2_with fail
  refine (c11awake_any _).mono ?_
  rintro e w1 ⟨rfl, hb1⟩
  have S1 := Lib.hid (S0.out.on hb1)
  clear hb1
  go_wp2_with fail
  refine (HA _).mono ?_
  rintro e wq ⟨rfl, rfl⟩
  go_wp2_with fail
  refine (c11awake_any _).mono ?_
  rintro e w2 ⟨rfl, hb2⟩
  have S2 := Lib.hid (S1.out.on hb2)
  clear hb2
  go_wp2_with fail
  go_ret
  exact ⟨rfl, S2.out.b⟩
set_option maxRecDepth 100000 in
set_option maxHeartbeats 1000000 in
theorem walk_0 (u y m n d e9 : Int)
    (hu : 0 ≤ u) (hu2 : u ≤ 255)
    (d1 : 0 ≤ d) (d2 : d ≤ 29) (e1 : 0 ≤ e9) (e2 : e9 ≤ 6)
    (hq : d + e9 ≤ 9)
    (HA : ∀ w, Calls Try.prog 9 #[.int .i64 (1 + u % 2), .int .i64 y] w fun e w' => e = .returned (.int .i64 0) ∧ w = w')
    (H1 : ∀ w, Calls Try.prog 7 #[.int .i64 (1 + u % 2), .int .i64 y] w fun e w' => e = .returned (stv m n d e9 0 0) ∧ Below w.heap.size w w')
    (H2 : ∀ w, Calls Try.prog 8 #[.int .i64 (1 + u % 2), .int .i64 y] w fun e w' => e = .returned (datv y 3 (22 + (d + e9)) 0) ∧ Below w.heap.size w w')
    (y1 : 1 ≤ y) (y2 : y ≤ 1000000000)
    (W : World) :
    Calls Try.prog 4 #[.int .u8 u, .int .i64 y] W fun e w' => e = .returned (.bool true) ∧ Below W.heap.size W w' := by
  have S0 := Lib.hid (Bst.start W)
  go_enter Try.func4, Try.ntmps4
  go_wp2_with fail
  refine (c11awake_any _).mono ?_
  rintro e w1 ⟨rfl, hb1⟩
  have S1 := Lib.hid (S0.out.on hb1)
  clear hb1
  go_wp2_with fail
  refine (HA _).mono ?_
  rintro e wq ⟨rfl, rfl⟩
  go_wp2_with fail
  refine (H1 _).mono ?_
  rintro e w2 ⟨rfl, hb2⟩
  have S2 := Lib.hid (S1.out.on hb2)
  clear hb2
  go_wp2_with fail
  refine (H2 _).mono ?_
  rintro e w3 ⟨rfl, hb3⟩
  have S3 := Lib.hid ((S2.out.al _).on hb3)
  have RS3 := Lib.hid (row_on (heap_alloc_new _ _) hb3)
  obtain ⟨cS0, cS1, cS2, cS3, cS4, gS0, gS1, gS2, gS3, gS4, zS⟩ := row5 RS3.out
  clear hb3
  go_wp2_with fail
  go_ret
  exact ⟨rfl, (S3.out.al _).b⟩
set_option maxRecDepth 100000 in
set_option maxHeartbeats 1000000 in
theorem walk_9 (u y m n d e9 : Int)
    (hu : 0 ≤ u) (hu2 : u ≤ 255)
    (d1 : 0 ≤ d) (d2 : d ≤ 29) (e1 : 0 ≤ e9) (e2 : e9 ≤ 6)
    (hq : ¬ d + e9 ≤ 9) (hr : d + e9 ≤ 34)
    (HA : ∀ w, Calls Try.prog 9 #[.int .i64 (1 + u % 2), .int .i64 y] w fun e w' => e = .returned (.int .i64 0) ∧ w = w')
    (H1 : ∀ w, Calls Try.prog 7 #[.int .i64 (1 + u % 2), .int .i64 y] w fun e w' => e = .returned (stv m n d e9 0 0) ∧ Below w.heap.size w w')
    (H2 : ∀ w, Calls Try.prog 8 #[.int .i64 (1 + u % 2), .int .i64 y] w fun e w' => e = .returned (datv y 4 (d + e9 - 9) 0) ∧ Below w.heap.size w w')
    (y1 : 1 ≤ y) (y2 : y ≤ 1000000000)
    (W : World) :
    Calls Try.prog 4 #[.int .u8 u, .int .i64 y] W fun e w' => e = .returned (.bool true) ∧ Below W.heap.size W w' := by
  have S0 := Lib.hid (Bst.start W)
  go_enter Try.func4, Try.ntmps4
  go_wp2_with fail
  refine (c11awake_any _).mono ?_
  rintro e w1 ⟨rfl, hb1⟩
  have S1 := Lib.hid (S0.out.on hb1)
  clear hb1
  go_wp2_with fail
  refine (HA _).mono ?_
  rintro e wq ⟨rfl, rfl⟩
  go_wp2_with fail
  refine (H1 _).mono ?_
  rintro e w2 ⟨rfl, hb2⟩
  have S2 := Lib.hid (S1.out.on hb2)
  clear hb2
  go_wp2_with fail
  refine (H2 _).mono ?_
  rintro e w3 ⟨rfl, hb3⟩
  have S3 := Lib.hid ((S2.out.al _).on hb3)
  have RS3 := Lib.hid (row_on (heap_alloc_new _ _) hb3)
  obtain ⟨cS0, cS1, cS2, cS3, cS4, gS0, gS1, gS2, gS3, gS4, zS⟩ := row5 RS3.out
  clear hb3
  go_wp2_with fail
  go_ret
  exact ⟨rfl, (S3.out.al _).b⟩
set_option maxRecDepth 100000 in
set_option maxHeartbeats 1000000 in
theorem walk_1 (u y m n : Int)
    (hu : 0 ≤ u) (hu2 : u ≤ 255)
    (h1 : u % 2 = 1)
    (HA : ∀ w, Calls Try.prog 9 #[.int .i64 (1 + u % 2), .int .i64 y] w fun e w' => e = .returned (.int .i64 0) ∧ w = w')
    (H1 : ∀ w, Calls Try.prog 7 #[.int .i64 (1 + u % 2), .int .i64 y] w fun e w' => e = .returned (stv m n 29 6 1 0) ∧ Below w.heap.size w w')
    (H2 : ∀ w, Calls Try.prog 8 #[.int .i64 (1 + u % 2), .int .i64 y] w fun e w' => e = .returned (datv y 4 19 0) ∧ Below w.heap.size w w')
    (y1 : 1 ≤ y) (y2 : y ≤ 1000000000)
    (W : World) :
    Calls Try.prog 4 #[.int .u8 u, .int .i64 y] W fun e w' => e = .returned (.bool true) ∧ Below W.heap.size W w' := by
  have hk : ((1 + u % 2) == 2) = true := beq_iff_eq.2 (by omega)
  clear h1
  have S0 := Lib.hid (Bst.start W)
  go_enter Try.func4, Try.ntmps4
  go_wp2_with fail
  refine (c11awake_any _).mono ?_
  rintro e w1 ⟨rfl, hb1⟩
  have S1 := Lib.hid (S0.out.on hb1)
  clear hb1
  go_wp2_with fail
  refine (HA _).mono ?_
  rintro e wq ⟨rfl, rfl⟩
  go_wp2_with fail
  refine (H1 _).mono ?_
  rintro e w2 ⟨rfl, hb2⟩
  have S2 := Lib.hid (S1.out.on hb2)
  clear hb2
  go_wp2_with fail
  refine (H2 _).mono ?_
  rintro e w3 ⟨rfl, hb3⟩
  have S3 := Lib.hid ((S2.out.al _).on hb3)
  have RS3 := Lib.hid (row_on (heap_alloc_new _ _) hb3)
  obtain ⟨cS0, cS1, cS2, cS3, cS4, gS0, gS1, gS2, gS3, gS4, zS⟩ := row5 RS3.out
  clear hb3
  go_wp2_with fail
  go_ret
  exact ⟨rfl, (S3.out.al _).b⟩
set_option maxRecDepth 100000 in
set_option maxHeartbeats 1000000 in
theorem walk_2 (u y m n : Int)
    (hu : 0 ≤ u) (hu2 : u ≤ 255)
    (h1 : u % 2 = 1)
    (HA : ∀ w, Calls Try.prog 9 #[.int .i64 (1 + u % 2), .int .i64 y] w fun e w' => e = .returned (.int .i64 0) ∧ w = w')
    (H1 : ∀ w, Calls Try.prog 7 #[.int .i64 (1 + u % 2), .int .i64 y] w fun e w' => e = .returned (stv m n 28 6 2 0) ∧ Below w.heap.size w w')
    (H2 : ∀ w, Calls Try.prog 8 #[.int .i64 (1 + u % 2), .int .i64 y] w fun e w' => e = .returned (datv y 4 18 0) ∧ Below w.heap.size w w')
    (y1 : 1 ≤ y) (y2 : y ≤ 1000000000)
    (W : World) :
    Calls Try.prog 4 #[.int .u8 u, .int .i64 y] W fun e w' => e = .returned (.bool true) ∧ Below W.heap.size W w' := by
  have hk : ((1 + u % 2) == 2) = true := beq_iff_eq.2 (by omega)
  clear h1
  have S0 := Lib.hid (Bst.start W)
  go_enter Try.func4, Try.ntmps4
  go_wp2_with fail
  refine (c11awake_any _).mono ?_
  rintro e w1 ⟨rfl, hb1⟩
  have S1 := Lib.hid (S0.out.on hb1)
  clear hb1
  go_wp2_with fail
  refine (HA _).mono ?_
  rintro e wq ⟨rfl, rfl⟩
  go_wp2_with fail
  refine (H1 _).mono ?_
  rintro e w2 ⟨rfl, hb2⟩
  have S2 := Lib.hid (S1.out.on hb2)
  clear hb2
  go_wp2_with fail
  refine (H2 _).mono ?_
  rintro e w3 ⟨rfl, hb3⟩
  have S3 := Lib.hid ((S2.out.al _).on hb3)
  have RS3 := Lib.hid (row_on (heap_alloc_new _ _) hb3)
  obtain ⟨cS0, cS1, cS2, cS3, cS4, gS0, gS1, gS2, gS3, gS4, zS⟩ := row5 RS3.out
  clear hb3
  go_wp2_with fail
  go_ret
  exact ⟨rfl, (S3.out.al _).b⟩
theorem walk (u y : Int) (w0 : (Lit.int .u8 u).wf = true) (w1 : (Lit.int .i64 y).wf = true) (W : World) :
    Calls Try.prog 4 #[.int .u8 u, .int .i64 y] W fun e w' => e = .returned (.bool true) ∧ Below W.heap.size W w' := by
  obtain ⟨hu, hu2⟩ := bounds_u8 w0
  have HA := fun w => rfail_any (1 + u % 2) y w
  by_cases h : epE (1 + u % 2) y = 0
  · rw [h] at HA
    obtain ⟨y1, y2⟩ := epE_inY h
    have H1 := fun w => utrace_any (1 + u % 2) y w h
    have H2 := fun w => udate_any (1 + u % 2) y w h
    obtain ⟨d1, d2⟩ := uD_bd (1 + u % 2) y
    obtain ⟨e1, e2⟩ := uE_bd (1 + u % 2) y
    rcases uX_cases (1 + u % 2) y with ⟨x, hc, xe, xd⟩ | ⟨x, hc, xe, xd, _⟩ | ⟨x, hx⟩
    · rw [show uO (1 + u % 2) y = 29 by unfold uO; rw [if_pos x]] at H2
      rw [x, xe, xd] at H1
      exact walk_1 u y _ _ hu hu2 (by omega) HA H1 H2 y1 y2 W
    · rw [show uO (1 + u % 2) y = 28 by unfold uO; rw [if_neg (by omega), if_pos x]] at H2
      rw [x, xe, xd] at H1
      exact walk_2 u y _ _ hu hu2 (by omega) HA H1 H2 y1 y2 W
    · rw [show uO (1 + u % 2) y = uD (1 + u % 2) y + uE (1 + u % 2) y + 1 by unfold uO; rw [if_neg (by omega), if_neg (by omega)], marM_u, marD_u] at H2
      rw [x] at H1
      have hr : uD (1 + u % 2) y + uE (1 + u % 2) y ≤ 34 := by
        have hj : (1 + u % 2) = 1 → ¬ uD (1 + u % 2) y = 29 := fun q => by rw [q]; exact (jul_ep y).1
        omega
      clear x hx
      generalize uD (1 + u % 2) y = d at *
      generalize uE (1 + u % 2) y = e9 at *
      by_cases hq : d + e9 ≤ 9
      · rw [if_pos (by omega), if_pos (by omega), show 21 + (d + e9 + 1) = 22 + (d + e9) by omega] at H2
        exact walk_0 u y _ _ d e9 hu hu2 d1 d2 e1 e2 hq HA H1 H2 y1 y2 W
      · rw [if_neg (by omega), if_neg (by omega), show 21 + (d + e9 + 1) - 31 = d + e9 - 9 by omega] at H2
        exact walk_9 u y _ _ d e9 hu hu2 d1 d2 e1 e2 hq hr HA H1 H2 y1 y2 W
  · exact walk_a u y _ hu hu2 HA (bne_iff_ne.2 h) W

/-! ### the row's step -/
set_option maxRecDepth 100000 in
theorem lifted (os : Os) (started : os.Started) (H : Type) (enc : TypeId × Value → H) :
    ReturnsInHanded {} Try.checked os 4 .any (Rows.gaussExceptionsSpec.pre6 enc Try.prog Try.f4 Rows.gaussExceptionsRow.domain false) (Rows.gaussExceptionsSpec.post enc Try.prog Try.f4 false true false false) := by
  refine returnsInHanded_of_change (C := Try.checked) own started (by kernel_rfl) Try.func4
    (ChangeSpec.witness6 (enc := enc) (C := Try.checked) false ⟨#[], #[.int .u8 0, .int .i64 0], []⟩ 8 (by kernel_rfl) (by kernel_rfl) (by kernel_rfl) (by kernel_rfl)) ?_
  intro W base args ds gs before hval0 hW hcnd _
  have hval : ∀ (j : Nat) t v, Try.f4.params[j]? = some t → args[j]? = some v → Value.okWide Try.prog W .any base t v := hval0
  have hW' := hW
  obtain ⟨p, q, hA0, hV, rfl, hfz, hnd⟩ := hW
  have hA : DataW.TrodAll enc Try.prog W 0 (fun _ => true) true Try.f4.params.toList args.toList ds p := hA0
  rw [Try.params4] at hA hval
  obtain ⟨v0, vs0, d0, ds0, p0, q0, hargs, rfl, rfl, h0, r0⟩ := trodAll_cons hA
  obtain ⟨v1, vs1, d1, ds1, p1, q1, rfl, rfl, rfl, h1, r1⟩ := trodAll_cons r0
  obtain ⟨rfl, rfl, rfl⟩ := trodAll_nil r1
  obtain rfl : args = #[v0, v1] := by cases args; simp_all
  obtain ⟨rfl, rfl⟩ := trodVars_none hV
  obtain ⟨a0, rfl, rfl, rfl, w0⟩ := open_int Try.underlying5 (hval 0 5 v0 rfl rfl) h0
  obtain ⟨a1, rfl, rfl, rfl, w1⟩ := open_int Try.underlying3 (hval 1 3 v1 rfl rfl) h1
  clear hA0 hval0
  simp only [List.append_nil] at hW'
  refine (walk a0 a1 w0 w1 W).mono fun e W' ⟨he, bel⟩ => ?_
  subst he
  exact ⟨_, rfl, _, _, _, [], _, [], hW', trodAll_mk1 (shut_bool Try.underlying4 _), (trodAll_cons_mk (shut_int Try.underlying5 w0) (trodAll_cons_mk (shut_int Try.underlying3 w1) trodAll_mk0)), rfl, bel.frame _, fun h => by cases h⟩

theorem over : Rows.gaussExceptionsRow.holds Try.pinned (OpenSpec.ofChange Rows.gaussExceptionsSpec) :=
  OpenClaim.holds_of_wide 4 Try.f4 rfl rfl rfl rfl rfl rfl rfl ⟨rfl, rfl, rfl, rfl, rfl⟩ rfl rfl rfl rfl rfl (by kernel_rfl) Try.func4 (by kernel_rfl)
    (of_decide_eq_true (by kernel_rfl)) (by unfold Func.isWrapper; first | (rw [if_pos (by decide +kernel)]; kernel_rfl) | (rw [if_neg (by decide +kernel)]; exact ⟨rfl, rfl⟩))
    (fun os started H enc _ => lifted os started H enc)

/-- The statement. -/
theorem proved : Rows.GaussExceptionsSaid :=
  over
#print axioms proved
end Go.Proofs.Ytoiiajmdfkgcbaa.gaussExceptions
