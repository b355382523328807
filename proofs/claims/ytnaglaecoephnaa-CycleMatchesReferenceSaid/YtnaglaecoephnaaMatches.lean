/- Proved: for all 64-bit integers calendar, first, last, month and day, the law CycleMatchesReference of package computuslaw14 (Years, Histogram and Earliest of package cycle answer as their reference does, for ranges of at most 401 years) returns true, and what was in memory is as it was. No condition. -/
import Derived.Test.YtnaglaecoephnaaKi
import Derived.Test.YtnaglaecoephnaaVy
import Derived.WalkKit
import Derived.ProofKit
import Derived.OpenShut
import Derived.ShutString
import Derived.Lib.SmallJoins
import Derived.Deep.RegionHeld3
namespace Go.Proofs.Ytnaglaecoephnaa.cycleMatchesReference
open Go.ChangeShapes Go.WideShapes Go.ChangeAt Go.RowKit Go.Joins
open Go.ChangeMaps (open_string shut_string)
set_option linter.unusedVariables false      -- a walk need not use every fact

set_option maxRecDepth 100000 in
set_option maxHeartbeats 1000000 in
theorem walk_A (c f l m d : Int)
    (HI1 : ∀ w, Calls Try.prog 9 #[.int .i64 f] w fun e w' => e = .returned (.bool true) ∧ w = w')
    (HI2 : ∀ w, Calls Try.prog 9 #[.int .i64 l] w fun e w' => e = .returned (.bool true) ∧ w = w')
    (f1 : 1 ≤ f) (f2 : f ≤ 1000000000) (l1 : 1 ≤ l) (l2 : l ≤ 1000000000) (q1 : 400 < l - f) (q2 : l - f < 10000)
    (W : World) :
    Calls Try.prog 3 #[.int .i64 c, .int .i64 f, .int .i64 l, .int .i64 m, .int .i64 d] W fun e w' => e = .returned (.bool true) ∧ Below W.heap.size W w' := by
  have S0 := Lib.hid (Below.refl W.heap.size W)
  go_enter Try.func3, Try.ntmps3
  go_wp2_with fail
  refine (c14awake_any _).mono ?_
  rintro e w1 ⟨rfl, hb1⟩
  have S1 := Lib.hid (below_on S0.out hb1)
  clear hb1
  go_wp2_with fail
  refine (HI1 _).mono ?_
  rintro e wq ⟨rfl, rfl⟩
  go_wp2_with fail
  refine (HI2 _).mono ?_
  rintro e wq ⟨rfl, rfl⟩
  go_wp2_with fail
  refine (c14awake_any _).mono ?_
  rintro e w2 ⟨rfl, hb2⟩
  have S2 := Lib.hid (below_on S1.out hb2)
  clear hb2
  go_wp2_with fail
  go_ret
  exact ⟨rfl, S2.out⟩
set_option maxRecDepth 100000 in
set_option maxHeartbeats 1000000 in
theorem walk_B (c f l m d k : Int)
    (HI1 : ∀ w, Calls Try.prog 9 #[.int .i64 f] w fun e w' => e = .returned (.bool false) ∧ w = w')
    (hk : (k != 0) = true)
    (H1 : ∀ w, Calls Try.prog 10 #[.int .i64 c, .int .i64 f, .int .i64 l, .int .i64 m, .int .i64 d] w (RetL 0 k w))
    (H2 : ∀ w, Calls Try.prog 11 #[.int .i64 c, .int .i64 f, .int .i64 l] w fun e w' => e = .returned (retH (fun _ => 0) k) ∧ Below w.heap.size w w')
    (H3 : ∀ w, Calls Try.prog 12 #[.int .i64 c, .int .i64 f, .int .i64 l] w fun e w' => e = .returned (numv 0 k) ∧ Below w.heap.size w w')
    (HF : ∀ w, Calls Try.prog 13 #[.int .i64 c, .int .i64 f, .int .i64 l] w fun e w' => e = .returned (.int .i64 k) ∧ w = w')
    (W : World) :
    Calls Try.prog 3 #[.int .i64 c, .int .i64 f, .int .i64 l, .int .i64 m, .int .i64 d] W fun e w' => e = .returned (.bool true) ∧ Below W.heap.size W w' := by
  have S0 := Lib.hid (Below.refl W.heap.size W)
  go_enter Try.func3, Try.ntmps3
  go_wp2_with fail
  refine (c14awake_any _).mono ?_
  rintro e w1 ⟨rfl, hb1⟩
  have S1 := Lib.hid (below_on S0.out hb1)
  clear hb1
  go_wp2_with fail
  refine (HI1 _).mono ?_
  rintro e wq ⟨rfl, rfl⟩
  go_wp2_with fail
  refine (H1 _).mono ?_
  rintro e w2 ⟨ba, ca, rfl, hb2⟩
  have S2 := Lib.hid (below_on S1.out hb2)
  clear hb2
  go_wp2_with fail
  refine (H2 _).mono ?_
  rintro e w3 ⟨rfl, hb3⟩
  have S3 := Lib.hid (below_on S2.out hb3)
  clear hb3
  go_wp2_with (refine store_new rfl _ _ _ rfl _ _ _ rfl rfl (infoHrow _) (hrow_size _).symm (hrow_one _) ?_)
  refine (H3 _).mono ?_
  rintro e w4 ⟨rfl, hb4⟩
  have S4 := Lib.hid (below_on (below_al_own S3.out _) hb4)
  have R4 := Lib.hid (row_on (heap_alloc_new _ _) hb4)
  clear hb4
  go_wp2_with fail
  refine (HF _).mono ?_
  rintro e wq ⟨rfl, rfl⟩
  have hE := eqZ
  go_wp2_with (refine load_row_g (by rfl) _ _ rfl w3.heap.size rfl _ _ _ _ R4.out Try.underlying28 rfl (infoHrow _) ?_)
  go_ret
  exact ⟨rfl, S4.out⟩
set_option maxRecDepth 100000 in
set_option maxHeartbeats 1000000 in
theorem walk_C (c f l m d k : Int)
    (HI1 : ∀ w, Calls Try.prog 9 #[.int .i64 f] w fun e w' => e = .returned (.bool true) ∧ w = w')
    (HI2 : ∀ w, Calls Try.prog 9 #[.int .i64 l] w fun e w' => e = .returned (.bool false) ∧ w = w')
    (hk : (k != 0) = true)
    (H1 : ∀ w, Calls Try.prog 10 #[.int .i64 c, .int .i64 f, .int .i64 l, .int .i64 m, .int .i64 d] w (RetL 0 k w))
    (H2 : ∀ w, Calls Try.prog 11 #[.int .i64 c, .int .i64 f, .int .i64 l] w fun e w' => e = .returned (retH (fun _ => 0) k) ∧ Below w.heap.size w w')
    (H3 : ∀ w, Calls Try.prog 12 #[.int .i64 c, .int .i64 f, .int .i64 l] w fun e w' => e = .returned (numv 0 k) ∧ Below w.heap.size w w')
    (HF : ∀ w, Calls Try.prog 13 #[.int .i64 c, .int .i64 f, .int .i64 l] w fun e w' => e = .returned (.int .i64 k) ∧ w = w')
    (W : World) :
    Calls Try.prog 3 #[.int .i64 c, .int .i64 f, .int .i64 l, .int .i64 m, .int .i64 d] W fun e w' => e = .returned (.bool true) ∧ Below W.heap.size W w' := by
  have S0 := Lib.hid (Below.refl W.heap.size W)
  go_enter Try.func3, Try.ntmps3
  go_wp2_with fail
  refine (c14awake_any _).mono ?_
  rintro e w1 ⟨rfl, hb1⟩
  have S1 := Lib.hid (below_on S0.out hb1)
  clear hb1
  go_wp2_with fail
  refine (HI1 _).mono ?_
  rintro e wq ⟨rfl, rfl⟩
  go_wp2_with fail
  refine (HI2 _).mono ?_
  rintro e wq ⟨rfl, rfl⟩
  go_wp2_with fail
  refine (H1 _).mono ?_
  rintro e w2 ⟨ba, ca, rfl, hb2⟩
  have S2 := Lib.hid (below_on S1.out hb2)
  clear hb2
  go_wp2_with fail
  refine (H2 _).mono ?_
  rintro e w3 ⟨rfl, hb3⟩
  have S3 := Lib.hid (below_on S2.out hb3)
  clear hb3
  go_wp2_with (refine store_new rfl _ _ _ rfl _ _ _ rfl rfl (infoHrow _) (hrow_size _).symm (hrow_one _) ?_)
  refine (H3 _).mono ?_
  rintro e w4 ⟨rfl, hb4⟩
  have S4 := Lib.hid (below_on (below_al_own S3.out _) hb4)
  have R4 := Lib.hid (row_on (heap_alloc_new _ _) hb4)
  clear hb4
  go_wp2_with fail
  refine (HF _).mono ?_
  rintro e wq ⟨rfl, rfl⟩
  have hE := eqZ
  go_wp2_with (refine load_row_g (by rfl) _ _ rfl w3.heap.size rfl _ _ _ _ R4.out Try.underlying28 rfl (infoHrow _) ?_)
  go_ret
  exact ⟨rfl, S4.out⟩
set_option maxRecDepth 100000 in
set_option maxHeartbeats 1000000 in
theorem walk_D (c f l m d k : Int)
    (HI1 : ∀ w, Calls Try.prog 9 #[.int .i64 f] w fun e w' => e = .returned (.bool true) ∧ w = w')
    (HI2 : ∀ w, Calls Try.prog 9 #[.int .i64 l] w fun e w' => e = .returned (.bool true) ∧ w = w')
    (f1 : 1 ≤ f) (f2 : f ≤ 1000000000) (l1 : 1 ≤ l) (l2 : l ≤ 1000000000) (q1 : ¬ 400 < l - f)
    (hk : (k != 0) = true)
    (H1 : ∀ w, Calls Try.prog 10 #[.int .i64 c, .int .i64 f, .int .i64 l, .int .i64 m, .int .i64 d] w (RetL 0 k w))
    (H2 : ∀ w, Calls Try.prog 11 #[.int .i64 c, .int .i64 f, .int .i64 l] w fun e w' => e = .returned (retH (fun _ => 0) k) ∧ Below w.heap.size w w')
    (H3 : ∀ w, Calls Try.prog 12 #[.int .i64 c, .int .i64 f, .int .i64 l] w fun e w' => e = .returned (numv 0 k) ∧ Below w.heap.size w w')
    (HF : ∀ w, Calls Try.prog 13 #[.int .i64 c, .int .i64 f, .int .i64 l] w fun e w' => e = .returned (.int .i64 k) ∧ w = w')
    (W : World) :
    Calls Try.prog 3 #[.int .i64 c, .int .i64 f, .int .i64 l, .int .i64 m, .int .i64 d] W fun e w' => e = .returned (.bool true) ∧ Below W.heap.size W w' := by
  have S0 := Lib.hid (Below.refl W.heap.size W)
  go_enter Try.func3, Try.ntmps3
  go_wp2_with fail
  refine (c14awake_any _).mono ?_
  rintro e w1 ⟨rfl, hb1⟩
  have S1 := Lib.hid (below_on S0.out hb1)
  clear hb1
  go_wp2_with fail
  refine (HI1 _).mono ?_
  rintro e wq ⟨rfl, rfl⟩
  go_wp2_with fail
  refine (HI2 _).mono ?_
  rintro e wq ⟨rfl, rfl⟩
  go_wp2_with fail
  refine (H1 _).mono ?_
  rintro e w2 ⟨ba, ca, rfl, hb2⟩
  have S2 := Lib.hid (below_on S1.out hb2)
  clear hb2
  go_wp2_with fail
  refine (H2 _).mono ?_
  rintro e w3 ⟨rfl, hb3⟩
  have S3 := Lib.hid (below_on S2.out hb3)
  clear hb3
  go_wp2_with (refine store_new rfl _ _ _ rfl _ _ _ rfl rfl (infoHrow _) (hrow_size _).symm (hrow_one _) ?_)
  refine (H3 _).mono ?_
  rintro e w4 ⟨rfl, hb4⟩
  have S4 := Lib.hid (below_on (below_al_own S3.out _) hb4)
  have R4 := Lib.hid (row_on (heap_alloc_new _ _) hb4)
  clear hb4
  go_wp2_with fail
  refine (HF _).mono ?_
  rintro e wq ⟨rfl, rfl⟩
  have hE := eqZ
  go_wp2_with (refine load_row_g (by rfl) _ _ rfl w3.heap.size rfl _ _ _ _ R4.out Try.underlying28 rfl (infoHrow _) ?_)
  go_ret
  exact ⟨rfl, S4.out⟩
set_option maxRecDepth 100000 in
set_option maxHeartbeats 1000000 in
theorem walk_E (c f l m d k : Int)
    (HI1 : ∀ w, Calls Try.prog 9 #[.int .i64 f] w fun e w' => e = .returned (.bool true) ∧ w = w')
    (HI2 : ∀ w, Calls Try.prog 9 #[.int .i64 l] w fun e w' => e = .returned (.bool true) ∧ w = w')
    (f1 : 1 ≤ f) (f2 : f ≤ 1000000000) (l1 : 1 ≤ l) (l2 : l ≤ 1000000000) (q1 : 400 < l - f) (q2 : ¬ l - f < 10000)
    (hk : (k != 0) = true)
    (H1 : ∀ w, Calls Try.prog 10 #[.int .i64 c, .int .i64 f, .int .i64 l, .int .i64 m, .int .i64 d] w (RetL 0 k w))
    (H2 : ∀ w, Calls Try.prog 11 #[.int .i64 c, .int .i64 f, .int .i64 l] w fun e w' => e = .returned (retH (fun _ => 0) k) ∧ Below w.heap.size w w')
    (H3 : ∀ w, Calls Try.prog 12 #[.int .i64 c, .int .i64 f, .int .i64 l] w fun e w' => e = .returned (numv 0 k) ∧ Below w.heap.size w w')
    (HF : ∀ w, Calls Try.prog 13 #[.int .i64 c, .int .i64 f, .int .i64 l] w fun e w' => e = .returned (.int .i64 k) ∧ w = w')
    (W : World) :
    Calls Try.prog 3 #[.int .i64 c, .int .i64 f, .int .i64 l, .int .i64 m, .int .i64 d] W fun e w' => e = .returned (.bool true) ∧ Below W.heap.size W w' := by
  have S0 := Lib.hid (Below.refl W.heap.size W)
  go_enter Try.func3, Try.ntmps3
  go_wp2_with fail
  refine (c14awake_any _).mono ?_
  rintro e w1 ⟨rfl, hb1⟩
  have S1 := Lib.hid (below_on S0.out hb1)
  clear hb1
  go_wp2_with fail
  refine (HI1 _).mono ?_
  rintro e wq ⟨rfl, rfl⟩
  go_wp2_with fail
  refine (HI2 _).mono ?_
  rintro e wq ⟨rfl, rfl⟩
  go_wp2_with fail
  refine (H1 _).mono ?_
  rintro e w2 ⟨ba, ca, rfl, hb2⟩
  have S2 := Lib.hid (below_on S1.out hb2)
  clear hb2
  go_wp2_with fail
  refine (H2 _).mono ?_
  rintro e w3 ⟨rfl, hb3⟩
  have S3 := Lib.hid (below_on S2.out hb3)
  clear hb3
  go_wp2_with (refine store_new rfl _ _ _ rfl _ _ _ rfl rfl (infoHrow _) (hrow_size _).symm (hrow_one _) ?_)
  refine (H3 _).mono ?_
  rintro e w4 ⟨rfl, hb4⟩
  have S4 := Lib.hid (below_on (below_al_own S3.out _) hb4)
  have R4 := Lib.hid (row_on (heap_alloc_new _ _) hb4)
  clear hb4
  go_wp2_with fail
  refine (HF _).mono ?_
  rintro e wq ⟨rfl, rfl⟩
  have hE := eqZ
  go_wp2_with (refine load_row_g (by rfl) _ _ rfl w3.heap.size rfl _ _ _ _ R4.out Try.underlying28 rfl (infoHrow _) ?_)
  go_ret
  exact ⟨rfl, S4.out⟩
set_option maxRecDepth 100000 in
set_option maxHeartbeats 1000000 in
theorem walk_ok (c f l m d : Int)
    (HI1 : ∀ w, Calls Try.prog 9 #[.int .i64 f] w fun e w' => e = .returned (.bool true) ∧ w = w')
    (HI2 : ∀ w, Calls Try.prog 9 #[.int .i64 l] w fun e w' => e = .returned (.bool true) ∧ w = w')
    (f1 : 1 ≤ f) (f2 : f ≤ 1000000000) (l1 : 1 ≤ l) (l2 : l ≤ 1000000000) (q1 : ¬ 400 < l - f)
    (n : Nat) (hn : l - f + 1 = n) (hc : c = 1 ∨ c = 2)
    (H1 : ∀ w, Calls Try.prog 10 #[.int .i64 c, .int .i64 f, .int .i64 l, .int .i64 m, .int .i64 d] w (RetY (yrs c f m d n) 0 w))
    (H2 : ∀ w, Calls Try.prog 11 #[.int .i64 c, .int .i64 f, .int .i64 l] w fun e w' => e = .returned (retH (hcn c f n) 0) ∧ Below w.heap.size w w')
    (H3 : ∀ w, Calls Try.prog 12 #[.int .i64 c, .int .i64 f, .int .i64 l] w fun e w' => e = .returned (numv (bst c f n) 0) ∧ Below w.heap.size w w')
    (HF : ∀ w, Calls Try.prog 13 #[.int .i64 c, .int .i64 f, .int .i64 l] w fun e w' => e = .returned (.int .i64 0) ∧ w = w')
    (HX : ∀ y, f ≤ y → y ≤ l → ∀ w, Calls Try.prog 14 #[.int .i64 c, .int .i64 y] w fun e w' => e = .returned (.int .i64 (iX c y)) ∧ Below w.heap.size w w')
    (HY : ∀ w, Calls Try.prog 16 #[.int .i64 c, .int .i64 f, .int .i64 l, .int .i64 m, .int .i64 d] w (RetInts (yrs c f m d n) w))
    (W : World) :
    Calls Try.prog 3 #[.int .i64 c, .int .i64 f, .int .i64 l, .int .i64 m, .int .i64 d] W fun e w' => e = .returned (.bool true) ∧ Below W.heap.size W w' := by
  have S0 := Lib.hid (Below.refl W.heap.size W)
  go_enter Try.func3, Try.ntmps3
  go_wp2_with fail
  refine (c14awake_any _).mono ?_
  rintro e w1 ⟨rfl, hb1⟩
  have S1 := Lib.hid (below_on S0.out hb1)
  clear hb1
  go_wp2_with fail
  refine (HI1 _).mono ?_
  rintro e wq ⟨rfl, rfl⟩
  go_wp2_with fail
  refine (HI2 _).mono ?_
  rintro e wq ⟨rfl, rfl⟩
  go_wp2_with fail
  refine (H1 _).mono ?_
  rintro e w2 ⟨v, rfl, hv, hb2⟩
  have S2 := Lib.hid (below_on S1.out hb2)
  have V2 := Lib.hid hv
  clear hb2 hv
  go_wp2_with fail
  refine (H2 _).mono ?_
  rintro e w3 ⟨rfl, hb3⟩
  have S3 := Lib.hid (below_on S2.out hb3)
  have V3 := Lib.hid (V2.out.on hb3)
  clear hb3 V2
  go_wp2_with (refine store_new rfl _ _ _ rfl _ _ _ rfl rfl (infoHrow _) (hrow_size _).symm (hrow_one _) ?_)
  refine (H3 _).mono ?_
  rintro e w4 ⟨rfl, hb4⟩
  have S4 := Lib.hid (below_on (below_al_own S3.out _) hb4)
  have R4 := Lib.hid (row_on (heap_alloc_new _ _) hb4)
  have V4 := Lib.hid ((V3.out.al _).on hb4)
  clear hb4 V3
  go_wp2_with fail
  refine (HF _).mono ?_
  rintro e wq ⟨rfl, rfl⟩
  have HXh := Lib.hid HX
  have HYh := Lib.hid HY
  clear HX HY H1 H2 H3 HF
  generalize hv : w3.heap.size = b3 at *
  clear hv
  go_wp2_with fail
  go_loopw [19, 20] (fun s i wr => ∃ k : Nat, k ≤ n ∧ i = .int .i64 (f + k) ∧ s = .int .i64 (bst c f k) ∧ Below w4.heap.size w4 wr ∧ wr.heap[w4.heap.size]? = some (arrO (hrow (hcn c f k)))) (fun _ i _ => (l + 1 - intOf i).toNat)
  case atStart => exact ⟨0, Nat.zero_le _, by go_num, rfl, (Below.refl _ _).alloc (Nat.le_refl _) _, heap_alloc_new w4 _⟩
  case round =>
    obtain ⟨k, hk, rfl, rfl, hbw, hrw⟩ := hrel
    have B1 := Lib.hid hbw
    have R1 := Lib.hid hrw
    clear hbw hrw
    by_cases hlt : k < n
    · have hbx := iX_bd hc (f + k)
      have hbs := bst_in c f k
      obtain ⟨j, hj⟩ : ∃ j : Nat, iX c (f + k) = j := ⟨(iX c (f + k)).toNat, by omega⟩
      have HX1 := HXh.out (f + k) (by omega) (by omega)
      have HX2 := Lib.hid (HXh.out (bst c f k) hbs.1 (by omega))
      have hcb := hcn_bd c f k j
      rw [hj] at HX1
      have HX1h := Lib.hid HX1
      have HJ := Lib.hid hj
      have hj35 : j < 35 := by omega
      have hx1 : hcn c f k j ≤ 1000 := by omega
      obtain ⟨x, hx⟩ : ∃ x, hcn c f k j = x := ⟨_, rfl⟩
      have HXX := Lib.hid hx
      have x0 : 0 ≤ x := by omega
      have x1 : x ≤ 1000 := by omega
      have k0 : (0 : Int) ≤ (j : Int) := by omega
      have k1 : (j : Int) < 35 := by omega
      clear HX1 hj hx hcb hbx hx1
      go_wp2_with fail
      refine (HX1h.out _).mono ?_
      rintro e w5 ⟨rfl, hb5⟩
      have B2 := Lib.hid (B1.out.trans (hb5.mono B1.out.size))
      have R2 := Lib.hid (row_on R1.out hb5)
      clear hb5
      obtain ⟨c5, q5, z5⟩ := cell_row R2.out hj35
      rw [HXX.out] at c5
      go_wp2_with fail
      clear c5 q5 z5
      refine (HX1h.out _).mono ?_
      rintro e w6 ⟨rfl, hb6⟩
      have B3 := Lib.hid ((B2.out.setCell (p := ⟨w4.heap.size, j, none⟩) (Nat.le_refl _) (.int .i64 (x + 1))).trans (hb6.mono (by have := B2.out.size; simp; omega)))
      have R3 := Lib.hid (row_on (cnt_put R2.out HJ.out HXX.out) hb6)
      clear hb6
      go_wp2_with fail
      refine (HX2.out _).mono ?_
      rintro e w7 ⟨rfl, hb7⟩
      have B4 := Lib.hid (B3.out.trans (hb7.mono B3.out.size))
      have R4 := Lib.hid (row_on R3.out hb7)
      clear hb7
      by_cases hg : iX c (f + k) < iX c (bst c f k)
      · have HB := Lib.hid (bst_lt hg)
        rw [HJ.out] at hg
        generalize iX c (bst c f k) = z at *
        go_wp2_with fail
        go_roundw
        case rel => exact ⟨k + 1, by omega, by go_num, by rw [HB.out], B4.out, R4.out⟩
        case measure => simp [intOf]; omega
      · have HB := Lib.hid (bst_ge hg)
        rw [HJ.out] at hg
        generalize iX c (bst c f k) = z at *
        go_wp2_with fail
        go_roundw
        case rel => exact ⟨k + 1, by omega, by go_num, by rw [HB.out], B4.out, R4.out⟩
        case measure => simp [intOf]; omega
    · obtain rfl : k = n := by omega
      have V5 := Lib.hid (V4.out.on B1.out)
      have RH := Lib.hid (row_on R4.out B1.out)
      have S5 := Lib.hid (below_on S4.out B1.out)
      go_wp2_with fail
      refine (HYh.out _).mono ?_
      rintro e w5 ⟨v', rfl, hv', hb5⟩
      have V6 := Lib.hid (V5.out.on hb5)
      have V7 := Lib.hid hv'
      have R2 := Lib.hid (row_on R1.out hb5)
      have RH2 := Lib.hid (row_on RH.out hb5)
      have S6 := Lib.hid (below_on S5.out hb5)
      clear hb5 hv'
      go_wp2_with fail
      refine (nums_yes _ _ _ _ V6.out V7.out).mono ?_
      rintro e w6 ⟨rfl, hb6⟩
      have R3 := Lib.hid (row_on R2.out hb6)
      have RH3 := Lib.hid (row_on RH2.out hb6)
      have S7 := Lib.hid (below_on S6.out hb6)
      clear hb6
      have hE := eqH (hcn c f k)
      go_wp2_with (first | refine load_row_g (by rfl) _ _ rfl b3 rfl _ _ _ _ RH3.out Try.underlying28 rfl (infoHrow _) ?_ | refine load_row_g (by rfl) _ _ rfl w4.heap.size rfl _ _ _ _ R3.out Try.underlying28 rfl (infoHrow _) ?_)
      go_ret
      exact ⟨rfl, S7.out⟩
theorem walk (c f l m d : Int) (w0 : (Lit.int .i64 c).wf = true) (w1 : (Lit.int .i64 f).wf = true) (w2 : (Lit.int .i64 l).wf = true) (w3 : (Lit.int .i64 m).wf = true) (w4 : (Lit.int .i64 d).wf = true) (W : World) :
    Calls Try.prog 3 #[.int .i64 c, .int .i64 f, .int .i64 l, .int .i64 m, .int .i64 d] W fun e w' => e = .returned (.bool true) ∧ Below W.heap.size W w' := by
  have HI1 := fun w => rin_any f w
  have HI2 := fun w => rin_any l w
  have HF := fun w => r14fail_any c f l w
  have bad : ∀ k, rgE c f l = k → (k != 0) = true → (∀ w, Calls Try.prog 10 #[.int .i64 c, .int .i64 f, .int .i64 l, .int .i64 m, .int .i64 d] w (RetL 0 k w)) ∧ (∀ w, Calls Try.prog 11 #[.int .i64 c, .int .i64 f, .int .i64 l] w fun e w' => e = .returned (retH (fun _ => 0) k) ∧ Below w.heap.size w w') ∧ (∀ w, Calls Try.prog 12 #[.int .i64 c, .int .i64 f, .int .i64 l] w fun e w' => e = .returned (numv 0 k) ∧ Below w.heap.size w w') := fun k h hk =>
    ⟨fun w => (kyears_no c f l m d w k h hk).mono fun _ _ r => r.len rfl, fun w => khist_no c f l w k h hk, fun w => kearl_no c f l w k h hk⟩
  by_cases hf : inY f = true
  · rw [hf] at HI1
    obtain ⟨f1, f2⟩ := inY_iff.1 hf
    by_cases hl : inY l = true
    · rw [hl] at HI2
      obtain ⟨l1, l2⟩ := inY_iff.1 hl
      by_cases q1 : 400 < l - f
      · by_cases q2 : l - f < 10000
        · exact walk_A c f l m d HI1 HI2 f1 f2 l1 l2 q1 q2 W
        · have h : rgE c f l ≠ 0 := fun h => by have := rgE_zero h; omega
          obtain ⟨a1, a2, a3⟩ := bad _ rfl (bne_iff_ne.2 h)
          exact walk_E c f l m d _ HI1 HI2 f1 f2 l1 l2 q1 q2 (bne_iff_ne.2 h) a1 a2 a3 HF W
      · by_cases h : rgE c f l = 0
        · rw [h] at HF
          obtain ⟨g0, g1, g2, g3⟩ := rgE_zero h
          obtain ⟨n, hn⟩ : ∃ n : Nat, l - f + 1 = n := ⟨(l - f + 1).toNat, by omega⟩
          exact walk_ok c f l m d HI1 HI2 f1 f2 l1 l2 q1 n hn (epE_zero g0).1 (fun w => kyears_ok c f l m d w n h hn) (fun w => khist_ok c f l w n h hn) (fun w => kearl_ok c f l w n h hn) HF (fun y y1 y2 w => r14ix_any c y w (epE_mid g0 g1 y1 y2)) (fun w => r14yrs_any c f l m d w n h hn) W
        · obtain ⟨a1, a2, a3⟩ := bad _ rfl (bne_iff_ne.2 h)
          exact walk_D c f l m d _ HI1 HI2 f1 f2 l1 l2 q1 (bne_iff_ne.2 h) a1 a2 a3 HF W
    · have hl' : inY l = false := by simpa using hl
      rw [hl'] at HI2
      have h : rgE c f l ≠ 0 := fun h => hl (inY_iff.2 (epE_inY (rgE_zero h).2.1))
      obtain ⟨a1, a2, a3⟩ := bad _ rfl (bne_iff_ne.2 h)
      exact walk_C c f l m d _ HI1 HI2 (bne_iff_ne.2 h) a1 a2 a3 HF W
  · have hf' : inY f = false := by simpa using hf
    rw [hf'] at HI1
    have h : rgE c f l ≠ 0 := fun h => hf (inY_iff.2 (epE_inY (rgE_zero h).1))
    obtain ⟨a1, a2, a3⟩ := bad _ rfl (bne_iff_ne.2 h)
    exact walk_B c f l m d _ HI1 (bne_iff_ne.2 h) a1 a2 a3 HF W

/-! ### the row's step -/
set_option maxRecDepth 100000 in
theorem lifted (os : Os) (started : os.Started) (H : Type) (enc : TypeId × Value → H) :
    ReturnsInHanded {} Try.checked os 3 .any (Rows.cycleMatchesReferenceSpec.pre6 enc Try.prog Try.f3 Rows.cycleMatchesReferenceRow.domain false) (Rows.cycleMatchesReferenceSpec.post enc Try.prog Try.f3 false true false false) := by
  refine returnsInHanded_of_change (C := Try.checked) own started (by kernel_rfl) Try.func3
    (ChangeSpec.witness6 (enc := enc) (C := Try.checked) false ⟨#[], #[.int .i64 0, .int .i64 0, .int .i64 0, .int .i64 0, .int .i64 0], []⟩ 8 (by kernel_rfl) (by kernel_rfl) (by kernel_rfl) (by kernel_rfl)) ?_
  intro W base args ds gs before hval0 hW hcnd _
  have hval : ∀ (j : Nat) t v, Try.f3.params[j]? = some t → args[j]? = some v → Value.okWide Try.prog W .any base t v := hval0
  have hW' := hW
  obtain ⟨p, q, hA0, hV, rfl, hfz, hnd⟩ := hW
  have hA : DataW.TrodAll enc Try.prog W 0 (fun _ => true) true Try.f3.params.toList args.toList ds p := hA0
  rw [Try.params3] at hA hval
  obtain ⟨v0, vs0, d0, ds0, p0, q0, hargs, rfl, rfl, h0, r0⟩ := trodAll_cons hA
  obtain ⟨v1, vs1, d1, ds1, p1, q1, rfl, rfl, rfl, h1, r1⟩ := trodAll_cons r0
  obtain ⟨v2, vs2, d2, ds2, p2, q2, rfl, rfl, rfl, h2, r2⟩ := trodAll_cons r1
  obtain ⟨v3, vs3, d3, ds3, p3, q3, rfl, rfl, rfl, h3, r3⟩ := trodAll_cons r2
  obtain ⟨v4, vs4, d4, ds4, p4, q4, rfl, rfl, rfl, h4, r4⟩ := trodAll_cons r3
  obtain ⟨rfl, rfl, rfl⟩ := trodAll_nil r4
  obtain rfl : args = #[v0, v1, v2, v3, v4] := by cases args; simp_all
  obtain ⟨rfl, rfl⟩ := trodVars_none hV
  obtain ⟨a0, rfl, rfl, rfl, w0⟩ := open_int Try.underlying3 (hval 0 3 v0 rfl rfl) h0
  obtain ⟨a1, rfl, rfl, rfl, w1⟩ := open_int Try.underlying3 (hval 1 3 v1 rfl rfl) h1
  obtain ⟨a2, rfl, rfl, rfl, w2⟩ := open_int Try.underlying3 (hval 2 3 v2 rfl rfl) h2
  obtain ⟨a3, rfl, rfl, rfl, w3⟩ := open_int Try.underlying3 (hval 3 3 v3 rfl rfl) h3
  obtain ⟨a4, rfl, rfl, rfl, w4⟩ := open_int Try.underlying3 (hval 4 3 v4 rfl rfl) h4
  clear hA0 hval0
  simp only [List.append_nil] at hW'
  refine (walk a0 a1 a2 a3 a4 w0 w1 w2 w3 w4 W).mono fun e W' ⟨he, bel⟩ => ?_
  subst he
  exact ⟨_, rfl, _, _, _, [], _, [], hW', trodAll_mk1 (shut_bool Try.underlying4 _), (trodAll_cons_mk (shut_int Try.underlying3 w0) (trodAll_cons_mk (shut_int Try.underlying3 w1) (trodAll_cons_mk (shut_int Try.underlying3 w2) (trodAll_cons_mk (shut_int Try.underlying3 w3) (trodAll_cons_mk (shut_int Try.underlying3 w4) trodAll_mk0))))), rfl, bel.frame _, fun h => by cases h⟩

theorem over : Rows.cycleMatchesReferenceRow.holds Try.pinned (OpenSpec.ofChange Rows.cycleMatchesReferenceSpec) :=
  OpenClaim.holds_of_wide 3 Try.f3 rfl rfl rfl rfl rfl rfl rfl ⟨rfl, rfl, rfl, rfl, rfl⟩ rfl rfl rfl rfl rfl (by kernel_rfl) Try.func3 (by kernel_rfl)
    (of_decide_eq_true (by kernel_rfl)) (by unfold Func.isWrapper; first | (rw [if_pos (by decide +kernel)]; kernel_rfl) | (rw [if_neg (by decide +kernel)]; exact ⟨rfl, rfl⟩))
    (fun os started H enc _ => lifted os started H enc)

/-- The statement. -/
theorem proved : Rows.CycleMatchesReferenceSaid :=
  over
#print axioms proved
end Go.Proofs.Ytnaglaecoephnaa.cycleMatchesReference
