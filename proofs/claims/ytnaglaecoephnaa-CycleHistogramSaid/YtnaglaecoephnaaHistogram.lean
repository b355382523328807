/- Proved: for all bytes calendar, a and b and every 64-bit integer first, the law CycleHistogram of package computuslaw14 (the numbers of a histogram add up to the number of years; that of a range is the sum of those of its parts) returns true, and what was in memory is as it was. No condition. -/
import Derived.Test.YtnaglaecoephnaaKi
import Derived.Test.YtnaglaecoephnaaVy
import Derived.WalkKit
import Derived.ProofKit
import Derived.OpenShut
import Derived.ShutString
import Derived.Lib.SmallJoins
import Derived.Deep.RegionHeld3
namespace Go.Proofs.Ytnaglaecoephnaa.cycleHistogram
open Go.ChangeShapes Go.WideShapes Go.ChangeAt Go.RowKit Go.Joins
open Go.ChangeMaps (open_string shut_string)
set_option linter.unusedVariables false      -- a walk need not use every fact

set_option maxRecDepth 100000 in
set_option maxHeartbeats 1000000 in
theorem walk_a1 (u f a b : Int)
    (hu : 0 ≤ u) (hu2 : u ≤ 255) (ha : 0 ≤ a) (ha2 : a ≤ 255) (hb : 0 ≤ b) (hb2 : b ≤ 255) (hk : u % 2 = 0)
    (HI : ∀ w, Calls Try.prog 9 #[.int .i64 f] w fun e w' => e = .returned (.bool false) ∧ w = w')
    (W : World) :
    Calls Try.prog 6 #[.int .u8 u, .int .i64 f, .int .u8 a, .int .u8 b] W fun e w' => e = .returned (.bool true) ∧ Below W.heap.size W w' := by
  have S0 := Lib.hid (Below.refl W.heap.size W)
  go_enter Try.func6, Try.ntmps6
  go_wp2_with fail
  refine (c14awake_any _).mono ?_
  rintro e w1 ⟨rfl, hb1⟩
  have S1 := Lib.hid (below_on S0.out hb1)
  clear hb1
  go_wp2_with fail
  refine (HI _).mono ?_
  rintro e wq ⟨rfl, rfl⟩
  go_wp2_with fail
  refine (c14awake_any _).mono ?_
  rintro e w2 ⟨rfl, hb2⟩
  have S2 := Lib.hid (below_on S1.out hb2)
  clear hb2
  go_wp2_with fail
  go_ret
  exact ⟨rfl, S2.out⟩
set_option maxRecDepth 100000 in
set_option maxHeartbeats 1000000 in
theorem walk_b1 (u f a b : Int)
    (hu : 0 ≤ u) (hu2 : u ≤ 255) (ha : 0 ≤ a) (ha2 : a ≤ 255) (hb : 0 ≤ b) (hb2 : b ≤ 255) (hk : u % 2 = 0)
    (HI : ∀ w, Calls Try.prog 9 #[.int .i64 f] w fun e w' => e = .returned (.bool true) ∧ w = w')
    (hf : 999000000 < f)
    (W : World) :
    Calls Try.prog 6 #[.int .u8 u, .int .i64 f, .int .u8 a, .int .u8 b] W fun e w' => e = .returned (.bool true) ∧ Below W.heap.size W w' := by
  have S0 := Lib.hid (Below.refl W.heap.size W)
  go_enter Try.func6, Try.ntmps6
  go_wp2_with fail
  refine (c14awake_any _).mono ?_
  rintro e w1 ⟨rfl, hb1⟩
  have S1 := Lib.hid (below_on S0.out hb1)
  clear hb1
  go_wp2_with fail
  refine (HI _).mono ?_
  rintro e wq ⟨rfl, rfl⟩
  go_wp2_with fail
  refine (c14awake_any _).mono ?_
  rintro e w2 ⟨rfl, hb2⟩
  have S2 := Lib.hid (below_on S1.out hb2)
  clear hb2
  go_wp2_with fail
  go_ret
  exact ⟨rfl, S2.out⟩
set_option maxRecDepth 100000 in
set_option maxHeartbeats 1000000 in
theorem walk_ok1 (u f a b : Int)
    (hu : 0 ≤ u) (hu2 : u ≤ 255) (ha : 0 ≤ a) (ha2 : a ≤ 255) (hb : 0 ≤ b) (hb2 : b ≤ 255) (hk : u % 2 = 0)
    (HI : ∀ w, Calls Try.prog 9 #[.int .i64 f] w fun e w' => e = .returned (.bool true) ∧ w = w')
    (f1 : 1 ≤ f) (hf : f ≤ 999000000) (g g1 g2 sm : Nat → Int)
    (H1 : ∀ w, Calls Try.prog 11 #[.int .i64 1, .int .i64 f, .int .i64 (f + a + b + 1)] w fun e w' => e = .returned (retH g 0) ∧ Below w.heap.size w w')
    (H2 : ∀ w, Calls Try.prog 11 #[.int .i64 1, .int .i64 f, .int .i64 (f + a)] w fun e w' => e = .returned (retH g1 0) ∧ Below w.heap.size w w')
    (H3 : ∀ w, Calls Try.prog 11 #[.int .i64 1, .int .i64 (f + a + 1), .int .i64 (f + a + b + 1)] w fun e w' => e = .returned (retH g2 0) ∧ Below w.heap.size w w')
    (HG : Hid (∀ i, i < 35 → 0 ≤ g i ∧ g i ≤ 1000 ∧ 0 ≤ g1 i ∧ g1 i ≤ 1000 ∧ 0 ≤ g2 i ∧ g2 i ≤ 1000 ∧ g i = g1 i + g2 i)) (HS : Hid (sm 0 = 0 ∧ (∀ i, sm (i + 1) = sm i + g i) ∧ ∀ i, i ≤ 35 → 0 ≤ sm i ∧ sm i ≤ 21000)) (HE : Hid (sm 35 = a + b + 2))
    (W : World) :
    Calls Try.prog 6 #[.int .u8 u, .int .i64 f, .int .u8 a, .int .u8 b] W fun e w' => e = .returned (.bool true) ∧ Below W.heap.size W w' := by
  have S0 := Lib.hid (Below.refl W.heap.size W)
  have E5 := Lib.hid (show (a + b + 2 == f + a + b + 1 - f + 1) = true by rw [beq_iff_eq]; omega)
  go_enter Try.func6, Try.ntmps6
  go_wp2_with fail
  refine (c14awake_any _).mono ?_
  rintro e w1 ⟨rfl, hb1⟩
  have S1 := Lib.hid (below_on S0.out hb1)
  clear hb1
  go_wp2_with fail
  refine (HI _).mono ?_
  rintro e wq ⟨rfl, rfl⟩
  go_wp2_with fail
  refine (H1 _).mono ?_
  rintro e w2 ⟨rfl, hb2⟩
  have S2 := Lib.hid (below_on S1.out hb2)
  clear hb2
  go_wp2_with (refine store_new rfl _ _ _ rfl _ _ _ rfl rfl (infoHrow _) (hrow_size _).symm (hrow_one _) ?_)
  refine (H2 _).mono ?_
  rintro e w3 ⟨rfl, hb3⟩
  have S3 := Lib.hid (below_on (below_al_own S2.out _) hb3)
  have R1_3 := Lib.hid (row_on (heap_alloc_new _ _) hb3)
  clear hb3
  go_wp2_with (refine store_new rfl _ _ _ rfl _ _ _ rfl rfl (infoHrow _) (hrow_size _).symm (hrow_one _) ?_)
  refine (H3 _).mono ?_
  rintro e w4 ⟨rfl, hb4⟩
  have S4 := Lib.hid (below_on (below_al_own S3.out _) hb4)
  have R1_4 := Lib.hid (row_on (row_al R1_3.out _) hb4)
  have R2_4 := Lib.hid (row_on (heap_alloc_new _ _) hb4)
  clear hb4 R1_3
  go_wp2_with (refine store_new rfl _ _ _ rfl _ _ _ rfl rfl (infoHrow _) (hrow_size _).symm (hrow_one _) ?_)
  have S5 := Lib.hid (below_al_own S4.out (arrO (hrow g2)))
  have R1 := Lib.hid (row_al R1_4.out (arrO (hrow g2)))
  have R2 := Lib.hid (row_al R2_4.out (arrO (hrow g2)))
  have R3 := Lib.hid (heap_alloc_new w4 (arrO (hrow g2)))
  clear S0 S1 S2 S3 S4 R1_4 R2_4
  generalize w4.alloc (arrO (hrow g2)) = w5 at *
  go_loopw [17, 18] (fun s i wr => ∃ k : Nat, k ≤ 35 ∧ i = .int .i64 k ∧ s = .int .i64 (sm k) ∧ Below w5.heap.size w5 wr) (fun _ i _ => 35 - (intOf i).toNat)
  case atStart => exact ⟨0, by omega, rfl, by rw [HS.out.1], Below.refl _ _⟩
  case round =>
    obtain ⟨k, hk1, rfl, rfl, hbw⟩ := hrel
    have B1 := Lib.hid hbw
    clear hbw
    by_cases hlt : k < 35
    · obtain ⟨c1, q1, z1⟩ := cell_row (row_on R1.out B1.out) hlt
      obtain ⟨c2, q2, z2⟩ := cell_row (row_on R2.out B1.out) hlt
      obtain ⟨c3, q3, z3⟩ := cell_row (row_on R3.out B1.out) hlt
      obtain ⟨x1, x2, x3, x4, x5, x6, x7⟩ := HG.out k hlt
      obtain ⟨s1, s2⟩ := HS.out.2.2 k hk1
      have HN := Lib.hid (HS.out.2.1 k)
      have k0 : (0 : Int) ≤ (k : Int) := by omega
      have k1 : (k : Int) < 35 := by omega
      generalize g k = p at *
      generalize g1 k = q at *
      generalize g2 k = r at *
      generalize sm k = t at *
      have e1 : (p != q + r) = false := by rw [bne_eq_false_iff_eq]; exact x7
      have e2 : decide (p < 0) = false := decide_eq_false (by omega)
      clear x7
      go_wp2_with fail
      go_quiet (fail)
      go_wp2_with fail
      go_roundw
      case rel => exact ⟨k + 1, by omega, by go_num, by rw [HN.out], below_dn B1.out _⟩
      case measure => simp [intOf]; omega
    · obtain rfl : k = 35 := by omega
      rw [HE.out]
      have e5 := E5.out
      go_wp2_with fail
      go_ret
      exact ⟨rfl, below_on S5.out B1.out⟩
set_option maxRecDepth 100000 in
set_option maxHeartbeats 1000000 in
theorem walk_a2 (u f a b : Int)
    (hu : 0 ≤ u) (hu2 : u ≤ 255) (ha : 0 ≤ a) (ha2 : a ≤ 255) (hb : 0 ≤ b) (hb2 : b ≤ 255) (hk : u % 2 = 1)
    (HI : ∀ w, Calls Try.prog 20 #[.int .i64 f] w fun e w' => e = .returned (.bool false) ∧ w = w')
    (W : World) :
    Calls Try.prog 6 #[.int .u8 u, .int .i64 f, .int .u8 a, .int .u8 b] W fun e w' => e = .returned (.bool true) ∧ Below W.heap.size W w' := by
  have S0 := Lib.hid (Below.refl W.heap.size W)
  go_enter Try.func6, Try.ntmps6
  go_wp2_with fail
  refine (c14awake_any _).mono ?_
  rintro e w1 ⟨rfl, hb1⟩
  have S1 := Lib.hid (below_on S0.out hb1)
  clear hb1
  go_wp2_with fail
  refine (HI _).mono ?_
  rintro e wq ⟨rfl, rfl⟩
  go_wp2_with fail
  refine (c14awake_any _).mono ?_
  rintro e w2 ⟨rfl, hb2⟩
  have S2 := Lib.hid (below_on S1.out hb2)
  clear hb2
  go_wp2_with fail
  go_ret
  exact ⟨rfl, S2.out⟩
set_option maxRecDepth 100000 in
set_option maxHeartbeats 1000000 in
theorem walk_b2 (u f a b : Int)
    (hu : 0 ≤ u) (hu2 : u ≤ 255) (ha : 0 ≤ a) (ha2 : a ≤ 255) (hb : 0 ≤ b) (hb2 : b ≤ 255) (hk : u % 2 = 1)
    (HI : ∀ w, Calls Try.prog 20 #[.int .i64 f] w fun e w' => e = .returned (.bool true) ∧ w = w')
    (hf : 999000000 < f)
    (W : World) :
    Calls Try.prog 6 #[.int .u8 u, .int .i64 f, .int .u8 a, .int .u8 b] W fun e w' => e = .returned (.bool true) ∧ Below W.heap.size W w' := by
  have S0 := Lib.hid (Below.refl W.heap.size W)
  go_enter Try.func6, Try.ntmps6
  go_wp2_with fail
  refine (c14awake_any _).mono ?_
  rintro e w1 ⟨rfl, hb1⟩
  have S1 := Lib.hid (below_on S0.out hb1)
  clear hb1
  go_wp2_with fail
  refine (HI _).mono ?_
  rintro e wq ⟨rfl, rfl⟩
  go_wp2_with fail
  refine (c14awake_any _).mono ?_
  rintro e w2 ⟨rfl, hb2⟩
  have S2 := Lib.hid (below_on S1.out hb2)
  clear hb2
  go_wp2_with fail
  go_ret
  exact ⟨rfl, S2.out⟩
set_option maxRecDepth 100000 in
set_option maxHeartbeats 1000000 in
theorem walk_ok2 (u f a b : Int)
    (hu : 0 ≤ u) (hu2 : u ≤ 255) (ha : 0 ≤ a) (ha2 : a ≤ 255) (hb : 0 ≤ b) (hb2 : b ≤ 255) (hk : u % 2 = 1)
    (HI : ∀ w, Calls Try.prog 20 #[.int .i64 f] w fun e w' => e = .returned (.bool true) ∧ w = w')
    (f1 : 1 ≤ f) (hf : f ≤ 999000000) (g g1 g2 sm : Nat → Int)
    (H1 : ∀ w, Calls Try.prog 11 #[.int .i64 2, .int .i64 f, .int .i64 (f + a + b + 1)] w fun e w' => e = .returned (retH g 0) ∧ Below w.heap.size w w')
    (H2 : ∀ w, Calls Try.prog 11 #[.int .i64 2, .int .i64 f, .int .i64 (f + a)] w fun e w' => e = .returned (retH g1 0) ∧ Below w.heap.size w w')
    (H3 : ∀ w, Calls Try.prog 11 #[.int .i64 2, .int .i64 (f + a + 1), .int .i64 (f + a + b + 1)] w fun e w' => e = .returned (retH g2 0) ∧ Below w.heap.size w w')
    (HG : Hid (∀ i, i < 35 → 0 ≤ g i ∧ g i ≤ 1000 ∧ 0 ≤ g1 i ∧ g1 i ≤ 1000 ∧ 0 ≤ g2 i ∧ g2 i ≤ 1000 ∧ g i = g1 i + g2 i)) (HS : Hid (sm 0 = 0 ∧ (∀ i, sm (i + 1) = sm i + g i) ∧ ∀ i, i ≤ 35 → 0 ≤ sm i ∧ sm i ≤ 21000)) (HE : Hid (sm 35 = a + b + 2))
    (W : World) :
    Calls Try.prog 6 #[.int .u8 u, .int .i64 f, .int .u8 a, .int .u8 b] W fun e w' => e = .returned (.bool true) ∧ Below W.heap.size W w' := by
  have S0 := Lib.hid (Below.refl W.heap.size W)
  have E5 := Lib.hid (show (a + b + 2 == f + a + b + 1 - f + 1) = true by rw [beq_iff_eq]; omega)
  go_enter Try.func6, Try.ntmps6
  go_wp2_with fail
  refine (c14awake_any _).mono ?_
  rintro e w1 ⟨rfl, hb1⟩
  have S1 := Lib.hid (below_on S0.out hb1)
  clear hb1
  go_wp2_with fail
  refine (HI _).mono ?_
  rintro e wq ⟨rfl, rfl⟩
  go_wp2_with fail
  refine (H1 _).mono ?_
  rintro e w2 ⟨rfl, hb2⟩
  have S2 := Lib.hid (below_on S1.out hb2)
  clear hb2
  go_wp2_with (refine store_new rfl _ _ _ rfl _ _ _ rfl rfl (infoHrow _) (hrow_size _).symm (hrow_one _) ?_)
  refine (H2 _).mono ?_
  rintro e w3 ⟨rfl, hb3⟩
  have S3 := Lib.hid (below_on (below_al_own S2.out _) hb3)
  have R1_3 := Lib.hid (row_on (heap_alloc_new _ _) hb3)
  clear hb3
  go_wp2_with (refine store_new rfl _ _ _ rfl _ _ _ rfl rfl (infoHrow _) (hrow_size _).symm (hrow_one _) ?_)
  refine (H3 _).mono ?_
  rintro e w4 ⟨rfl, hb4⟩
  have S4 := Lib.hid (below_on (below_al_own S3.out _) hb4)
  have R1_4 := Lib.hid (row_on (row_al R1_3.out _) hb4)
  have R2_4 := Lib.hid (row_on (heap_alloc_new _ _) hb4)
  clear hb4 R1_3
  go_wp2_with (refine store_new rfl _ _ _ rfl _ _ _ rfl rfl (infoHrow _) (hrow_size _).symm (hrow_one _) ?_)
  have S5 := Lib.hid (below_al_own S4.out (arrO (hrow g2)))
  have R1 := Lib.hid (row_al R1_4.out (arrO (hrow g2)))
  have R2 := Lib.hid (row_al R2_4.out (arrO (hrow g2)))
  have R3 := Lib.hid (heap_alloc_new w4 (arrO (hrow g2)))
  clear S0 S1 S2 S3 S4 R1_4 R2_4
  generalize w4.alloc (arrO (hrow g2)) = w5 at *
  go_loopw [17, 18] (fun s i wr => ∃ k : Nat, k ≤ 35 ∧ i = .int .i64 k ∧ s = .int .i64 (sm k) ∧ Below w5.heap.size w5 wr) (fun _ i _ => 35 - (intOf i).toNat)
  case atStart => exact ⟨0, by omega, rfl, by rw [HS.out.1], Below.refl _ _⟩
  case round =>
    obtain ⟨k, hk1, rfl, rfl, hbw⟩ := hrel
    have B1 := Lib.hid hbw
    clear hbw
    by_cases hlt : k < 35
    · obtain ⟨c1, q1, z1⟩ := cell_row (row_on R1.out B1.out) hlt
      obtain ⟨c2, q2, z2⟩ := cell_row (row_on R2.out B1.out) hlt
      obtain ⟨c3, q3, z3⟩ := cell_row (row_on R3.out B1.out) hlt
      obtain ⟨x1, x2, x3, x4, x5, x6, x7⟩ := HG.out k hlt
      obtain ⟨s1, s2⟩ := HS.out.2.2 k hk1
      have HN := Lib.hid (HS.out.2.1 k)
      have k0 : (0 : Int) ≤ (k : Int) := by omega
      have k1 : (k : Int) < 35 := by omega
      generalize g k = p at *
      generalize g1 k = q at *
      generalize g2 k = r at *
      generalize sm k = t at *
      have e1 : (p != q + r) = false := by rw [bne_eq_false_iff_eq]; exact x7
      have e2 : decide (p < 0) = false := decide_eq_false (by omega)
      clear x7
      go_wp2_with fail
      go_quiet (fail)
      go_wp2_with fail
      go_roundw
      case rel => exact ⟨k + 1, by omega, by go_num, by rw [HN.out], below_dn B1.out _⟩
      case measure => simp [intOf]; omega
    · obtain rfl : k = 35 := by omega
      rw [HE.out]
      have e5 := E5.out
      go_wp2_with fail
      go_ret
      exact ⟨rfl, below_on S5.out B1.out⟩
theorem walk (u f a b : Int) (w0 : (Lit.int .u8 u).wf = true) (w1 : (Lit.int .i64 f).wf = true) (w2 : (Lit.int .u8 a).wf = true) (w3 : (Lit.int .u8 b).wf = true) (W : World) :
    Calls Try.prog 6 #[.int .u8 u, .int .i64 f, .int .u8 a, .int .u8 b] W fun e w' => e = .returned (.bool true) ∧ Below W.heap.size W w' := by
  obtain ⟨hu, hu2⟩ := bounds_u8 w0
  obtain ⟨ha, ha2⟩ := bounds_u8 w2
  obtain ⟨hb, hb2⟩ := bounds_u8 w3
  obtain ⟨na, rfl⟩ : ∃ na : Nat, a = na := ⟨a.toNat, by omega⟩
  obtain ⟨nb, rfl⟩ : ∃ nb : Nat, b = nb := ⟨b.toNat, by omega⟩
  have h01 : u % 2 = 0 ∨ u % 2 = 1 := by omega
  rcases h01 with hk | hk
  · have HI := fun w => rin_any f w
    rcases epE_in1 f with ⟨h0, y1, y2⟩ | ⟨h0, y1⟩
    · have hi : inY f = true := inY_iff.2 ⟨y1, y2⟩
      rw [hi] at HI
      by_cases hf : 999000000 < f
      · exact walk_b1 u f na nb hu hu2 ha ha2 hb hb2 hk HI hf W
      · have hl : epE 1 (f + na + nb + 1) = 0 := by
          rcases epE_in1 (f + na + nb + 1) with r | r
          · exact r.1
          · omega
        have hm : epE 1 (f + na) = 0 := epE_mid h0 hl (by omega) (by omega)
        have hm2 : epE 1 (f + na + 1) = 0 := epE_mid h0 hl (by omega) (by omega)
        have H1 := fun w => khist_ok 1 f (f + na + nb + 1) w (na + 1 + (nb + 1)) (rgE_of h0 hl (by omega) (by omega)) (by omega)
        have H2 := fun w => khist_ok 1 f (f + na) w (na + 1) (rgE_of h0 hm (by omega) (by omega)) (by omega)
        have H3 := fun w => khist_ok 1 (f + na + 1) (f + na + nb + 1) w (nb + 1) (rgE_of hm2 hl (by omega) (by omega)) (by omega)
        have HG : ∀ i, i < 35 → 0 ≤ hcn 1 f (na + 1 + (nb + 1)) i ∧ hcn 1 f (na + 1 + (nb + 1)) i ≤ 1000 ∧ 0 ≤ hcn 1 f (na + 1) i ∧ hcn 1 f (na + 1) i ≤ 1000 ∧ 0 ≤ hcn 1 (f + na + 1) (nb + 1) i ∧ hcn 1 (f + na + 1) (nb + 1) i ≤ 1000 ∧ hcn 1 f (na + 1 + (nb + 1)) i = hcn 1 f (na + 1) i + hcn 1 (f + na + 1) (nb + 1) i := fun i _ => by
          have e1 := hcn_bd 1 f (na + 1 + (nb + 1)) i
          have e2 := hcn_bd 1 f (na + 1) i
          have e3 := hcn_bd 1 (f + na + 1) (nb + 1) i
          have e4 := hcn_add 1 f (na + 1) (nb + 1) i
          rw [show f + ((na + 1 : Nat) : Int) = f + na + 1 by omega] at e4
          refine ⟨e1.1, by omega, e2.1, by omega, e3.1, by omega, e4⟩
        exact walk_ok1 u f na nb hu hu2 ha ha2 hb hb2 hk HI (by omega) (by omega) _ _ _ (smm 1 f (na + 1 + (nb + 1))) H1 H2 H3 (Lib.hid HG) (Lib.hid ⟨rfl, fun i => rfl, fun i hi => smm_le _ i (by omega) hi⟩) (Lib.hid (by rw [smm_all (.inl rfl)]; omega)) W
    · have hi : inY f = false := by
        rw [← Bool.not_eq_true, inY_iff]; exact y1
      rw [hi] at HI
      exact walk_a1 u f na nb hu hu2 ha ha2 hb hb2 hk HI W
  · have HI := fun w => rgre_any f w
    rcases epE_in2 f with ⟨h0, y1, y2⟩ | ⟨h0, y1⟩
    · have hi : inG f = true := inG_iff.2 ⟨y1, y2⟩
      rw [hi] at HI
      by_cases hf : 999000000 < f
      · exact walk_b2 u f na nb hu hu2 ha ha2 hb hb2 hk HI hf W
      · have hl : epE 2 (f + na + nb + 1) = 0 := by
          rcases epE_in2 (f + na + nb + 1) with r | r
          · exact r.1
          · omega
        have hm : epE 2 (f + na) = 0 := epE_mid h0 hl (by omega) (by omega)
        have hm2 : epE 2 (f + na + 1) = 0 := epE_mid h0 hl (by omega) (by omega)
        have H1 := fun w => khist_ok 2 f (f + na + nb + 1) w (na + 1 + (nb + 1)) (rgE_of h0 hl (by omega) (by omega)) (by omega)
        have H2 := fun w => khist_ok 2 f (f + na) w (na + 1) (rgE_of h0 hm (by omega) (by omega)) (by omega)
        have H3 := fun w => khist_ok 2 (f + na + 1) (f + na + nb + 1) w (nb + 1) (rgE_of hm2 hl (by omega) (by omega)) (by omega)
        have HG : ∀ i, i < 35 → 0 ≤ hcn 2 f (na + 1 + (nb + 1)) i ∧ hcn 2 f (na + 1 + (nb + 1)) i ≤ 1000 ∧ 0 ≤ hcn 2 f (na + 1) i ∧ hcn 2 f (na + 1) i ≤ 1000 ∧ 0 ≤ hcn 2 (f + na + 1) (nb + 1) i ∧ hcn 2 (f + na + 1) (nb + 1) i ≤ 1000 ∧ hcn 2 f (na + 1 + (nb + 1)) i = hcn 2 f (na + 1) i + hcn 2 (f + na + 1) (nb + 1) i := fun i _ => by
          have e1 := hcn_bd 2 f (na + 1 + (nb + 1)) i
          have e2 := hcn_bd 2 f (na + 1) i
          have e3 := hcn_bd 2 (f + na + 1) (nb + 1) i
          have e4 := hcn_add 2 f (na + 1) (nb + 1) i
          rw [show f + ((na + 1 : Nat) : Int) = f + na + 1 by omega] at e4
          refine ⟨e1.1, by omega, e2.1, by omega, e3.1, by omega, e4⟩
        exact walk_ok2 u f na nb hu hu2 ha ha2 hb hb2 hk HI (by omega) (by omega) _ _ _ (smm 2 f (na + 1 + (nb + 1))) H1 H2 H3 (Lib.hid HG) (Lib.hid ⟨rfl, fun i => rfl, fun i hi => smm_le _ i (by omega) hi⟩) (Lib.hid (by rw [smm_all (.inr rfl)]; omega)) W
    · have hi : inG f = false := by
        rw [← Bool.not_eq_true, inG_iff]; exact y1
      rw [hi] at HI
      exact walk_a2 u f na nb hu hu2 ha ha2 hb hb2 hk HI W

/-! ### the row's step -/
set_option maxRecDepth 100000 in
theorem lifted (os : Os) (started : os.Started) (H : Type) (enc : TypeId × Value → H) :
    ReturnsInHanded {} Try.checked os 6 .any (Rows.cycleHistogramSpec.pre6 enc Try.prog Try.f6 Rows.cycleHistogramRow.domain false) (Rows.cycleHistogramSpec.post enc Try.prog Try.f6 false true false false) := by
  refine returnsInHanded_of_change (C := Try.checked) own started (by kernel_rfl) Try.func6
    (ChangeSpec.witness6 (enc := enc) (C := Try.checked) false ⟨#[], #[.int .u8 0, .int .i64 0, .int .u8 0, .int .u8 0], []⟩ 8 (by kernel_rfl) (by kernel_rfl) (by kernel_rfl) (by kernel_rfl)) ?_
  intro W base args ds gs before hval0 hW hcnd _
  have hval : ∀ (j : Nat) t v, Try.f6.params[j]? = some t → args[j]? = some v → Value.okWide Try.prog W .any base t v := hval0
  have hW' := hW
  obtain ⟨p, q, hA0, hV, rfl, hfz, hnd⟩ := hW
  have hA : DataW.TrodAll enc Try.prog W 0 (fun _ => true) true Try.f6.params.toList args.toList ds p := hA0
  rw [Try.params6] at hA hval
  obtain ⟨v0, vs0, d0, ds0, p0, q0, hargs, rfl, rfl, h0, r0⟩ := trodAll_cons hA
  obtain ⟨v1, vs1, d1, ds1, p1, q1, rfl, rfl, rfl, h1, r1⟩ := trodAll_cons r0
  obtain ⟨v2, vs2, d2, ds2, p2, q2, rfl, rfl, rfl, h2, r2⟩ := trodAll_cons r1
  obtain ⟨v3, vs3, d3, ds3, p3, q3, rfl, rfl, rfl, h3, r3⟩ := trodAll_cons r2
  obtain ⟨rfl, rfl, rfl⟩ := trodAll_nil r3
  obtain rfl : args = #[v0, v1, v2, v3] := by cases args; simp_all
  obtain ⟨rfl, rfl⟩ := trodVars_none hV
  obtain ⟨a0, rfl, rfl, rfl, w0⟩ := open_int Try.underlying5 (hval 0 5 v0 rfl rfl) h0
  obtain ⟨a1, rfl, rfl, rfl, w1⟩ := open_int Try.underlying3 (hval 1 3 v1 rfl rfl) h1
  obtain ⟨a2, rfl, rfl, rfl, w2⟩ := open_int Try.underlying5 (hval 2 5 v2 rfl rfl) h2
  obtain ⟨a3, rfl, rfl, rfl, w3⟩ := open_int Try.underlying5 (hval 3 5 v3 rfl rfl) h3
  clear hA0 hval0
  simp only [List.append_nil] at hW'
  refine (walk a0 a1 a2 a3 w0 w1 w2 w3 W).mono fun e W' ⟨he, bel⟩ => ?_
  subst he
  exact ⟨_, rfl, _, _, _, [], _, [], hW', trodAll_mk1 (shut_bool Try.underlying4 _), (trodAll_cons_mk (shut_int Try.underlying5 w0) (trodAll_cons_mk (shut_int Try.underlying3 w1) (trodAll_cons_mk (shut_int Try.underlying5 w2) (trodAll_cons_mk (shut_int Try.underlying5 w3) trodAll_mk0)))), rfl, bel.frame _, fun h => by cases h⟩

theorem over : Rows.cycleHistogramRow.holds Try.pinned (OpenSpec.ofChange Rows.cycleHistogramSpec) :=
  OpenClaim.holds_of_wide 6 Try.f6 rfl rfl rfl rfl rfl rfl rfl ⟨rfl, rfl, rfl, rfl, rfl⟩ rfl rfl rfl rfl rfl (by kernel_rfl) Try.func6 (by kernel_rfl)
    (of_decide_eq_true (by kernel_rfl)) (by unfold Func.isWrapper; first | (rw [if_pos (by decide +kernel)]; kernel_rfl) | (rw [if_neg (by decide +kernel)]; exact ⟨rfl, rfl⟩))
    (fun os started H enc _ => lifted os started H enc)

/-- The statement. -/
theorem proved : Rows.CycleHistogramSaid :=
  over
#print axioms proved
end Go.Proofs.Ytnaglaecoephnaa.cycleHistogram
