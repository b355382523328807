/- The contracts of package computusref11: the same answers as package gauss's. -/
import Derived.Test.YtoiiajmdfkgcbaaUc
import Derived.Test.YtoiiajmdfkgcbaaKe
namespace Go.Proofs.Ytoiiajmdfkgcbaa
open Go.RowKit

theorem rmod_pos (a b : Int) (w : World) (ha : inR a = true) (hb : 0 < b) (hb2 : inR b = true) : Calls Try.prog 17 #[.int .i64 a, .int .i64 b] w fun e w' => e = .returned (.int .i64 (a % b)) ∧ w = w' := by
  have := rmod_any a b w ha hb2 (spl_pos a b hb)
  rwa [Int.fmod_eq_emod_of_nonneg _ (by omega)] at this
theorem rdiv_pos (a b : Int) (w : World) (ha : inR a = true) (hb : 0 < b) : Calls Try.prog 16 #[.int .i64 a, .int .i64 b] w fun e w' => e = .returned (.int .i64 (a / b)) ∧ w = w' := by
  have := rdiv_any a b w ha (spl_pos a b hb)
  rwa [Int.fdiv_eq_ediv_of_nonneg _ (by omega)] at this
abbrev riv (M N D E X : Int) : Obj := .cells #[.int .i64 M, .int .i64 N, .int .i64 D, .int .i64 E, .int .i64 X] 33 (0, 0)
abbrev rsv (M N D E X : Int) : Value := .agg #[.int .i64 M, .int .i64 N, .int .i64 D, .int .i64 E, .int .i64 X]
section
variable (y : Int) (W : World)
theorem r11tr1 (D E a b f : Int) (a1 : 0 ≤ a) (a2 : a ≤ 18) (b1 : 0 ≤ b) (b2 : b ≤ 3) (f1 : 0 ≤ f) (f2 : f ≤ 6) (d1 : 0 ≤ D) (d2 : D ≤ 29)
    (H1 : ∀ w, Calls Try.prog 17 #[.int .i64 y, .int .i64 19] w fun e w' => e = .returned (.int .i64 (a)) ∧ w = w') (H2 : ∀ w, Calls Try.prog 17 #[.int .i64 y, .int .i64 4] w fun e w' => e = .returned (.int .i64 (b)) ∧ w = w') (H3 : ∀ w, Calls Try.prog 17 #[.int .i64 y, .int .i64 7] w fun e w' => e = .returned (.int .i64 (f)) ∧ w = w')
    (H4 : ∀ w, Calls Try.prog 17 #[.int .i64 (19 * a + 15), .int .i64 30] w fun e w' => e = .returned (.int .i64 (D)) ∧ w = w') (H5 : ∀ w, Calls Try.prog 17 #[.int .i64 (2 * b + 4 * f + 6 * D + 6), .int .i64 7] w fun e w' => e = .returned (.int .i64 (E)) ∧ w = w') :
    Calls Try.prog 10 #[.int .i64 1, .int .i64 y] W fun e w' => e = .returned (rsv 15 6 D E 0) ∧ Below W.heap.size W w' := by
  go_enter Try.func10, Try.ntmps10
  go_wp2_with fail
  refine (H1 _).mono ?_
  rintro e w' ⟨rfl, rfl⟩
  go_wp2_with fail
  refine (H2 _).mono ?_
  rintro e w' ⟨rfl, rfl⟩
  go_wp2_with fail
  refine (H3 _).mono ?_
  rintro e w' ⟨rfl, rfl⟩
  go_wp2_with fail
  refine (H4 _).mono ?_
  rintro e w' ⟨rfl, rfl⟩
  go_wp2_with fail
  refine (H5 _).mono ?_
  rintro e w' ⟨rfl, rfl⟩
  go_wp2_with fail
  exact bodyPost_ret (v := rsv 15 6 D E 0) (by simp [results, Try.results10, go_sem]) rfl ⟨rfl, ((Below.refl _ _).alloc (Nat.le_refl _) _).alloc (by simp) _⟩
set_option maxHeartbeats 800000 in
theorem r11tr2a (M N a b f k p q : Int) (a1 : 0 ≤ a) (a2 : a ≤ 18) (b1 : 0 ≤ b) (b2 : b ≤ 3) (f1 : 0 ≤ f) (f2 : f ≤ 6) (m1 : 0 ≤ M) (m2 : M ≤ 29) (n1 : 0 ≤ N) (n2 : N ≤ 6) (k1 : 0 ≤ k) (k2 : k ≤ 10000000) (p1 : 0 ≤ p) (p2 : p ≤ 10000000) (q1 : 0 ≤ q) (q2 : q ≤ 10000000)
    (HK : ∀ w, Calls Try.prog 16 #[.int .i64 y, .int .i64 100] w fun e w' => e = .returned (.int .i64 (k)) ∧ w = w') (HP : ∀ w, Calls Try.prog 16 #[.int .i64 (13 + 8 * k), .int .i64 25] w fun e w' => e = .returned (.int .i64 (p)) ∧ w = w') (HQ : ∀ w, Calls Try.prog 16 #[.int .i64 k, .int .i64 4] w fun e w' => e = .returned (.int .i64 (q)) ∧ w = w')
    (HM : ∀ w, Calls Try.prog 17 #[.int .i64 (15 - p + k - q), .int .i64 30] w fun e w' => e = .returned (.int .i64 (M)) ∧ w = w') (HN : ∀ w, Calls Try.prog 17 #[.int .i64 (4 + k - q), .int .i64 7] w fun e w' => e = .returned (.int .i64 (N)) ∧ w = w')
    (H1 : ∀ w, Calls Try.prog 17 #[.int .i64 y, .int .i64 19] w fun e w' => e = .returned (.int .i64 (a)) ∧ w = w') (H2 : ∀ w, Calls Try.prog 17 #[.int .i64 y, .int .i64 4] w fun e w' => e = .returned (.int .i64 (b)) ∧ w = w') (H3 : ∀ w, Calls Try.prog 17 #[.int .i64 y, .int .i64 7] w fun e w' => e = .returned (.int .i64 (f)) ∧ w = w')
    (H4 : ∀ w, Calls Try.prog 17 #[.int .i64 (19 * a + M), .int .i64 30] w fun e w' => e = .returned (.int .i64 (29)) ∧ w = w') (H5 : ∀ w, Calls Try.prog 17 #[.int .i64 (2 * b + 4 * f + 174 + N), .int .i64 7] w fun e w' => e = .returned (.int .i64 (6)) ∧ w = w') :
    Calls Try.prog 10 #[.int .i64 2, .int .i64 y] W fun e w' => e = .returned (rsv M N 29 6 1) ∧ Below W.heap.size W w' := by
  go_enter Try.func10, Try.ntmps10
  go_wp2_with fail
  refine (HK _).mono ?_
  rintro e w' ⟨rfl, rfl⟩
  go_wp2_with fail
  refine (HP _).mono ?_
  rintro e w' ⟨rfl, rfl⟩
  go_wp2_with fail
  refine (HQ _).mono ?_
  rintro e w' ⟨rfl, rfl⟩
  go_wp2_with fail
  refine (HM _).mono ?_
  rintro e w' ⟨rfl, rfl⟩
  go_wp2_with fail
  refine (HN _).mono ?_
  rintro e w' ⟨rfl, rfl⟩
  go_wp2_with fail
  refine (H1 _).mono ?_
  rintro e w' ⟨rfl, rfl⟩
  go_wp2_with fail
  refine (H2 _).mono ?_
  rintro e w' ⟨rfl, rfl⟩
  go_wp2_with fail
  refine (H3 _).mono ?_
  rintro e w' ⟨rfl, rfl⟩
  go_wp2_with fail
  refine (H4 _).mono ?_
  rintro e w' ⟨rfl, rfl⟩
  go_wp2_with fail
  refine (H5 _).mono ?_
  rintro e w' ⟨rfl, rfl⟩
  go_wp2_with fail
  exact bodyPost_ret (v := rsv M N 29 6 1) (by simp [results, Try.results10, go_sem]) rfl ⟨rfl, ((Below.refl _ _).alloc (Nat.le_refl _) _).alloc (by simp) _⟩
set_option maxHeartbeats 800000 in
theorem r11tr2b (M N E a b f k p q : Int) (a1 : 0 ≤ a) (a2 : a ≤ 18) (b1 : 0 ≤ b) (b2 : b ≤ 3) (f1 : 0 ≤ f) (f2 : f ≤ 6) (m1 : 0 ≤ M) (m2 : M ≤ 29) (n1 : 0 ≤ N) (n2 : N ≤ 6) (k1 : 0 ≤ k) (k2 : k ≤ 10000000) (p1 : 0 ≤ p) (p2 : p ≤ 10000000) (q1 : 0 ≤ q) (q2 : q ≤ 10000000) (g : ¬ E = 6)
    (HK : ∀ w, Calls Try.prog 16 #[.int .i64 y, .int .i64 100] w fun e w' => e = .returned (.int .i64 (k)) ∧ w = w') (HP : ∀ w, Calls Try.prog 16 #[.int .i64 (13 + 8 * k), .int .i64 25] w fun e w' => e = .returned (.int .i64 (p)) ∧ w = w') (HQ : ∀ w, Calls Try.prog 16 #[.int .i64 k, .int .i64 4] w fun e w' => e = .returned (.int .i64 (q)) ∧ w = w')
    (HM : ∀ w, Calls Try.prog 17 #[.int .i64 (15 - p + k - q), .int .i64 30] w fun e w' => e = .returned (.int .i64 (M)) ∧ w = w') (HN : ∀ w, Calls Try.prog 17 #[.int .i64 (4 + k - q), .int .i64 7] w fun e w' => e = .returned (.int .i64 (N)) ∧ w = w')
    (H1 : ∀ w, Calls Try.prog 17 #[.int .i64 y, .int .i64 19] w fun e w' => e = .returned (.int .i64 (a)) ∧ w = w') (H2 : ∀ w, Calls Try.prog 17 #[.int .i64 y, .int .i64 4] w fun e w' => e = .returned (.int .i64 (b)) ∧ w = w') (H3 : ∀ w, Calls Try.prog 17 #[.int .i64 y, .int .i64 7] w fun e w' => e = .returned (.int .i64 (f)) ∧ w = w')
    (H4 : ∀ w, Calls Try.prog 17 #[.int .i64 (19 * a + M), .int .i64 30] w fun e w' => e = .returned (.int .i64 (29)) ∧ w = w') (H5 : ∀ w, Calls Try.prog 17 #[.int .i64 (2 * b + 4 * f + 174 + N), .int .i64 7] w fun e w' => e = .returned (.int .i64 (E)) ∧ w = w') :
    Calls Try.prog 10 #[.int .i64 2, .int .i64 y] W fun e w' => e = .returned (rsv M N 29 E 0) ∧ Below W.heap.size W w' := by
  go_enter Try.func10, Try.ntmps10
  go_wp2_with fail
  refine (HK _).mono ?_
  rintro e w' ⟨rfl, rfl⟩
  go_wp2_with fail
  refine (HP _).mono ?_
  rintro e w' ⟨rfl, rfl⟩
  go_wp2_with fail
  refine (HQ _).mono ?_
  rintro e w' ⟨rfl, rfl⟩
  go_wp2_with fail
  refine (HM _).mono ?_
  rintro e w' ⟨rfl, rfl⟩
  go_wp2_with fail
  refine (HN _).mono ?_
  rintro e w' ⟨rfl, rfl⟩
  go_wp2_with fail
  refine (H1 _).mono ?_
  rintro e w' ⟨rfl, rfl⟩
  go_wp2_with fail
  refine (H2 _).mono ?_
  rintro e w' ⟨rfl, rfl⟩
  go_wp2_with fail
  refine (H3 _).mono ?_
  rintro e w' ⟨rfl, rfl⟩
  go_wp2_with fail
  refine (H4 _).mono ?_
  rintro e w' ⟨rfl, rfl⟩
  go_wp2_with fail
  refine (H5 _).mono ?_
  rintro e w' ⟨rfl, rfl⟩
  go_wp2_with fail
  exact bodyPost_ret (v := rsv M N 29 E 0) (by simp [results, Try.results10, go_sem]) rfl ⟨rfl, ((Below.refl _ _).alloc (Nat.le_refl _) _).alloc (by simp) _⟩
set_option maxHeartbeats 800000 in
theorem r11tr2c (M N a b f k p q z : Int) (a1 : 0 ≤ a) (a2 : a ≤ 18) (b1 : 0 ≤ b) (b2 : b ≤ 3) (f1 : 0 ≤ f) (f2 : f ≤ 6) (m1 : 0 ≤ M) (m2 : M ≤ 29) (n1 : 0 ≤ N) (n2 : N ≤ 6) (k1 : 0 ≤ k) (k2 : k ≤ 10000000) (p1 : 0 ≤ p) (p2 : p ≤ 10000000) (q1 : 0 ≤ q) (q2 : q ≤ 10000000) (g : z < 19)
    (HK : ∀ w, Calls Try.prog 16 #[.int .i64 y, .int .i64 100] w fun e w' => e = .returned (.int .i64 (k)) ∧ w = w') (HP : ∀ w, Calls Try.prog 16 #[.int .i64 (13 + 8 * k), .int .i64 25] w fun e w' => e = .returned (.int .i64 (p)) ∧ w = w') (HQ : ∀ w, Calls Try.prog 16 #[.int .i64 k, .int .i64 4] w fun e w' => e = .returned (.int .i64 (q)) ∧ w = w')
    (HM : ∀ w, Calls Try.prog 17 #[.int .i64 (15 - p + k - q), .int .i64 30] w fun e w' => e = .returned (.int .i64 (M)) ∧ w = w') (HN : ∀ w, Calls Try.prog 17 #[.int .i64 (4 + k - q), .int .i64 7] w fun e w' => e = .returned (.int .i64 (N)) ∧ w = w')
    (H1 : ∀ w, Calls Try.prog 17 #[.int .i64 y, .int .i64 19] w fun e w' => e = .returned (.int .i64 (a)) ∧ w = w') (H2 : ∀ w, Calls Try.prog 17 #[.int .i64 y, .int .i64 4] w fun e w' => e = .returned (.int .i64 (b)) ∧ w = w') (H3 : ∀ w, Calls Try.prog 17 #[.int .i64 y, .int .i64 7] w fun e w' => e = .returned (.int .i64 (f)) ∧ w = w')
    (H4 : ∀ w, Calls Try.prog 17 #[.int .i64 (19 * a + M), .int .i64 30] w fun e w' => e = .returned (.int .i64 (28)) ∧ w = w') (H5 : ∀ w, Calls Try.prog 17 #[.int .i64 (2 * b + 4 * f + 168 + N), .int .i64 7] w fun e w' => e = .returned (.int .i64 (6)) ∧ w = w') (H6 : ∀ w, Calls Try.prog 17 #[.int .i64 (11 * M + 11), .int .i64 30] w fun e w' => e = .returned (.int .i64 (z)) ∧ w = w') :
    Calls Try.prog 10 #[.int .i64 2, .int .i64 y] W fun e w' => e = .returned (rsv M N 28 6 2) ∧ Below W.heap.size W w' := by
  go_enter Try.func10, Try.ntmps10
  go_wp2_with fail
  refine (HK _).mono ?_
  rintro e w' ⟨rfl, rfl⟩
  go_wp2_with fail
  refine (HP _).mono ?_
  rintro e w' ⟨rfl, rfl⟩
  go_wp2_with fail
  refine (HQ _).mono ?_
  rintro e w' ⟨rfl, rfl⟩
  go_wp2_with fail
  refine (HM _).mono ?_
  rintro e w' ⟨rfl, rfl⟩
  go_wp2_with fail
  refine (HN _).mono ?_
  rintro e w' ⟨rfl, rfl⟩
  go_wp2_with fail
  refine (H1 _).mono ?_
  rintro e w' ⟨rfl, rfl⟩
  go_wp2_with fail
  refine (H2 _).mono ?_
  rintro e w' ⟨rfl, rfl⟩
  go_wp2_with fail
  refine (H3 _).mono ?_
  rintro e w' ⟨rfl, rfl⟩
  go_wp2_with fail
  refine (H4 _).mono ?_
  rintro e w' ⟨rfl, rfl⟩
  go_wp2_with fail
  refine (H5 _).mono ?_
  rintro e w' ⟨rfl, rfl⟩
  go_wp2_with fail
  refine (H6 _).mono ?_
  rintro e w' ⟨rfl, rfl⟩
  go_wp2_with fail
  exact bodyPost_ret (v := rsv M N 28 6 2) (by simp [results, Try.results10, go_sem]) rfl ⟨rfl, ((Below.refl _ _).alloc (Nat.le_refl _) _).alloc (by simp) _⟩
set_option maxHeartbeats 800000 in
theorem r11tr2d (M N a b f k p q z : Int) (a1 : 0 ≤ a) (a2 : a ≤ 18) (b1 : 0 ≤ b) (b2 : b ≤ 3) (f1 : 0 ≤ f) (f2 : f ≤ 6) (m1 : 0 ≤ M) (m2 : M ≤ 29) (n1 : 0 ≤ N) (n2 : N ≤ 6) (k1 : 0 ≤ k) (k2 : k ≤ 10000000) (p1 : 0 ≤ p) (p2 : p ≤ 10000000) (q1 : 0 ≤ q) (q2 : q ≤ 10000000) (g : ¬ z < 19)
    (HK : ∀ w, Calls Try.prog 16 #[.int .i64 y, .int .i64 100] w fun e w' => e = .returned (.int .i64 (k)) ∧ w = w') (HP : ∀ w, Calls Try.prog 16 #[.int .i64 (13 + 8 * k), .int .i64 25] w fun e w' => e = .returned (.int .i64 (p)) ∧ w = w') (HQ : ∀ w, Calls Try.prog 16 #[.int .i64 k, .int .i64 4] w fun e w' => e = .returned (.int .i64 (q)) ∧ w = w')
    (HM : ∀ w, Calls Try.prog 17 #[.int .i64 (15 - p + k - q), .int .i64 30] w fun e w' => e = .returned (.int .i64 (M)) ∧ w = w') (HN : ∀ w, Calls Try.prog 17 #[.int .i64 (4 + k - q), .int .i64 7] w fun e w' => e = .returned (.int .i64 (N)) ∧ w = w')
    (H1 : ∀ w, Calls Try.prog 17 #[.int .i64 y, .int .i64 19] w fun e w' => e = .returned (.int .i64 (a)) ∧ w = w') (H2 : ∀ w, Calls Try.prog 17 #[.int .i64 y, .int .i64 4] w fun e w' => e = .returned (.int .i64 (b)) ∧ w = w') (H3 : ∀ w, Calls Try.prog 17 #[.int .i64 y, .int .i64 7] w fun e w' => e = .returned (.int .i64 (f)) ∧ w = w')
    (H4 : ∀ w, Calls Try.prog 17 #[.int .i64 (19 * a + M), .int .i64 30] w fun e w' => e = .returned (.int .i64 (28)) ∧ w = w') (H5 : ∀ w, Calls Try.prog 17 #[.int .i64 (2 * b + 4 * f + 168 + N), .int .i64 7] w fun e w' => e = .returned (.int .i64 (6)) ∧ w = w') (H6 : ∀ w, Calls Try.prog 17 #[.int .i64 (11 * M + 11), .int .i64 30] w fun e w' => e = .returned (.int .i64 (z)) ∧ w = w') :
    Calls Try.prog 10 #[.int .i64 2, .int .i64 y] W fun e w' => e = .returned (rsv M N 28 6 0) ∧ Below W.heap.size W w' := by
  go_enter Try.func10, Try.ntmps10
  go_wp2_with fail
  refine (HK _).mono ?_
  rintro e w' ⟨rfl, rfl⟩
  go_wp2_with fail
  refine (HP _).mono ?_
  rintro e w' ⟨rfl, rfl⟩
  go_wp2_with fail
  refine (HQ _).mono ?_
  rintro e w' ⟨rfl, rfl⟩
  go_wp2_with fail
  refine (HM _).mono ?_
  rintro e w' ⟨rfl, rfl⟩
  go_wp2_with fail
  refine (HN _).mono ?_
  rintro e w' ⟨rfl, rfl⟩
  go_wp2_with fail
  refine (H1 _).mono ?_
  rintro e w' ⟨rfl, rfl⟩
  go_wp2_with fail
  refine (H2 _).mono ?_
  rintro e w' ⟨rfl, rfl⟩
  go_wp2_with fail
  refine (H3 _).mono ?_
  rintro e w' ⟨rfl, rfl⟩
  go_wp2_with fail
  refine (H4 _).mono ?_
  rintro e w' ⟨rfl, rfl⟩
  go_wp2_with fail
  refine (H5 _).mono ?_
  rintro e w' ⟨rfl, rfl⟩
  go_wp2_with fail
  refine (H6 _).mono ?_
  rintro e w' ⟨rfl, rfl⟩
  go_wp2_with fail
  exact bodyPost_ret (v := rsv M N 28 6 0) (by simp [results, Try.results10, go_sem]) rfl ⟨rfl, ((Below.refl _ _).alloc (Nat.le_refl _) _).alloc (by simp) _⟩
set_option maxHeartbeats 800000 in
theorem r11tr2e (M N E a b f k p q : Int) (a1 : 0 ≤ a) (a2 : a ≤ 18) (b1 : 0 ≤ b) (b2 : b ≤ 3) (f1 : 0 ≤ f) (f2 : f ≤ 6) (m1 : 0 ≤ M) (m2 : M ≤ 29) (n1 : 0 ≤ N) (n2 : N ≤ 6) (k1 : 0 ≤ k) (k2 : k ≤ 10000000) (p1 : 0 ≤ p) (p2 : p ≤ 10000000) (q1 : 0 ≤ q) (q2 : q ≤ 10000000) (g : ¬ E = 6)
    (HK : ∀ w, Calls Try.prog 16 #[.int .i64 y, .int .i64 100] w fun e w' => e = .returned (.int .i64 (k)) ∧ w = w') (HP : ∀ w, Calls Try.prog 16 #[.int .i64 (13 + 8 * k), .int .i64 25] w fun e w' => e = .returned (.int .i64 (p)) ∧ w = w') (HQ : ∀ w, Calls Try.prog 16 #[.int .i64 k, .int .i64 4] w fun e w' => e = .returned (.int .i64 (q)) ∧ w = w')
    (HM : ∀ w, Calls Try.prog 17 #[.int .i64 (15 - p + k - q), .int .i64 30] w fun e w' => e = .returned (.int .i64 (M)) ∧ w = w') (HN : ∀ w, Calls Try.prog 17 #[.int .i64 (4 + k - q), .int .i64 7] w fun e w' => e = .returned (.int .i64 (N)) ∧ w = w')
    (H1 : ∀ w, Calls Try.prog 17 #[.int .i64 y, .int .i64 19] w fun e w' => e = .returned (.int .i64 (a)) ∧ w = w') (H2 : ∀ w, Calls Try.prog 17 #[.int .i64 y, .int .i64 4] w fun e w' => e = .returned (.int .i64 (b)) ∧ w = w') (H3 : ∀ w, Calls Try.prog 17 #[.int .i64 y, .int .i64 7] w fun e w' => e = .returned (.int .i64 (f)) ∧ w = w')
    (H4 : ∀ w, Calls Try.prog 17 #[.int .i64 (19 * a + M), .int .i64 30] w fun e w' => e = .returned (.int .i64 (28)) ∧ w = w') (H5 : ∀ w, Calls Try.prog 17 #[.int .i64 (2 * b + 4 * f + 168 + N), .int .i64 7] w fun e w' => e = .returned (.int .i64 (E)) ∧ w = w') :
    Calls Try.prog 10 #[.int .i64 2, .int .i64 y] W fun e w' => e = .returned (rsv M N 28 E 0) ∧ Below W.heap.size W w' := by
  go_enter Try.func10, Try.ntmps10
  go_wp2_with fail
  refine (HK _).mono ?_
  rintro e w' ⟨rfl, rfl⟩
  go_wp2_with fail
  refine (HP _).mono ?_
  rintro e w' ⟨rfl, rfl⟩
  go_wp2_with fail
  refine (HQ _).mono ?_
  rintro e w' ⟨rfl, rfl⟩
  go_wp2_with fail
  refine (HM _).mono ?_
  rintro e w' ⟨rfl, rfl⟩
  go_wp2_with fail
  refine (HN _).mono ?_
  rintro e w' ⟨rfl, rfl⟩
  go_wp2_with fail
  refine (H1 _).mono ?_
  rintro e w' ⟨rfl, rfl⟩
  go_wp2_with fail
  refine (H2 _).mono ?_
  rintro e w' ⟨rfl, rfl⟩
  go_wp2_with fail
  refine (H3 _).mono ?_
  rintro e w' ⟨rfl, rfl⟩
  go_wp2_with fail
  refine (H4 _).mono ?_
  rintro e w' ⟨rfl, rfl⟩
  go_wp2_with fail
  refine (H5 _).mono ?_
  rintro e w' ⟨rfl, rfl⟩
  go_wp2_with fail
  exact bodyPost_ret (v := rsv M N 28 E 0) (by simp [results, Try.results10, go_sem]) rfl ⟨rfl, ((Below.refl _ _).alloc (Nat.le_refl _) _).alloc (by simp) _⟩
set_option maxHeartbeats 800000 in
theorem r11tr2f (M N D E a b f k p q : Int) (a1 : 0 ≤ a) (a2 : a ≤ 18) (b1 : 0 ≤ b) (b2 : b ≤ 3) (f1 : 0 ≤ f) (f2 : f ≤ 6) (m1 : 0 ≤ M) (m2 : M ≤ 29) (n1 : 0 ≤ N) (n2 : N ≤ 6) (k1 : 0 ≤ k) (k2 : k ≤ 10000000) (p1 : 0 ≤ p) (p2 : p ≤ 10000000) (q1 : 0 ≤ q) (q2 : q ≤ 10000000) (d1 : 0 ≤ D) (d2 : D ≤ 29) (g1 : ¬ D = 29) (g2 : ¬ D = 28)
    (HK : ∀ w, Calls Try.prog 16 #[.int .i64 y, .int .i64 100] w fun e w' => e = .returned (.int .i64 (k)) ∧ w = w') (HP : ∀ w, Calls Try.prog 16 #[.int .i64 (13 + 8 * k), .int .i64 25] w fun e w' => e = .returned (.int .i64 (p)) ∧ w = w') (HQ : ∀ w, Calls Try.prog 16 #[.int .i64 k, .int .i64 4] w fun e w' => e = .returned (.int .i64 (q)) ∧ w = w')
    (HM : ∀ w, Calls Try.prog 17 #[.int .i64 (15 - p + k - q), .int .i64 30] w fun e w' => e = .returned (.int .i64 (M)) ∧ w = w') (HN : ∀ w, Calls Try.prog 17 #[.int .i64 (4 + k - q), .int .i64 7] w fun e w' => e = .returned (.int .i64 (N)) ∧ w = w')
    (H1 : ∀ w, Calls Try.prog 17 #[.int .i64 y, .int .i64 19] w fun e w' => e = .returned (.int .i64 (a)) ∧ w = w') (H2 : ∀ w, Calls Try.prog 17 #[.int .i64 y, .int .i64 4] w fun e w' => e = .returned (.int .i64 (b)) ∧ w = w') (H3 : ∀ w, Calls Try.prog 17 #[.int .i64 y, .int .i64 7] w fun e w' => e = .returned (.int .i64 (f)) ∧ w = w')
    (H4 : ∀ w, Calls Try.prog 17 #[.int .i64 (19 * a + M), .int .i64 30] w fun e w' => e = .returned (.int .i64 (D)) ∧ w = w') (H5 : ∀ w, Calls Try.prog 17 #[.int .i64 (2 * b + 4 * f + 6 * D + N), .int .i64 7] w fun e w' => e = .returned (.int .i64 (E)) ∧ w = w') :
    Calls Try.prog 10 #[.int .i64 2, .int .i64 y] W fun e w' => e = .returned (rsv M N D E 0) ∧ Below W.heap.size W w' := by
  go_enter Try.func10, Try.ntmps10
  go_wp2_with fail
  refine (HK _).mono ?_
  rintro e w' ⟨rfl, rfl⟩
  go_wp2_with fail
  refine (HP _).mono ?_
  rintro e w' ⟨rfl, rfl⟩
  go_wp2_with fail
  refine (HQ _).mono ?_
  rintro e w' ⟨rfl, rfl⟩
  go_wp2_with fail
  refine (HM _).mono ?_
  rintro e w' ⟨rfl, rfl⟩
  go_wp2_with fail
  refine (HN _).mono ?_
  rintro e w' ⟨rfl, rfl⟩
  go_wp2_with fail
  refine (H1 _).mono ?_
  rintro e w' ⟨rfl, rfl⟩
  go_wp2_with fail
  refine (H2 _).mono ?_
  rintro e w' ⟨rfl, rfl⟩
  go_wp2_with fail
  refine (H3 _).mono ?_
  rintro e w' ⟨rfl, rfl⟩
  go_wp2_with fail
  refine (H4 _).mono ?_
  rintro e w' ⟨rfl, rfl⟩
  go_wp2_with fail
  refine (H5 _).mono ?_
  rintro e w' ⟨rfl, rfl⟩
  go_wp2_with fail
  exact bodyPost_ret (v := rsv M N D E 0) (by simp [results, Try.results10, go_sem]) rfl ⟨rfl, ((Below.refl _ _).alloc (Nat.le_refl _) _).alloc (by simp) _⟩
end
theorem r11trace_any (c y : Int) (W : World) (h : epE c y = 0) : Calls Try.prog 10 #[.int .i64 c, .int .i64 y] W fun e w' => e = .returned (rsv (uM c y) (uN c y) (uD c y) (uE c y) (uX c y)) ∧ Below W.heap.size W w' := by
  obtain ⟨y1, y2⟩ := epE_inY h
  have iy : inR y = true := inR_iff.2 (by omega)
  have H1 := fun w => rmod_pos y 19 w iy (by omega) (by decide)
  have H2 := fun w => rmod_pos y 4 w iy (by omega) (by decide)
  have H3 := fun w => rmod_pos y 7 w iy (by omega) (by decide)
  obtain ⟨m1, m2⟩ := uM_bd c y
  obtain ⟨n1, n2⟩ := uN_bd c y
  obtain ⟨d1, d2⟩ := uD_bd c y
  obtain ⟨e1, e2⟩ := uE_bd c y
  rcases (epE_zero h).1 with rfl | rfl
  · exact r11tr1 y W _ _ _ _ _ (by omega) (by omega) (by omega) (by omega) (by omega) (by omega) d1 d2 H1 H2 H3 (fun w => rmod_pos _ 30 w (inR_iff.2 (by omega)) (by omega) (by decide)) (fun w => rmod_pos _ 7 w (inR_iff.2 (by omega)) (by omega) (by decide))
  · have HK := fun w => rdiv_pos y 100 w iy (by omega)
    have k1 : 0 ≤ y / 100 := by omega
    have k2 : y / 100 ≤ 10000000 := by omega
    have p1 : 0 ≤ (13 + 8 * (y / 100)) / 25 := by omega
    have p2 : (13 + 8 * (y / 100)) / 25 ≤ 10000000 := by omega
    have q1 : 0 ≤ y / 100 / 4 := by omega
    have q2 : y / 100 / 4 ≤ 10000000 := by omega
    have HP := fun w => rdiv_pos (13 + 8 * (y / 100)) 25 w (inR_iff.2 (by omega)) (by omega)
    have HQ := fun w => rdiv_pos (y / 100) 4 w (inR_iff.2 (by omega)) (by omega)
    have HM := fun w => rmod_pos (15 - (13 + 8 * (y / 100)) / 25 + y / 100 - y / 100 / 4) 30 w (inR_iff.2 (by omega)) (by omega) (by decide)
    have HN := fun w => rmod_pos (4 + y / 100 - y / 100 / 4) 7 w (inR_iff.2 (by omega)) (by omega) (by decide)
    rw [← uM2] at HM
    rw [← uN2] at HN
    have H4 := fun w => rmod_pos (19 * (y % 19) + uM 2 y) 30 w (inR_iff.2 (by omega)) (by omega) (by decide)
    rw [show (19 * (y % 19) + uM 2 y) % 30 = uD 2 y from rfl] at H4
    have H5 := fun w => rmod_pos (2 * (y % 4) + 4 * (y % 7) + 6 * uD 2 y + uN 2 y) 7 w (inR_iff.2 (by omega)) (by omega) (by decide)
    rw [show (2 * (y % 4) + 4 * (y % 7) + 6 * uD 2 y + uN 2 y) % 7 = uE 2 y from rfl] at H5
    have H6 := fun w => rmod_pos (11 * uM 2 y + 11) 30 w (inR_iff.2 (by omega)) (by omega) (by decide)
    have hx := uX_val 2 y (Or.inr rfl)
    generalize (11 * uM 2 y + 11) % 30 = z at *
    generalize uX 2 y = x at *
    generalize uE 2 y = g at *
    generalize uD 2 y = d at *
    by_cases h29 : d = 29
    · subst h29
      rw [show (6 : Int) * 29 = 174 from rfl] at H5
      by_cases h6 : g = 6
      · subst h6
        obtain rfl : x = 1 := by omega
        exact r11tr2a y W _ _ _ _ _ _ _ _ (by omega) (by omega) (by omega) (by omega) (by omega) (by omega) m1 m2 n1 n2 k1 k2 p1 p2 q1 q2 HK HP HQ HM HN H1 H2 H3 H4 H5
      · obtain rfl : x = 0 := by omega
        exact r11tr2b y W _ _ _ _ _ _ _ _ _ (by omega) (by omega) (by omega) (by omega) (by omega) (by omega) m1 m2 n1 n2 k1 k2 p1 p2 q1 q2 h6 HK HP HQ HM HN H1 H2 H3 H4 H5
    · by_cases h28 : d = 28
      · subst h28
        rw [show (6 : Int) * 28 = 168 from rfl] at H5
        by_cases h6 : g = 6
        · subst h6
          by_cases hz : z < 19
          · obtain rfl : x = 2 := by omega
            exact r11tr2c y W _ _ _ _ _ _ _ _ _ (by omega) (by omega) (by omega) (by omega) (by omega) (by omega) m1 m2 n1 n2 k1 k2 p1 p2 q1 q2 hz HK HP HQ HM HN H1 H2 H3 H4 H5 H6
          · obtain rfl : x = 0 := by omega
            exact r11tr2d y W _ _ _ _ _ _ _ _ _ (by omega) (by omega) (by omega) (by omega) (by omega) (by omega) m1 m2 n1 n2 k1 k2 p1 p2 q1 q2 hz HK HP HQ HM HN H1 H2 H3 H4 H5 H6
        · obtain rfl : x = 0 := by omega
          exact r11tr2e y W _ _ _ _ _ _ _ _ _ (by omega) (by omega) (by omega) (by omega) (by omega) (by omega) m1 m2 n1 n2 k1 k2 p1 p2 q1 q2 h6 HK HP HQ HM HN H1 H2 H3 H4 H5
      · obtain rfl : x = 0 := by omega
        exact r11tr2f y W _ _ _ _ _ _ _ _ _ _ (by omega) (by omega) (by omega) (by omega) (by omega) (by omega) m1 m2 n1 n2 k1 k2 p1 p2 q1 q2 d1 d2 h29 h28 HK HP HQ HM HN H1 H2 H3 H4 H5
section
variable (c y : Int) (W : World)
theorem r11d1 (M N D E : Int) (H : ∀ w, Calls Try.prog 10 #[.int .i64 c, .int .i64 y] w fun e w' => e = .returned (rsv M N D E 1) ∧ Below w.heap.size w w') : Calls Try.prog 11 #[.int .i64 c, .int .i64 y] W fun e w' => e = .returned (dtv y 4 19) ∧ Below W.heap.size W w' := by
  go_enter Try.func11, Try.ntmps11
  go_wp2_with fail
  refine (H _).mono ?_
  rintro e w1 ⟨rfl, b1⟩
  have A1 : Hid (w1.heap[W.heap.size]? = some zdate) := Lib.hid (row_on (heap_alloc_new _ _) b1)
  have B1 : Hid (Below W.heap.size W w1) := Lib.hid (below_al1 b1)
  clear b1
  obtain ⟨d0, d1, d2, g0, g1, g2, z'⟩ := row3 A1.out
  have nz := Nat.ne_of_lt z'
  have nz' := nz.symm
  go_wp2_with fail
  generalize hu : (((w1.setCell ⟨W.heap.size, 0, none⟩ (.int .i64 y)).setCell ⟨W.heap.size, 1, none⟩ (.int .i64 4)).setCell ⟨W.heap.size, 2, none⟩ (.int .i64 19)).alloc (riv M N D E 1) = u
  obtain ⟨k0, k1, k2, kb⟩ := three_al _ _ _ A1.out hu
  have Hb := Lib.hid (kb _ B1.out (Nat.le_refl _))
  clear hu
  exact bodyPost_ret (v := dtv y 4 19) (by simp [results, Try.results11, go_sem, k0, k1, k2]) rfl ⟨rfl, Hb.out⟩
theorem r11d2 (M N D E : Int) (H : ∀ w, Calls Try.prog 10 #[.int .i64 c, .int .i64 y] w fun e w' => e = .returned (rsv M N D E 2) ∧ Below w.heap.size w w') : Calls Try.prog 11 #[.int .i64 c, .int .i64 y] W fun e w' => e = .returned (dtv y 4 18) ∧ Below W.heap.size W w' := by
  go_enter Try.func11, Try.ntmps11
  go_wp2_with fail
  refine (H _).mono ?_
  rintro e w1 ⟨rfl, b1⟩
  have A1 : Hid (w1.heap[W.heap.size]? = some zdate) := Lib.hid (row_on (heap_alloc_new _ _) b1)
  have B1 : Hid (Below W.heap.size W w1) := Lib.hid (below_al1 b1)
  clear b1
  obtain ⟨d0, d1, d2, g0, g1, g2, z'⟩ := row3 A1.out
  have nz := Nat.ne_of_lt z'
  have nz' := nz.symm
  go_wp2_with fail
  generalize hu : (((w1.setCell ⟨W.heap.size, 0, none⟩ (.int .i64 y)).setCell ⟨W.heap.size, 1, none⟩ (.int .i64 4)).setCell ⟨W.heap.size, 2, none⟩ (.int .i64 18)).alloc (riv M N D E 2) = u
  obtain ⟨k0, k1, k2, kb⟩ := three_al _ _ _ A1.out hu
  have Hb := Lib.hid (kb _ B1.out (Nat.le_refl _))
  clear hu
  exact bodyPost_ret (v := dtv y 4 18) (by simp [results, Try.results11, go_sem, k0, k1, k2]) rfl ⟨rfl, Hb.out⟩
theorem r11d3 (M N D E : Int) (H : ∀ w, Calls Try.prog 10 #[.int .i64 c, .int .i64 y] w fun e w' => e = .returned (rsv M N D E 0) ∧ Below w.heap.size w w') (q1 : 0 ≤ D) (q2 : D ≤ 29) (q3 : 0 ≤ E) (q4 : E ≤ 6) (hq : ¬ 31 < 22 + D + E) : Calls Try.prog 11 #[.int .i64 c, .int .i64 y] W fun e w' => e = .returned (dtv y 3 (22 + D + E)) ∧ Below W.heap.size W w' := by
  go_enter Try.func11, Try.ntmps11
  go_wp2_with fail
  refine (H _).mono ?_
  rintro e w1 ⟨rfl, b1⟩
  have A1 : Hid (w1.heap[W.heap.size]? = some zdate) := Lib.hid (row_on (heap_alloc_new _ _) b1)
  have B1 : Hid (Below W.heap.size W w1) := Lib.hid (below_al1 b1)
  clear b1
  obtain ⟨d0, d1, d2, g0, g1, g2, z'⟩ := row3 A1.out
  have nz := Nat.ne_of_lt z'
  have nz' := nz.symm
  go_wp2_with fail
  generalize hu : (((w1.setCell ⟨W.heap.size, 0, none⟩ (.int .i64 y)).setCell ⟨W.heap.size, 1, none⟩ (.int .i64 3)).setCell ⟨W.heap.size, 2, none⟩ (.int .i64 (22 + D + E))).alloc (riv M N D E 0) = u
  obtain ⟨k0, k1, k2, kb⟩ := three_al _ _ _ A1.out hu
  have Hb := Lib.hid (kb _ B1.out (Nat.le_refl _))
  clear hu
  exact bodyPost_ret (v := dtv y 3 (22 + D + E)) (by simp [results, Try.results11, go_sem, k0, k1, k2]) rfl ⟨rfl, Hb.out⟩
theorem r11d4 (M N D E : Int) (H : ∀ w, Calls Try.prog 10 #[.int .i64 c, .int .i64 y] w fun e w' => e = .returned (rsv M N D E 0) ∧ Below w.heap.size w w') (q1 : 0 ≤ D) (q2 : D ≤ 29) (q3 : 0 ≤ E) (q4 : E ≤ 6) (hq : 31 < 22 + D + E) : Calls Try.prog 11 #[.int .i64 c, .int .i64 y] W fun e w' => e = .returned (dtv y 4 (22 + D + E - 31)) ∧ Below W.heap.size W w' := by
  go_enter Try.func11, Try.ntmps11
  go_wp2_with fail
  refine (H _).mono ?_
  rintro e w1 ⟨rfl, b1⟩
  have A1 : Hid (w1.heap[W.heap.size]? = some zdate) := Lib.hid (row_on (heap_alloc_new _ _) b1)
  have B1 : Hid (Below W.heap.size W w1) := Lib.hid (below_al1 b1)
  clear b1
  obtain ⟨d0, d1, d2, g0, g1, g2, z'⟩ := row3 A1.out
  have nz := Nat.ne_of_lt z'
  have nz' := nz.symm
  go_wp2_with fail
  generalize hu : (((w1.setCell ⟨W.heap.size, 0, none⟩ (.int .i64 y)).setCell ⟨W.heap.size, 1, none⟩ (.int .i64 4)).setCell ⟨W.heap.size, 2, none⟩ (.int .i64 (22 + D + E - 31))).alloc (riv M N D E 0) = u
  obtain ⟨k0, k1, k2, kb⟩ := three_al _ _ _ A1.out hu
  have Hb := Lib.hid (kb _ B1.out (Nat.le_refl _))
  clear hu
  exact bodyPost_ret (v := dtv y 4 (22 + D + E - 31)) (by simp [results, Try.results11, go_sem, k0, k1, k2]) rfl ⟨rfl, Hb.out⟩
theorem r11date_any (h : epE c y = 0) : Calls Try.prog 11 #[.int .i64 c, .int .i64 y] W fun e w' => e = .returned (dtv y (marM (uO c y)) (marD (uO c y))) ∧ Below W.heap.size W w' := by
  have H := fun w => r11trace_any c y w h
  obtain ⟨d1, d2⟩ := uD_bd c y
  obtain ⟨e1, e2⟩ := uE_bd c y
  rcases uX_cases c y with ⟨x, _⟩ | ⟨x, _⟩ | ⟨x, _⟩
  · rw [x] at H
    rw [show uO c y = 29 by unfold uO; rw [if_pos x]]
    exact r11d1 c y W _ _ _ _ H
  · rw [x] at H
    rw [show uO c y = 28 by unfold uO; rw [if_neg (by omega), if_pos x]]
    exact r11d2 c y W _ _ _ _ H
  · rw [x] at H
    rw [show uO c y = uD c y + uE c y + 1 by unfold uO; rw [if_neg (by omega), if_neg (by omega)]]
    rw [marM_u, marD_u, show 21 + (uD c y + uE c y + 1) = 22 + uD c y + uE c y by omega]
    by_cases hq : 22 + uD c y + uE c y ≤ 31
    · rw [if_pos hq, if_pos hq]; exact r11d3 c y W _ _ _ _ H d1 d2 e1 e2 (by omega)
    · rw [if_neg hq, if_neg hq]; exact r11d4 c y W _ _ _ _ H d1 d2 e1 e2 (by omega)
end
end Go.Proofs.Ytoiiajmdfkgcbaa
