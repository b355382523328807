/- The contracts of package gauss. -/
import Derived.Test.YtoiiajmdfkgcbaaUa
import Derived.Test.YtoiiajmdfkgcbaaUb
namespace Go.Proofs.Ytoiiajmdfkgcbaa
open Go.RowKit

section
variable (c y : Int) (w : World)
theorem ucheck1 (h : c = 1) (k : Int) (hk : (y < 1 ∧ k = 1) ∨ (1000000000 < y ∧ k = 1) ∨ (1 ≤ y ∧ y ≤ 1000000000 ∧ k = 0)) : Calls Try.prog 18 #[.int .i64 c, .int .i64 y] w fun e w' => e = .returned (.int .i64 k) ∧ w = w' := by
  subst h
  rcases hk with ⟨h1, rfl⟩ | ⟨h1, rfl⟩ | ⟨h1, h2, rfl⟩
  all_goals
    go_enter Try.func18, Try.ntmps18
    go_wp2
    go_ret
    exact ⟨rfl, rfl⟩
theorem ucheck2 (h : c = 2) (k : Int) (hk : (y < 1583 ∧ k = 1) ∨ (1000000000 < y ∧ k = 1) ∨ (1583 ≤ y ∧ y ≤ 1000000000 ∧ k = 0)) : Calls Try.prog 18 #[.int .i64 c, .int .i64 y] w fun e w' => e = .returned (.int .i64 k) ∧ w = w' := by
  subst h
  rcases hk with ⟨h1, rfl⟩ | ⟨h1, rfl⟩ | ⟨h1, h2, rfl⟩
  all_goals
    go_enter Try.func18, Try.ntmps18
    go_wp2
    go_ret
    exact ⟨rfl, rfl⟩
theorem ucheck3 (h1 : ¬ c = 1) (h2 : ¬ c = 2) : Calls Try.prog 18 #[.int .i64 c, .int .i64 y] w fun e w' => e = .returned (.int .i64 3) ∧ w = w' := by
  go_enter Try.func18, Try.ntmps18
  go_wp2
  go_ret
  exact ⟨rfl, rfl⟩
theorem ucheck_any : Calls Try.prog 18 #[.int .i64 c, .int .i64 y] w fun e w' => e = .returned (.int .i64 (epE c y)) ∧ w = w' := by
  by_cases h1 : c = 1
  · refine ucheck1 c y w h1 _ ?_
    have e : epE c y = eB (inY y) := by subst h1; rfl
    rw [e]
    by_cases hy : 1 ≤ y ∧ y ≤ 1000000000
    · rw [inY_iff.2 hy]; exact Or.inr (Or.inr ⟨hy.1, hy.2, rfl⟩)
    · rw [inY_false hy, show eB false = 1 from rfl]; omega
  · by_cases h2 : c = 2
    · refine ucheck2 c y w h2 _ ?_
      have e : epE c y = eB (inG y) := by subst h2; rfl
      rw [e]
      cases hy : inG y
      · rw [show eB false = 1 from rfl]
        by_cases h : 1583 ≤ y ∧ y ≤ 1000000000
        · rw [inG_iff.2 h] at hy; cases hy
        · omega
      · have := inG_iff.1 hy
        exact Or.inr (Or.inr ⟨this.1, this.2, rfl⟩)
    · have e : epE c y = 3 := by unfold epE; rw [okC_not h1 h2]; rfl
      rw [e]; exact ucheck3 c y w h1 h2
end
/-- The state of the computation, in memory. -/
abbrev sev (M N D E X c y : Int) : Obj := .cells #[.int .i64 M, .int .i64 N, .int .i64 D, .int .i64 E, .int .i64 X, .int .i64 c, .int .i64 y] 40 (0, 0)
abbrev fiv (M N D E X : Int) : Obj := .cells #[.int .i64 M, .int .i64 N, .int .i64 D, .int .i64 E, .int .i64 X] 24 (0, 0)
theorem uM2 (y : Int) : uM 2 y = (15 - (13 + 8 * (y / 100)) / 25 + y / 100 - y / 100 / 4) % 30 := by unfold uM; rw [if_neg (by omega)]
theorem uN2 (y : Int) : uN 2 y = (4 + y / 100 - y / 100 / 4) % 7 := by unfold uN; rw [if_neg (by omega)]
section
variable (M N D E X c y : Int) (b : Nat) (w : World)
theorem unum1 (h : w.heap[b]? = some (sev M N D E X 1 y)) : Calls Try.prog 19 #[.pointer (some ⟨b, 0, none⟩)] w fun e w' => e = .returned (.tuple #[]) ∧ w'.heap[b]? = some (sev 15 6 D E X 1 y) ∧ Below b w w' := by
  have R := Lib.hid h
  obtain ⟨c0, c1, c2, c3, c4, c5, c6, f0, f1, f2, f3, f4, f5, f6, z⟩ := row7 h
  clear h
  go_enter Try.func19, Try.ntmps19
  go_wp2
  refine bodyPost_ret (v := .tuple #[]) (by simp [results, Try.results19, go_sem]) rfl ?_
  exact ⟨rfl, heap_setCell_same _ b 1 _ _ _ (heap_setCell_same _ b 0 _ _ _ R.out), ((Below.refl _ _).setCell (p := ⟨b, 0, none⟩) (Nat.le_refl _) _).setCell (p := ⟨b, 1, none⟩) (Nat.le_refl _) _⟩
theorem unum2 (h1 : 1583 ≤ y) (h2 : y ≤ 1000000000) (h : w.heap[b]? = some (sev M N D E X 2 y)) : Calls Try.prog 19 #[.pointer (some ⟨b, 0, none⟩)] w fun e w' => e = .returned (.tuple #[]) ∧ w'.heap[b]? = some (sev (uM 2 y) (uN 2 y) D E X 2 y) ∧ Below b w w' := by
  have R := Lib.hid h
  obtain ⟨c0, c1, c2, c3, c4, c5, c6, f0, f1, f2, f3, f4, f5, f6, z⟩ := row7 h
  clear h
  go_enter Try.func19, Try.ntmps19
  go_wp2
  go_end0
  exact ⟨rfl, (heap_setCell_same _ b 1 _ _ _ (heap_setCell_same _ b 0 _ _ _ R.out)).trans (by rw [uM2, uN2]; rfl), ((Below.refl _ _).setCell (p := ⟨b, 0, none⟩) (Nat.le_refl _) _).setCell (p := ⟨b, 1, none⟩) (Nat.le_refl _) _⟩
theorem udis (h1 : 1 ≤ y) (h2 : y ≤ 1000000000) (m1 : 0 ≤ M) (m2 : M ≤ 29) (n1 : 0 ≤ N) (n2 : N ≤ 6) (d9 e9 : Int) (hd : (19 * (y % 19) + M) % 30 = d9) (he : (2 * (y % 4) + 4 * (y % 7) + 6 * d9 + N) % 7 = e9) (h : w.heap[b]? = some (sev M N D E X c y)) : Calls Try.prog 20 #[.pointer (some ⟨b, 0, none⟩)] w fun e w' => e = .returned (.tuple #[]) ∧ w'.heap[b]? = some (sev M N d9 e9 X c y) ∧ Below b w w' := by
  have R := Lib.hid h
  obtain ⟨c0, c1, c2, c3, c4, c5, c6, f0, f1, f2, f3, f4, f5, f6, z⟩ := row7 h
  clear h
  have q1 : 0 ≤ y % 19 := by omega
  have q2 : y % 19 ≤ 18 := by omega
  have q3 : 0 ≤ y % 4 := by omega
  have q4 : y % 4 ≤ 3 := by omega
  have q5 : 0 ≤ y % 7 := by omega
  have q6 : y % 7 ≤ 6 := by omega
  go_enter Try.func20, Try.ntmps20
  go_wp2
  go_region
  have d1 : 0 ≤ (19 * (y % 19) + M) % 30 := by omega
  have d2 : (19 * (y % 19) + M) % 30 ≤ 29 := by omega
  generalize (19 * (y % 19) + M) % 30 = Dn at *
  subst hd
  generalize hu : (w.setCell ⟨b, 2, none⟩ (.int .i64 Dn)).drew = u
  have R1 : Hid (u.heap[b]? = some (sev M N Dn E X c y)) := Lib.hid (by rw [← hu]; exact heap_setCell_same w b 2 _ _ _ R.out)
  have B1 : Hid (Below b w u) := Lib.hid (by rw [← hu]; exact below_dn ((Below.refl _ _).setCell (p := ⟨b, 2, none⟩) (Nat.le_refl _) _) 1)
  clear hu c0 c1 c2 c3 c4 c5 c6 f0 f1 f2 f3 f4 f5 f6 z R
  obtain ⟨c0, c1, c2, c3, c4, c5, c6, f0, f1, f2, f3, f4, f5, f6, z⟩ := row7 R1.out
  go_wp2
  go_region
  go_wp2
  go_end0
  subst he
  exact ⟨rfl, heap_setCell_same u b 3 _ _ _ R1.out, below_dn (B1.out.setCell (p := ⟨b, 3, none⟩) (Nat.le_refl _) _) 1⟩
theorem uexc (k : Int) (d1 : 0 ≤ D) (d2 : D ≤ 29) (m1 : 0 ≤ M) (m2 : M ≤ 29) (hk : (c = 1 ∧ k = 0) ∨ (c = 2 ∧ ¬ E = 6 ∧ k = 0) ∨ (c = 2 ∧ E = 6 ∧ D = 29 ∧ k = 1) ∨ (c = 2 ∧ E = 6 ∧ D = 28 ∧ (11 * M + 11) % 30 < 19 ∧ k = 2) ∨ (c = 2 ∧ E = 6 ∧ D = 28 ∧ ¬ (11 * M + 11) % 30 < 19 ∧ k = 0) ∨ (c = 2 ∧ E = 6 ∧ ¬ D = 29 ∧ ¬ D = 28 ∧ k = 0))
    (h : w.heap[b]? = some (sev M N D E X c y)) : Calls Try.prog 21 #[.pointer (some ⟨b, 0, none⟩)] w fun e w' => e = .returned (.tuple #[]) ∧ w'.heap[b]? = some (sev M N D E k c y) ∧ Below b w w' := by
  have R := Lib.hid h
  obtain ⟨c0, c1, c2, c3, c4, c5, c6, f0, f1, f2, f3, f4, f5, f6, z⟩ := row7 h
  clear h
  rcases hk with ⟨rfl, rfl⟩ | ⟨rfl, g1, rfl⟩ | ⟨rfl, rfl, rfl, rfl⟩ | ⟨rfl, rfl, rfl, g1, rfl⟩ | ⟨rfl, rfl, rfl, g1, rfl⟩ | ⟨rfl, rfl, g1, g2, rfl⟩
  · go_enter Try.func21, Try.ntmps21
    go_wp2
    refine bodyPost_ret (v := .tuple #[]) (by simp [results, Try.results21, go_sem]) rfl ?_
    exact ⟨rfl, heap_setCell_same _ b 4 _ _ _ R.out, (Below.refl _ _).setCell (p := ⟨b, 4, none⟩) (Nat.le_refl _) _⟩
  · go_enter Try.func21, Try.ntmps21
    go_wp2
    refine bodyPost_ret (v := .tuple #[]) (by simp [results, Try.results21, go_sem]) rfl ?_
    exact ⟨rfl, heap_setCell_same _ b 4 _ _ _ R.out, (Below.refl _ _).setCell (p := ⟨b, 4, none⟩) (Nat.le_refl _) _⟩
  · go_enter Try.func21, Try.ntmps21
    go_wp2
    go_end0
    exact ⟨rfl, heap_setCell_same _ b 4 _ _ _ (heap_setCell_same _ b 4 _ _ _ R.out), ((Below.refl _ _).setCell (p := ⟨b, 4, none⟩) (Nat.le_refl _) _).setCell (p := ⟨b, 4, none⟩) (Nat.le_refl _) _⟩
  · go_enter Try.func21, Try.ntmps21
    go_wp2
    go_end0
    exact ⟨rfl, heap_setCell_same _ b 4 _ _ _ (heap_setCell_same _ b 4 _ _ _ R.out), ((Below.refl _ _).setCell (p := ⟨b, 4, none⟩) (Nat.le_refl _) _).setCell (p := ⟨b, 4, none⟩) (Nat.le_refl _) _⟩
  · go_enter Try.func21, Try.ntmps21
    go_wp2
    go_end0
    exact ⟨rfl, heap_setCell_same _ b 4 _ _ _ R.out, (Below.refl _ _).setCell (p := ⟨b, 4, none⟩) (Nat.le_refl _) _⟩
  · go_enter Try.func21, Try.ntmps21
    go_wp2
    go_end0
    exact ⟨rfl, heap_setCell_same _ b 4 _ _ _ R.out, (Below.refl _ _).setCell (p := ⟨b, 4, none⟩) (Nat.le_refl _) _⟩
end
theorem uX_val (c y : Int) (hc : c = 1 ∨ c = 2) : (c = 1 ∧ uX c y = 0) ∨ (c = 2 ∧ ¬ uE c y = 6 ∧ uX c y = 0) ∨ (c = 2 ∧ uE c y = 6 ∧ uD c y = 29 ∧ uX c y = 1) ∨ (c = 2 ∧ uE c y = 6 ∧ uD c y = 28 ∧ (11 * uM c y + 11) % 30 < 19 ∧ uX c y = 2) ∨ (c = 2 ∧ uE c y = 6 ∧ uD c y = 28 ∧ ¬ (11 * uM c y + 11) % 30 < 19 ∧ uX c y = 0) ∨ (c = 2 ∧ uE c y = 6 ∧ ¬ uD c y = 29 ∧ ¬ uD c y = 28 ∧ uX c y = 0) := by
  rcases uX_cases c y with ⟨a1, a2, a3, a4⟩ | ⟨a1, a2, a3, a4, a5⟩ | ⟨a1, a2⟩
  · exact Or.inr (Or.inr (Or.inl ⟨by omega, a3, a4, a1⟩))
  · exact Or.inr (Or.inr (Or.inr (Or.inl ⟨by omega, a3, a4, a5, a1⟩)))
  · rcases hc with h | h
    · exact Or.inl ⟨h, a1⟩
    · rcases a2 with h1 | h6 | ⟨n29, nv⟩
      · omega
      · exact Or.inr (Or.inl ⟨h, h6, a1⟩)
      · by_cases e6 : uE c y = 6
        · by_cases d28 : uD c y = 28
          · exact Or.inr (Or.inr (Or.inr (Or.inr (Or.inl ⟨h, e6, d28, fun z => nv ⟨d28, z⟩, a1⟩))))
          · exact Or.inr (Or.inr (Or.inr (Or.inr (Or.inr ⟨h, e6, n29, d28, a1⟩))))
        · exact Or.inr (Or.inl ⟨h, e6, a1⟩)
/-- The values of a computation and of the steps with an error. -/
abbrev stv (M N D E X k : Int) : Value := .tuple #[.agg #[.int .i64 M, .int .i64 N, .int .i64 D, .int .i64 E, .int .i64 X], .int .i64 k]
abbrev cpv (M N D E X c y : Int) : Value := .agg #[.int .i64 M, .int .i64 N, .int .i64 D, .int .i64 E, .int .i64 X, .int .i64 c, .int .i64 y]
section
variable (c y : Int) (W : World)
theorem ucomp_ok (M N D E X : Int) (HC : ∀ w, Calls Try.prog 18 #[.int .i64 c, .int .i64 y] w fun e w' => e = .returned (.int .i64 0) ∧ w = w')
    (HN : ∀ b (w : World), w.heap[b]? = some (sev 0 0 0 0 0 c y) → Calls Try.prog 19 #[.pointer (some ⟨b, 0, none⟩)] w fun e w' => e = .returned (.tuple #[]) ∧ w'.heap[b]? = some (sev M N 0 0 0 c y) ∧ Below b w w')
    (HD : ∀ b (w : World), w.heap[b]? = some (sev M N 0 0 0 c y) → Calls Try.prog 20 #[.pointer (some ⟨b, 0, none⟩)] w fun e w' => e = .returned (.tuple #[]) ∧ w'.heap[b]? = some (sev M N D E 0 c y) ∧ Below b w w')
    (HX : ∀ b (w : World), w.heap[b]? = some (sev M N D E 0 c y) → Calls Try.prog 21 #[.pointer (some ⟨b, 0, none⟩)] w fun e w' => e = .returned (.tuple #[]) ∧ w'.heap[b]? = some (sev M N D E X c y) ∧ Below b w w') :
    Calls Try.prog 12 #[.int .i64 c, .int .i64 y] W fun e w' => e = .returned (.tuple #[cpv M N D E X c y, .int .i64 0]) ∧ Below W.heap.size W w' := by
  go_enter Try.func12, Try.ntmps12
  go_wp2_with fail
  refine (HC _).mono ?_
  rintro e wq ⟨rfl, rfl⟩
  go_wp2_with fail
  refine (HN _ _ (row_new1 _ _ _)).mono ?_
  rintro e w1 ⟨rfl, r1, b1⟩
  have A1 : Hid (w1.heap[W.heap.size]? = some (sev 0 0 0 0 0 0 0)) := Lib.hid ((b1.block _ (Nat.lt_succ_self _)).trans (row_al (heap_alloc_new _ _) _))
  have B1 : Hid (Below W.heap.size W w1) := Lib.hid ((((Below.refl _ _).alloc (Nat.le_refl _) _).alloc (by simp) _).trans (b1.mono (Nat.le_succ _)))
  have R1 := Lib.hid r1
  clear r1 b1
  go_wp2_with fail
  refine (HD _ _ R1.out).mono ?_
  rintro e w2 ⟨rfl, r2, b2⟩
  have A2 := Lib.hid ((b2.block _ (Nat.lt_succ_self _)).trans A1.out)
  have B2 : Hid (Below W.heap.size W w2) := Lib.hid (B1.out.trans (b2.mono (Nat.le_succ _)))
  have R2 := Lib.hid r2
  clear r2 b2 A1 B1 R1
  go_wp2_with fail
  refine (HX _ _ R2.out).mono ?_
  rintro e w3 ⟨rfl, r3, b3⟩
  have A3 := Lib.hid ((b3.block _ (Nat.lt_succ_self _)).trans A2.out)
  have B3 : Hid (Below W.heap.size W w3) := Lib.hid (B2.out.trans (b3.mono (Nat.le_succ _)))
  obtain ⟨c0, c1, c2, c3, c4, c5, c6, f0, f1, f2, f3, f4, f5, f6, z⟩ := row7 r3
  obtain ⟨d0, d1, d2, d3, d4, d5, d6, g0, g1, g2, g3, g4, g5, g6, z'⟩ := row7 A3.out
  clear r3 b3 A2 B2 R2
  go_wp2_with fail
  generalize hu : (((((((w3.setCell ⟨W.heap.size, 0, none⟩ (.int .i64 M)).setCell ⟨W.heap.size, 1, none⟩ (.int .i64 N)).setCell ⟨W.heap.size, 2, none⟩ (.int .i64 D)).setCell ⟨W.heap.size, 3, none⟩ (.int .i64 E)).setCell ⟨W.heap.size, 4, none⟩ (.int .i64 X)).setCell ⟨W.heap.size, 5, none⟩ (.int .i64 c)).setCell ⟨W.heap.size, 6, none⟩ (.int .i64 y)) = u
  obtain ⟨k0, k1, k2, k3, k4, k5, k6, kb⟩ := seven_set _ _ _ _ _ _ _ A3.out B3.out (Nat.le_refl _) hu
  have Hb := Lib.hid kb
  clear hu
  exact bodyPost_ret (v := .tuple #[cpv M N D E X c y, .int .i64 0]) (by simp [results, Try.results12, go_sem, k0, k1, k2, k3, k4, k5, k6]) rfl ⟨rfl, Hb.out⟩
theorem ucomp_no (k : Int) (HC : ∀ w, Calls Try.prog 18 #[.int .i64 c, .int .i64 y] w fun e w' => e = .returned (.int .i64 k) ∧ w = w') (hk : (k != 0) = true) :
    Calls Try.prog 12 #[.int .i64 c, .int .i64 y] W fun e w' => e = .returned (.tuple #[cpv 0 0 0 0 0 0 0, .int .i64 k]) ∧ Below W.heap.size W w' := by
  go_enter Try.func12, Try.ntmps12
  go_wp2_with fail
  refine (HC _).mono ?_
  rintro e wq ⟨rfl, rfl⟩
  go_wp2_with fail
  exact bodyPost_ret (v := .tuple #[cpv 0 0 0 0 0 0 0, .int .i64 k]) (by simp [results, Try.results12, go_sem]) rfl ⟨rfl, (Below.refl _ _).alloc (Nat.le_refl _) _⟩
theorem ucomp_any (h : epE c y = 0) : Calls Try.prog 12 #[.int .i64 c, .int .i64 y] W fun e w' => e = .returned (.tuple #[cpv (uM c y) (uN c y) (uD c y) (uE c y) (uX c y) c y, .int .i64 0]) ∧ Below W.heap.size W w' := by
  have HC := fun w => ucheck_any c y w
  rw [h] at HC
  have hc := (epE_zero h).1
  obtain ⟨y1, y2⟩ := epE_inY h
  obtain ⟨m1, m2⟩ := uM_bd c y
  obtain ⟨n1, n2⟩ := uN_bd c y
  obtain ⟨d1, d2⟩ := uD_bd c y
  refine ucomp_ok c y W _ _ _ _ _ HC (fun b w hr => ?_) (fun b w hr => udis _ _ _ _ _ _ _ _ _ y1 y2 m1 m2 n1 n2 _ _ rfl rfl hr) (fun b w hr => uexc _ _ _ _ _ _ _ _ _ _ d1 d2 m1 m2 (uX_val c y hc) hr)
  rcases hc with rfl | rfl
  · exact unum1 _ _ _ _ _ _ _ _ hr
  · have g := inG_iff.1 (epE_zero h).2
    exact unum2 _ _ _ _ _ _ _ _ g.1 g.2 hr
theorem utr_ok (M N D E X : Int) (H : ∀ w, Calls Try.prog 12 #[.int .i64 c, .int .i64 y] w fun e w' => e = .returned (.tuple #[cpv M N D E X c y, .int .i64 0]) ∧ Below w.heap.size w w') :
    Calls Try.prog 7 #[.int .i64 c, .int .i64 y] W fun e w' => e = .returned (stv M N D E X 0) ∧ Below W.heap.size W w' := by
  go_enter Try.func7, Try.ntmps7
  go_wp2_with fail
  refine (H _).mono ?_
  rintro e w1 ⟨rfl, b1⟩
  have A1 : Hid (w1.heap[W.heap.size]? = some (fiv 0 0 0 0 0)) := Lib.hid (row_on (heap_alloc_new _ _) b1)
  have B1 : Hid (Below W.heap.size W w1) := Lib.hid (below_al1 b1)
  clear b1
  obtain ⟨d0, d1, d2, d3, d4, g0, g1, g2, g3, g4, z'⟩ := row5 A1.out
  have nz := Nat.ne_of_lt z'
  have nz' := nz.symm
  go_wp2_with fail
  generalize hu : (((((w1.setCell ⟨W.heap.size, 0, none⟩ (.int .i64 M)).setCell ⟨W.heap.size, 1, none⟩ (.int .i64 N)).setCell ⟨W.heap.size, 2, none⟩ (.int .i64 D)).setCell ⟨W.heap.size, 3, none⟩ (.int .i64 E)).setCell ⟨W.heap.size, 4, none⟩ (.int .i64 X)).alloc (.cells #[.int .i64 M, .int .i64 N, .int .i64 D, .int .i64 E, .int .i64 X, .int .i64 c, .int .i64 y] 40) = u
  obtain ⟨k0, k1, k2, k3, k4, kb⟩ := five_al _ _ _ _ _ A1.out B1.out (Nat.le_refl _) hu
  have Hb := Lib.hid kb
  clear hu
  exact bodyPost_ret (v := stv M N D E X 0) (by simp [results, Try.results7, go_sem, k0, k1, k2, k3, k4]) rfl ⟨rfl, Hb.out⟩
theorem utr_no (k : Int) (H : ∀ w, Calls Try.prog 12 #[.int .i64 c, .int .i64 y] w fun e w' => e = .returned (.tuple #[cpv 0 0 0 0 0 0 0, .int .i64 k]) ∧ Below w.heap.size w w') (hk : (k != 0) = true) :
    Calls Try.prog 7 #[.int .i64 c, .int .i64 y] W fun e w' => e = .returned (stv 0 0 0 0 0 k) ∧ Below W.heap.size W w' := by
  go_enter Try.func7, Try.ntmps7
  go_wp2_with fail
  refine (H _).mono ?_
  rintro e w1 ⟨rfl, b1⟩
  have A1 : Hid (w1.heap[W.heap.size]? = some (fiv 0 0 0 0 0)) := Lib.hid (row_on (heap_alloc_new _ _) b1)
  have B1 : Hid (Below W.heap.size W w1) := Lib.hid (below_al1 b1)
  clear b1
  obtain ⟨d0, d1, d2, d3, d4, g0, g1, g2, g3, g4, z'⟩ := row5 A1.out
  have nz := Nat.ne_of_lt z'
  have nz' := nz.symm
  go_wp2_with fail
  generalize hu : (((((w1.setCell ⟨W.heap.size, 0, none⟩ (.int .i64 0)).setCell ⟨W.heap.size, 1, none⟩ (.int .i64 0)).setCell ⟨W.heap.size, 2, none⟩ (.int .i64 0)).setCell ⟨W.heap.size, 3, none⟩ (.int .i64 0)).setCell ⟨W.heap.size, 4, none⟩ (.int .i64 0)).alloc (.cells #[.int .i64 0, .int .i64 0, .int .i64 0, .int .i64 0, .int .i64 0, .int .i64 0, .int .i64 0] 40) = u
  obtain ⟨k0, k1, k2, k3, k4, kb⟩ := five_al _ _ _ _ _ A1.out B1.out (Nat.le_refl _) hu
  have Hb := Lib.hid kb
  clear hu
  exact bodyPost_ret (v := stv 0 0 0 0 0 k) (by simp [results, Try.results7, go_sem, k0, k1, k2, k3, k4]) rfl ⟨rfl, Hb.out⟩
theorem utrace_any (h : epE c y = 0) : Calls Try.prog 7 #[.int .i64 c, .int .i64 y] W fun e w' => e = .returned (stv (uM c y) (uN c y) (uD c y) (uE c y) (uX c y) 0) ∧ Below W.heap.size W w' :=
  utr_ok c y W _ _ _ _ _ (fun w => ucomp_any c y w h)
theorem ucomp_bad (h : epE c y ≠ 0) : Calls Try.prog 12 #[.int .i64 c, .int .i64 y] W fun e w' => e = .returned (.tuple #[cpv 0 0 0 0 0 0 0, .int .i64 (epE c y)]) ∧ Below W.heap.size W w' :=
  ucomp_no c y W _ (fun w => ucheck_any c y w) (bne_iff_ne.2 h)
theorem utrace_bad (h : epE c y ≠ 0) : Calls Try.prog 7 #[.int .i64 c, .int .i64 y] W fun e w' => e = .returned (stv 0 0 0 0 0 (epE c y)) ∧ Below W.heap.size W w' :=
  utr_no c y W _ (fun w => ucomp_bad c y w h) (bne_iff_ne.2 h)
end
section
variable (M N D E c y : Int) (b : Nat) (w : World)
theorem ueas1 (h : w.heap[b]? = some (sev M N D E 1 c y)) : Calls Try.prog 13 #[.pointer (some ⟨b, 0, none⟩)] w fun e w' => e = .returned (dtv y 4 19) ∧ Below w.heap.size w w' := by
  obtain ⟨c0, c1, c2, c3, c4, c5, c6, f0, f1, f2, f3, f4, f5, f6, z⟩ := row7 h
  have nz := Nat.ne_of_lt z
  have nz' := nz.symm
  clear h
  go_enter Try.func13, Try.ntmps13
  go_wp2_with fail
  exact bodyPost_ret (v := dtv y 4 19) (by simp [results, Try.results13, go_sem]) rfl ⟨rfl, (Below.refl _ _).alloc (Nat.le_refl _) _⟩
theorem ueas2 (h : w.heap[b]? = some (sev M N D E 2 c y)) : Calls Try.prog 13 #[.pointer (some ⟨b, 0, none⟩)] w fun e w' => e = .returned (dtv y 4 18) ∧ Below w.heap.size w w' := by
  obtain ⟨c0, c1, c2, c3, c4, c5, c6, f0, f1, f2, f3, f4, f5, f6, z⟩ := row7 h
  have nz := Nat.ne_of_lt z
  have nz' := nz.symm
  clear h
  go_enter Try.func13, Try.ntmps13
  go_wp2_with fail
  exact bodyPost_ret (v := dtv y 4 18) (by simp [results, Try.results13, go_sem]) rfl ⟨rfl, (Below.refl _ _).alloc (Nat.le_refl _) _⟩
theorem ueas3 (q1 : 0 ≤ D) (q2 : D ≤ 29) (q3 : 0 ≤ E) (q4 : E ≤ 6) (hq : 22 + D + E ≤ 31) (h : w.heap[b]? = some (sev M N D E 0 c y)) : Calls Try.prog 13 #[.pointer (some ⟨b, 0, none⟩)] w fun e w' => e = .returned (dtv y 3 (22 + D + E)) ∧ Below w.heap.size w w' := by
  obtain ⟨c0, c1, c2, c3, c4, c5, c6, f0, f1, f2, f3, f4, f5, f6, z⟩ := row7 h
  have nz := Nat.ne_of_lt z
  have nz' := nz.symm
  clear h
  go_enter Try.func13, Try.ntmps13
  go_wp2_with fail
  go_quiet (fail)
  go_wp2_with fail
  exact bodyPost_ret (v := dtv y 3 (22 + D + E)) (by simp [results, Try.results13, go_sem]) rfl ⟨rfl, below_set3 (below_dn ((Below.refl _ _).alloc (Nat.le_refl _) _) _) (Nat.le_refl _) _ _ _ rfl⟩
theorem ueas4 (q1 : 0 ≤ D) (q2 : D ≤ 29) (q3 : 0 ≤ E) (q4 : E ≤ 6) (hq : ¬ 22 + D + E ≤ 31) (h : w.heap[b]? = some (sev M N D E 0 c y)) : Calls Try.prog 13 #[.pointer (some ⟨b, 0, none⟩)] w fun e w' => e = .returned (dtv y 4 (22 + D + E - 31)) ∧ Below w.heap.size w w' := by
  obtain ⟨c0, c1, c2, c3, c4, c5, c6, f0, f1, f2, f3, f4, f5, f6, z⟩ := row7 h
  have nz := Nat.ne_of_lt z
  have nz' := nz.symm
  clear h
  go_enter Try.func13, Try.ntmps13
  go_wp2_with fail
  go_quiet (fail)
  go_wp2_with fail
  exact bodyPost_ret (v := dtv y 4 (22 + D + E - 31)) (by simp [results, Try.results13, go_sem]) rfl ⟨rfl, below_set3 (below_dn ((Below.refl _ _).alloc (Nat.le_refl _) _) _) (Nat.le_refl _) _ _ _ rfl⟩
end
theorem marM_u (k : Int) : marM k = if 21 + k ≤ 31 then 3 else 4 := by unfold marM; split <;> split <;> omega
theorem marD_u (k : Int) : marD k = if 21 + k ≤ 31 then 21 + k else 21 + k - 31 := by unfold marD; split <;> split <;> omega
theorem ueas_any (c y : Int) (b : Nat) (w : World) (h : w.heap[b]? = some (sev (uM c y) (uN c y) (uD c y) (uE c y) (uX c y) c y)) : Calls Try.prog 13 #[.pointer (some ⟨b, 0, none⟩)] w fun e w' => e = .returned (dtv y (marM (uO c y)) (marD (uO c y))) ∧ Below w.heap.size w w' := by
  obtain ⟨d1, d2⟩ := uD_bd c y
  obtain ⟨e1, e2⟩ := uE_bd c y
  rcases uX_cases c y with ⟨x, _⟩ | ⟨x, _⟩ | ⟨x, _⟩
  · rw [x] at h
    rw [show uO c y = 29 by unfold uO; rw [if_pos x]]
    exact ueas1 _ _ _ _ _ _ _ _ h
  · rw [x] at h
    rw [show uO c y = 28 by unfold uO; rw [if_neg (by omega), if_pos x]]
    exact ueas2 _ _ _ _ _ _ _ _ h
  · rw [x] at h
    rw [show uO c y = uD c y + uE c y + 1 by unfold uO; rw [if_neg (by omega), if_neg (by omega)]]
    rw [marM_u, marD_u, show 21 + (uD c y + uE c y + 1) = 22 + uD c y + uE c y by omega]
    by_cases hq : 22 + uD c y + uE c y ≤ 31
    · rw [if_pos hq, if_pos hq]; exact ueas3 _ _ _ _ _ _ _ _ d1 d2 e1 e2 hq h
    · rw [if_neg hq, if_neg hq]; exact ueas4 _ _ _ _ _ _ _ _ d1 d2 e1 e2 hq h
section
variable (c y : Int) (W : World)
theorem udt_ok (M N D E X m d : Int) (H : ∀ w, Calls Try.prog 12 #[.int .i64 c, .int .i64 y] w fun e w' => e = .returned (.tuple #[cpv M N D E X c y, .int .i64 0]) ∧ Below w.heap.size w w') (HE : ∀ (b : Nat) (w : World), w.heap[b]? = some (sev M N D E X c y) → Calls Try.prog 13 #[.pointer (some ⟨b, 0, none⟩)] w fun e w' => e = .returned (dtv y m d) ∧ Below w.heap.size w w') :
    Calls Try.prog 8 #[.int .i64 c, .int .i64 y] W fun e w' => e = .returned (datv y m d 0) ∧ Below W.heap.size W w' := by
  go_enter Try.func8, Try.ntmps8
  go_wp2_with fail
  refine (H _).mono ?_
  rintro e w1 ⟨rfl, b1⟩
  have A1 : Hid (w1.heap[W.heap.size]? = some zdate) := Lib.hid (row_on (heap_alloc_new _ _) b1)
  have B1 : Hid (Below W.heap.size W w1) := Lib.hid (below_al1 b1)
  clear b1
  go_wp2_with fail
  refine (HE _ _ (heap_alloc_new _ _)).mono ?_
  rintro e w2 ⟨rfl, b2⟩
  have A2 := Lib.hid (row_on A1.out (below_al1 b2))
  have B2 := Lib.hid (below_on B1.out (below_al1 b2))
  clear b2 A1 B1
  obtain ⟨d0, d1, d2, g0, g1, g2, z'⟩ := row3 A2.out
  go_wp2_with fail
  generalize hu : ((w2.setCell ⟨W.heap.size, 0, none⟩ (.int .i64 y)).setCell ⟨W.heap.size, 1, none⟩ (.int .i64 m)).setCell ⟨W.heap.size, 2, none⟩ (.int .i64 d) = u
  obtain ⟨k0, k1, k2⟩ := three_set _ _ _ A2.out hu
  have Hb := Lib.hid (below_set3 B2.out (Nat.le_refl _) _ _ _ hu)
  clear hu
  exact bodyPost_ret (v := datv y m d 0) (by simp [results, Try.results8, go_sem, k0, k1, k2]) rfl ⟨rfl, Hb.out⟩
theorem udt_no (k : Int) (H : ∀ w, Calls Try.prog 12 #[.int .i64 c, .int .i64 y] w fun e w' => e = .returned (.tuple #[cpv 0 0 0 0 0 0 0, .int .i64 k]) ∧ Below w.heap.size w w') (hk : (k != 0) = true) :
    Calls Try.prog 8 #[.int .i64 c, .int .i64 y] W fun e w' => e = .returned (datv 0 0 0 k) ∧ Below W.heap.size W w' := by
  go_enter Try.func8, Try.ntmps8
  go_wp2_with fail
  refine (H _).mono ?_
  rintro e w1 ⟨rfl, b1⟩
  have A1 : Hid (w1.heap[W.heap.size]? = some zdate) := Lib.hid (row_on (heap_alloc_new _ _) b1)
  have B1 : Hid (Below W.heap.size W w1) := Lib.hid (below_al1 b1)
  clear b1
  obtain ⟨d0, d1, d2, g0, g1, g2, z'⟩ := row3 A1.out
  have nz := Nat.ne_of_lt z'
  have nz' := nz.symm
  go_wp2_with fail
  generalize hu : (((w1.setCell ⟨W.heap.size, 0, none⟩ (.int .i64 0)).setCell ⟨W.heap.size, 1, none⟩ (.int .i64 0)).setCell ⟨W.heap.size, 2, none⟩ (.int .i64 0)).alloc (.cells #[.int .i64 0, .int .i64 0, .int .i64 0, .int .i64 0, .int .i64 0, .int .i64 0, .int .i64 0] 40) = u
  obtain ⟨k0, k1, k2, kb⟩ := three_al _ _ _ A1.out hu
  have Hb := Lib.hid (kb _ B1.out (Nat.le_refl _))
  clear hu
  exact bodyPost_ret (v := datv 0 0 0 k) (by simp [results, Try.results8, go_sem, k0, k1, k2]) rfl ⟨rfl, Hb.out⟩
theorem udate_any (h : epE c y = 0) : Calls Try.prog 8 #[.int .i64 c, .int .i64 y] W fun e w' => e = .returned (datv y (marM (uO c y)) (marD (uO c y)) 0) ∧ Below W.heap.size W w' :=
  udt_ok c y W _ _ _ _ _ _ _ (fun w => ucomp_any c y w h) (fun b w hr => ueas_any c y b w hr)
theorem udate_bad (h : epE c y ≠ 0) : Calls Try.prog 8 #[.int .i64 c, .int .i64 y] W fun e w' => e = .returned (datv 0 0 0 (epE c y)) ∧ Below W.heap.size W w' :=
  udt_no c y W _ (fun w => ucomp_bad c y w h) (bne_iff_ne.2 h)
end
end Go.Proofs.Ytoiiajmdfkgcbaa
