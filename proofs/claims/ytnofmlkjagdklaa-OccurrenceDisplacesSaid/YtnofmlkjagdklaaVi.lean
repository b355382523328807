/- The regions 'r := Resolve(c, forward(..))' of the laws Splits, Matches and Displaces of stage 21. -/
import Derived.Test.YtnofmlkjagdklaaVg
namespace Go.Proofs.Ytnofmlkjagdklaa
open Go.RowKit

/-! Splits -/
noncomputable def sprO (f : Func) : Array Oper := match f.body with | some (.seq _ (.seq _ (.seq _ (.seq (.region _ ops _) _)))) => ops | _ => #[]
def sprL (n : Nat) (b t : Bool) : Array Bool := #[true, true, decide (2 ≤ n), decide (3 ≤ n), b, t]
def sprR (n : Nat) (b t : Bool) : List Nat := (if n = 1 then [2] else if n = 2 then [3] else []) ++ (if b = false then [4] else []) ++ (if n = 3 ∧ b = true ∧ t = false then [5] else [])
theorem spr_all : ([1, 2, 3].all fun n => [false, true].all fun b => [false, true].all fun t => (t && !(n == 3 && b)) || (Region.ready .any (sprO Try.f4) (sprL n b t) == sprR n b t)) = true := by kernel_rfl
theorem spr_eq {n : Nat} {b t : Bool} (h0 : 1 ≤ n) (hn : n ≤ 3) (ht : t = true → n = 3 ∧ b = true) : Region.ready .any (sprO Try.f4) (sprL n b t) = sprR n b t := by
  have m : n ∈ [1, 2, 3] := by
    have : n = 1 ∨ n = 2 ∨ n = 3 := by omega
    rcases this with rfl | rfl | rfl <;> simp
  have := List.all_eq_true.1 (List.all_eq_true.1 (List.all_eq_true.1 spr_all n m) b (by cases b <;> simp)) t (by cases t <;> simp)
  have h2 : (t && !(n == 3 && b)) = false := by
    cases t
    · rfl
    · obtain ⟨rfl, rfl⟩ := ht rfl; rfl
  rw [h2] at this
  simpa using this
theorem spr_mem {n i : Nat} {b t : Bool} (h : i ∈ sprR n b t) : (i = 2 ∧ n = 1) ∨ (i = 3 ∧ n = 2) ∨ (i = 4 ∧ b = false) ∨ (i = 5 ∧ n = 3 ∧ b = true ∧ t = false) := by
  simp only [sprR, List.mem_append] at h
  rcases h with (h | h) | h
  all_goals (repeat' split at h) <;> simp_all
def sprS (c : Cat) (vs vf : Value) (y day : Int) (kc : Nat) (vl : Value) (y0 y4 y5 y6 y9 y10 y11 y12 y13 y14 y15 y16 y17 y18 y19 y20 y21 y22 y23 y24 y25 y26 y27 y28 y29 y30 y31 : Value) (w0 : World) (l : List Cd) (x : Cd) (L1 L2 L3 : List Int) (m : Nat) (L : Array Bool) (a : Act) (w : World) : Prop :=
  ∃ (n : Nat) (b t : Bool) (x7 x28 x29 a1 a2 a3 : Value), 1 ≤ n ∧ n ≤ 3 ∧ m + n + b.toNat + t.toNat = 5 ∧ L = sprL n b t ∧ a = { tmps := #[y0, (.int .i64 y), (.int .i64 day), (.pointer (some ⟨kc, 0, none⟩)), y4, y5, y6, vl, x7, y9, y10, y11, y12, y13, y14, y15, y16, y17, y18, y19, y20, y21, y22, y23, y24, y25, y26, y27, y28, y29, y30, y31, (.agg #[.int .i64 c.free, vs, vf]), vl, x28, x29, undef, undef, undef, undef, undef, undef, undef, undef, undef, undef, undef, undef, undef, undef, undef, undef, undef, undef, undef, undef, undef, undef, undef, undef, undef, undef, undef, undef, undef, undef, undef, undef, undef, undef, undef, undef, undef, undef, undef, undef, undef, undef, undef, undef, undef, undef, undef, undef, undef, undef, undef, undef, undef, undef, undef, undef, undef, undef, undef, undef, undef, undef, undef, undef, undef, undef, undef, undef, undef, undef, undef, undef, undef, undef, undef, undef, undef, undef, undef, undef, undef, undef, undef, undef, undef, undef, undef, undef, undef, undef, undef, undef, undef, undef, undef, undef, undef, undef, undef, undef, undef], defers := [] } ∧ OccI w0 l x L1 L2 L3 n b t x7 vl x28 x29 a1 a2 a3 w
section
variable (Q : Exit → Act → World → Prop) (c : Cat) (vs vf : Value) (y day : Int) (kc : Nat) (vl : Value) (y0 y4 y5 y6 y9 y10 y11 y12 y13 y14 y15 y16 y17 y18 y19 y20 y21 y22 y23 y24 y25 y26 y27 y28 y29 y30 y31 : Value) (w0 : World) (l : List Cd) (hll : l.length ≤ 1000) (x : Cd) (L1 L2 L3 : List Int)
  (QR : Hid (∀ u v, Below w0.heap.size w0 u → CsAt u v l → Calls Try.prog 11 #[(.agg #[.int .i64 c.free, vs, vf]), v] u fun e w' => ∃ a1 a2 a3, e = .returned (.agg (occRow x a1 a2 a3)) ∧ R3 u.heap.size a1 a2 a3 L1 L2 L3 w' ∧ Below u.heap.size u w'))
include hll QR
set_option maxRecDepth 100000 in
theorem spr_step (m : Nat) (L : Array Bool) (a : Act) (w : World) (h : sprS c vs vf y day kc vl y0 y4 y5 y6 y9 y10 y11 y12 y13 y14 y15 y16 y17 y18 y19 y20 y21 y22 y23 y24 y25 y26 y27 y28 y29 y30 y31 w0 l x L1 L2 L3 (m + 1) L a w) (i : Nat) (hi : i ∈ Region.ready .any (sprO Try.f4) L) :
    wpOp Try.prog (sprO Try.f4) Q i (fun a' w' => Below w0.heap.size w0 w' ∧ sprS c vs vf y day kc vl y0 y4 y5 y6 y9 y10 y11 y12 y13 y14 y15 y16 y17 y18 y19 y20 y21 y22 y23 y24 y25 y26 y27 y28 y29 y30 y31 w0 l x L1 L2 L3 m (L.setIfInBounds i true) a' w') a w := by
  obtain ⟨n, b, t, x7, x28, x29, a1, a2, a3, h0, hn, hm, rfl, rfl, V⟩ := h
  rw [spr_eq h0 hn V.ht] at hi
  rcases spr_mem hi with ⟨rfl, rfl⟩ | ⟨rfl, rfl⟩ | ⟨rfl, rfl⟩ | ⟨rfl, rfl, rfl, rfl⟩
  · have ht : t = false := by cases t; rfl; exact absurd (V.ht rfl).1 (by decide)
    subst ht
    refine wpOp_step (o := { dst := some 34, op := _, type := _, pos := _, after := _, guard := _ }) rfl (fun K' hK => ?_)
    go_simp
    go_at_call 12
    refine (fwd21_any _ _ _ hll (V.h1 rfl)).mono ?_
    rintro e w' ⟨v, rfl, hv, hb⟩
    have V' := V.on hb
    exact hK _ _ ⟨V'.bl, 2, b, false, x7, v, x29, a1, a2, a3, by omega, by omega, by omega, by simp [sprL], rfl, V'.bl, fun e => absurd e (by decide), fun _ => hv.cs, fun e => absurd e (by decide), V'.hb, fun e => absurd e (by decide)⟩
  · have ht : t = false := by cases t; rfl; exact absurd (V.ht rfl).1 (by decide)
    subst ht
    refine wpOp_step (o := { dst := some 35, op := _, type := _, pos := _, after := _, guard := _ }) rfl (fun K' hK => ?_)
    go_simp
    go_at_call 11
    refine (QR.out _ _ V.bl (V.h2 rfl)).mono ?_
    rintro e w' ⟨b1, b2, b3, rfl, hr, hb⟩
    have V' := V.on hb
    refine hK _ _ ⟨V'.bl, 3, b, false, x7, x28, _, b1, b2, b3, by omega, by omega, by omega, by simp [sprL], rfl, V'.bl, fun e => absurd e (by decide), fun e => absurd e (by decide), fun _ => ⟨rfl, hr.lower V.bl.size⟩, fun e => ?_, fun e => absurd e (by decide)⟩
    exact V'.hb e
  · have ht : t = false := by cases t; rfl; exact absurd (V.ht rfl).2 (by decide)
    subst ht
    refine wpOp_step (o := { dst := some 8, op := _, type := _, pos := _, after := _, guard := _ }) rfl (fun K' hK => ?_)
    go_simp
    have V' := V.on ((Below.refl _ _).alloc (Nat.le_refl _) (.cells ocrZ 35))
    exact hK _ _ ⟨V'.bl, n, true, false, _, x28, x29, a1, a2, a3, h0, hn, by simp at hm ⊢; omega, by simp [sprL], rfl, V'.bl, V'.h1, V'.h2, V'.h3, fun _ => ⟨w.heap.size, rfl, V.bl.size, heap_alloc_new w _⟩, fun e => absurd e (by decide)⟩
  · obtain ⟨kb, rfl, e2, e3⟩ := V.hb rfl
    rw [if_neg (by decide)] at e3
    obtain ⟨rfl, hr⟩ := V.h3 rfl
    have nk : ∀ {u : Value} {xs : List Int}, IntsAt w0.heap.size u xs w → u.ownBlock ≠ some kb := fun {u xs} hu e => by
      rcases hu.2 with ⟨rfl, _⟩ | ⟨g, cap, cur, rfl, _, hg', _⟩
      · cases e
      · obtain rfl : g = kb := by simpa [Value.ownBlock] using e
        rw [e3] at hg'
        injection hg' with hg'
        injection hg' with _ h2
        exact absurd h2 (by decide)
    obtain ⟨A1, c1, rfl⟩ := ints_form hr.fa
    obtain ⟨A2, c2, rfl⟩ := ints_form hr.fb
    obtain ⟨A3, c3, rfl⟩ := ints_form hr.fc
    obtain ⟨s0, s1, s2, s3, s4, s5, s6, g0, g1, g2, g3, g4, g5, g6, gz⟩ := row7 e3
    refine wpOp_step (o := { dst := none, op := _, type := _, pos := _, after := _, guard := _ }) rfl (fun K' hK => ?_)
    go_simp
    have g := ((((((V.bl.setCell (p := ⟨kb, 0, none⟩) e2 (.int .i64 x.k)).setCell (p := ⟨kb, 1, none⟩) e2 (.int .i64 x.i)).setCell (p := ⟨kb, 2, none⟩) e2 (.int .i64 x.r)).setCell (p := ⟨kb, 3, none⟩) e2 (.string x.id)).setCell (p := ⟨kb, 4, none⟩) e2 (.slice A1 L1.length c1)).setCell (p := ⟨kb, 5, none⟩) e2 (.slice A2 L2.length c2)).setCell (p := ⟨kb, 6, none⟩) e2 (.slice A3 L3.length c3)
    exact hK _ _ ⟨g, 3, true, true, _, x28, _, _, _, _, h0, hn, by simp at hm ⊢; omega, by simp [sprL], rfl, g, fun e => absurd e (by decide), fun e => absurd e (by decide), fun _ => ⟨rfl, ⟨ints_sets hr.fa (nk hr.fa) _ _ _ _ _ _ _, ints_sets hr.fb (nk hr.fb) _ _ _ _ _ _ _, ints_sets hr.fc (nk hr.fc) _ _ _ _ _ _ _, hr.ab, hr.ac, hr.bc⟩⟩, fun _ => ⟨kb, rfl, e2, by rw [if_pos rfl]; exact row7_set e3 _ _ _ _ _ _ _⟩, fun _ => ⟨rfl, rfl⟩⟩
variable (hq : ∀ e (a : Act) d v w, Q (.panic e) (a.put d v) w → Q (.panic e) a w)
  (hkc : kc < w0.heap.size) (k0 : w0.cell? ⟨kc, 0, none⟩ = some (.int .i64 c.free)) (k1 : w0.cell? ⟨kc, 1, none⟩ = some vs) (k2 : w0.cell? ⟨kc, 2, none⟩ = some vf) (hvl : CsAt w0 vl l)
  (hend : ∀ x7 x28 x29 a1 a2 a3 kb w', Below w0.heap.size w0 w' → R3 w0.heap.size a1 a2 a3 L1 L2 L3 w' → x7 = .pointer (some ⟨kb, 0, none⟩) → w0.heap.size ≤ kb → w'.heap[kb]? = some (.cells (occRow x a1 a2 a3) 35 (0, 0)) → Q .normal { tmps := #[y0, (.int .i64 y), (.int .i64 day), (.pointer (some ⟨kc, 0, none⟩)), y4, y5, y6, vl, x7, y9, y10, y11, y12, y13, y14, y15, y16, y17, y18, y19, y20, y21, y22, y23, y24, y25, y26, y27, y28, y29, y30, y31, (.agg #[.int .i64 c.free, vs, vf]), vl, x28, x29, undef, undef, undef, undef, undef, undef, undef, undef, undef, undef, undef, undef, undef, undef, undef, undef, undef, undef, undef, undef, undef, undef, undef, undef, undef, undef, undef, undef, undef, undef, undef, undef, undef, undef, undef, undef, undef, undef, undef, undef, undef, undef, undef, undef, undef, undef, undef, undef, undef, undef, undef, undef, undef, undef, undef, undef, undef, undef, undef, undef, undef, undef, undef, undef, undef, undef, undef, undef, undef, undef, undef, undef, undef, undef, undef, undef, undef, undef, undef, undef, undef, undef, undef, undef, undef, undef, undef, undef, undef, undef, undef, undef, undef, undef, undef, undef, undef, undef, undef, undef, undef], defers := [] } w')
include hq hkc k0 k1 k2 hvl hend
set_option maxRecDepth 100000 in
theorem spr_region (id : Nat) : (Code.region id (sprO Try.f4) true).wp Try.prog Q { tmps := #[y0, (.int .i64 y), (.int .i64 day), (.pointer (some ⟨kc, 0, none⟩)), y4, y5, y6, vl, undef, y9, y10, y11, y12, y13, y14, y15, y16, y17, y18, y19, y20, y21, y22, y23, y24, y25, y26, y27, y28, y29, y30, y31, undef, undef, undef, undef, undef, undef, undef, undef, undef, undef, undef, undef, undef, undef, undef, undef, undef, undef, undef, undef, undef, undef, undef, undef, undef, undef, undef, undef, undef, undef, undef, undef, undef, undef, undef, undef, undef, undef, undef, undef, undef, undef, undef, undef, undef, undef, undef, undef, undef, undef, undef, undef, undef, undef, undef, undef, undef, undef, undef, undef, undef, undef, undef, undef, undef, undef, undef, undef, undef, undef, undef, undef, undef, undef, undef, undef, undef, undef, undef, undef, undef, undef, undef, undef, undef, undef, undef, undef, undef, undef, undef, undef, undef, undef, undef, undef, undef, undef, undef, undef, undef, undef, undef, undef, undef], defers := [] } w0 := by
  refine wp_region_held_drew (S := fun u => Below w0.heap.size w0 u) (by kernel_rfl) ((Below.refl _ _).drew) (fun hHeld => ?_)
  refine wpAnyH_take (i := 0) (oi := { dst := some 32, op := _, type := _, pos := _, after := _, guard := _ }) (v := ?v_0) rfl (by kernel_rfl) (by kernel_rfl) (by kernel_rfl) (fun c a w h => hq c a _ _ w h) (Or.inl ⟨by rfl, ?hy_0⟩) hHeld ?_
  case hy_0 => (intro w' hSw; (try dsimp only at hSw); have q0 := (hSw.cell (p := ⟨kc, 0, none⟩) hkc).trans k0; have q1 := (hSw.cell (p := ⟨kc, 1, none⟩) hkc).trans k1; have q2 := (hSw.cell (p := ⟨kc, 2, none⟩) hkc).trans k2; go_simp; try with_reducible rfl)
  simp only [Act.put, List.setIfInBounds_toArray, List.set_cons_zero, List.set_cons_succ]
  refine wpAnyH_take (i := 1) (oi := { dst := some 33, op := _, type := _, pos := _, after := _, guard := _ }) (v := ?v_1) rfl (by kernel_rfl) (by kernel_rfl) (by kernel_rfl) (fun c a w h => hq c a _ _ w h) (Or.inl ⟨by rfl, ?hy_1⟩) hHeld ?_
  case hy_1 => (intro w' hSw; (try dsimp only at hSw); go_simp; try with_reducible rfl)
  simp only [Act.put, List.setIfInBounds_toArray, List.set_cons_zero, List.set_cons_succ]
  refine any_keeps (sprS c vs vf y day kc vl y0 y4 y5 y6 y9 y10 y11 y12 y13 y14 y15 y16 y17 y18 y19 y20 y21 y22 y23 y24 y25 y26 y27 y28 y29 y30 y31 w0 l x L1 L2 L3) ?_ ?_ ?_ 4 _ _ _ ?_
  · rintro m L a w' ⟨n, b, t, x7, x28, x29, a1, a2, a3, h0, hn, hm, rfl, rfl, V⟩ hr
    rw [spr_eq h0 hn V.ht] at hr
    have e1 : n = 3 := by
      simp only [sprR, List.append_eq_nil_iff] at hr
      obtain ⟨⟨h1, -⟩, -⟩ := hr
      (repeat' split at h1) <;> first | omega | (exact absurd h1 (by simp))
    subst e1
    have e2 : b = true := by cases b; (simp [sprR] at hr); rfl
    subst e2
    have e3 : t = true := by cases t; (simp [sprR] at hr); rfl
    subst e3
    obtain ⟨kb, p1, p2, p3⟩ := V.hb rfl
    rw [if_pos rfl] at p3
    exact hend _ _ _ _ _ _ kb w' V.bl (V.h3 rfl).2 p1 p2 p3
  · rintro L a w' ⟨n, b, t, x7, x28, x29, a1, a2, a3, h0, hn, hm, rfl, rfl, V⟩
    rw [spr_eq h0 hn V.ht]
    have hb1 : b.toNat ≤ 1 := by cases b <;> decide
    have ht1 : t.toNat ≤ 1 := by cases t <;> decide
    obtain rfl : n = 3 := by omega
    obtain rfl : b = true := by cases b; (simp at hm; omega); rfl
    obtain rfl : t = true := by cases t; (simp at hm); rfl
    rfl
  · intro m L a w' h i hi
    exact spr_step Q c vs vf y day kc vl y0 y4 y5 y6 y9 y10 y11 y12 y13 y14 y15 y16 y17 y18 y19 y20 y21 y22 y23 y24 y25 y26 y27 y28 y29 y30 y31 w0 l hll x L1 L2 L3 QR m L a w' h i hi
  · refine ⟨1, false, false, undef, undef, undef, .slice none 0 0, .slice none 0 0, .slice none 0 0, by decide, by decide, rfl, by kernel_rfl, rfl, (Below.refl _ _).drew, fun _ => hvl.on ((Below.refl _ _).drew), ?_, ?_, ?_, ?_⟩ <;> intro e <;> exact absurd e (by decide)
end
/-! Displaces -/
noncomputable def disO (f : Func) : Array Oper := match f.body with | some (.seq _ (.seq _ (.seq (.region _ ops _) _))) => ops | _ => #[]
def disL (n : Nat) (b t : Bool) : Array Bool := #[true, true, true, true, decide (1 ≤ n), decide (2 ≤ n), decide (3 ≤ n), b, t]
def disR (n : Nat) (b t : Bool) : List Nat := (if n = 0 then [4] else if n = 1 then [5] else if n = 2 then [6] else []) ++ (if b = false then [7] else []) ++ (if n = 3 ∧ b = true ∧ t = false then [8] else [])
theorem dis_all : ([0, 1, 2, 3].all fun n => [false, true].all fun b => [false, true].all fun t => (t && !(n == 3 && b)) || (Region.ready .any (disO Try.f5) (disL n b t) == disR n b t)) = true := by kernel_rfl
theorem dis_eq {n : Nat} {b t : Bool} (h0 : 0 ≤ n) (hn : n ≤ 3) (ht : t = true → n = 3 ∧ b = true) : Region.ready .any (disO Try.f5) (disL n b t) = disR n b t := by
  have m : n ∈ [0, 1, 2, 3] := by
    have : n = 0 ∨ n = 1 ∨ n = 2 ∨ n = 3 := by omega
    rcases this with rfl | rfl | rfl | rfl <;> simp
  have := List.all_eq_true.1 (List.all_eq_true.1 (List.all_eq_true.1 dis_all n m) b (by cases b <;> simp)) t (by cases t <;> simp)
  have h2 : (t && !(n == 3 && b)) = false := by
    cases t
    · rfl
    · obtain ⟨rfl, rfl⟩ := ht rfl; rfl
  rw [h2] at this
  simpa using this
theorem dis_mem {n i : Nat} {b t : Bool} (h : i ∈ disR n b t) : (i = 4 ∧ n = 0) ∨ (i = 5 ∧ n = 1) ∨ (i = 6 ∧ n = 2) ∨ (i = 7 ∧ b = false) ∨ (i = 8 ∧ n = 3 ∧ b = true ∧ t = false) := by
  simp only [disR, List.mem_append] at h
  rcases h with (h | h) | h
  all_goals (repeat' split at h) <;> simp_all
def disS (c : Cat) (vs vf : Value) (y day : Int) (kc : Nat) (y0 y4 y5 y6 y8 y9 y10 y11 y12 y13 y14 y15 y16 y17 y18 y19 y20 y21 y22 y23 y24 y25 y26 y27 y28 : Value) (w0 : World) (l : List Cd) (x : Cd) (L1 L2 L3 : List Int) (m : Nat) (L : Array Bool) (a : Act) (w : World) : Prop :=
  ∃ (n : Nat) (b t : Bool) (x7 x27 x28 x29 a1 a2 a3 : Value), 0 ≤ n ∧ n ≤ 3 ∧ m + n + b.toNat + t.toNat = 5 ∧ L = disL n b t ∧ a = { tmps := #[y0, (.int .i64 y), (.int .i64 day), (.pointer (some ⟨kc, 0, none⟩)), y4, y5, y6, x7, y8, y9, y10, y11, y12, y13, y14, y15, y16, y17, y18, y19, y20, y21, y22, y23, y24, y25, y26, y27, y28, (.agg #[.int .i64 c.free, vs, vf]), (.agg #[.int .i64 c.free, vs, vf]), (.int .i64 y), (.int .i64 day), x27, x28, x29, undef, undef, undef, undef, undef, undef, undef, undef, undef, undef, undef, undef, undef, undef, undef, undef, undef, undef, undef, undef, undef, undef, undef, undef, undef, undef, undef, undef, undef, undef, undef, undef, undef, undef, undef, undef, undef, undef, undef, undef, undef, undef, undef, undef, undef, undef, undef, undef, undef, undef, undef, undef, undef, undef, undef, undef, undef, undef, undef, undef, undef, undef, undef, undef, undef, undef, undef, undef, undef, undef, undef, undef, undef, undef, undef, undef, undef, undef, undef, undef, undef, undef, undef, undef, undef, undef, undef, undef, undef, undef, undef, undef, undef, undef, undef, undef, undef, undef, undef, undef, undef, undef, undef, undef, undef, undef, undef, undef, undef, undef, undef, undef, undef, undef, undef, undef, undef, undef, undef, undef, undef, undef, undef, undef, undef, undef, undef, undef, undef, undef, undef, undef, undef, undef, undef, undef, undef, undef], defers := [] } ∧ OccI w0 l x L1 L2 L3 n b t x7 x27 x28 x29 a1 a2 a3 w
section
variable (Q : Exit → Act → World → Prop) (c : Cat) (vs vf : Value) (y day : Int) (kc : Nat) (y0 y4 y5 y6 y8 y9 y10 y11 y12 y13 y14 y15 y16 y17 y18 y19 y20 y21 y22 y23 y24 y25 y26 y27 y28 : Value) (w0 : World) (l : List Cd) (hll : l.length ≤ 1000) (x : Cd) (L1 L2 L3 : List Int)
  (QO : Hid (∀ u, Below w0.heap.size w0 u → Calls Try.prog 10 #[(.agg #[.int .i64 c.free, vs, vf]), .int .i64 y, .int .i64 day] u (RetCs 39 u l)))
  (QR : Hid (∀ u v, Below w0.heap.size w0 u → CsAt u v l → Calls Try.prog 11 #[(.agg #[.int .i64 c.free, vs, vf]), v] u fun e w' => ∃ a1 a2 a3, e = .returned (.agg (occRow x a1 a2 a3)) ∧ R3 u.heap.size a1 a2 a3 L1 L2 L3 w' ∧ Below u.heap.size u w'))
include hll QO QR
set_option maxRecDepth 100000 in
theorem dis_step (m : Nat) (L : Array Bool) (a : Act) (w : World) (h : disS c vs vf y day kc y0 y4 y5 y6 y8 y9 y10 y11 y12 y13 y14 y15 y16 y17 y18 y19 y20 y21 y22 y23 y24 y25 y26 y27 y28 w0 l x L1 L2 L3 (m + 1) L a w) (i : Nat) (hi : i ∈ Region.ready .any (disO Try.f5) L) :
    wpOp Try.prog (disO Try.f5) Q i (fun a' w' => Below w0.heap.size w0 w' ∧ disS c vs vf y day kc y0 y4 y5 y6 y8 y9 y10 y11 y12 y13 y14 y15 y16 y17 y18 y19 y20 y21 y22 y23 y24 y25 y26 y27 y28 w0 l x L1 L2 L3 m (L.setIfInBounds i true) a' w') a w := by
  obtain ⟨n, b, t, x7, x27, x28, x29, a1, a2, a3, h0, hn, hm, rfl, rfl, V⟩ := h
  rw [dis_eq h0 hn V.ht] at hi
  rcases dis_mem hi with ⟨rfl, rfl⟩ | ⟨rfl, rfl⟩ | ⟨rfl, rfl⟩ | ⟨rfl, rfl⟩ | ⟨rfl, rfl, rfl, rfl⟩
  · have ht : t = false := by cases t; rfl; exact absurd (V.ht rfl).1 (by decide)
    subst ht
    refine wpOp_step (o := { dst := some 33, op := _, type := _, pos := _, after := _, guard := _ }) rfl (fun K' hK => ?_)
    go_simp
    go_at_call 10
    refine (QO.out _ V.bl).mono ?_
    rintro e w' ⟨v, rfl, hv, hb⟩
    have V' := V.on hb
    exact hK _ _ ⟨V'.bl, 1, b, false, x7, v, x28, x29, a1, a2, a3, by omega, by omega, by omega, by simp [disL], rfl, V'.bl, fun _ => hv.cs, fun e => absurd e (by decide), fun e => absurd e (by decide), V'.hb, fun e => absurd e (by decide)⟩
  · have ht : t = false := by cases t; rfl; exact absurd (V.ht rfl).1 (by decide)
    subst ht
    refine wpOp_step (o := { dst := some 34, op := _, type := _, pos := _, after := _, guard := _ }) rfl (fun K' hK => ?_)
    go_simp
    go_at_call 12
    refine (fwd21_any _ _ _ hll (V.h1 rfl)).mono ?_
    rintro e w' ⟨v, rfl, hv, hb⟩
    have V' := V.on hb
    exact hK _ _ ⟨V'.bl, 2, b, false, x7, x27, v, x29, a1, a2, a3, by omega, by omega, by omega, by simp [disL], rfl, V'.bl, fun e => absurd e (by decide), fun _ => hv.cs, fun e => absurd e (by decide), V'.hb, fun e => absurd e (by decide)⟩
  · have ht : t = false := by cases t; rfl; exact absurd (V.ht rfl).1 (by decide)
    subst ht
    refine wpOp_step (o := { dst := some 35, op := _, type := _, pos := _, after := _, guard := _ }) rfl (fun K' hK => ?_)
    go_simp
    go_at_call 11
    refine (QR.out _ _ V.bl (V.h2 rfl)).mono ?_
    rintro e w' ⟨b1, b2, b3, rfl, hr, hb⟩
    have V' := V.on hb
    refine hK _ _ ⟨V'.bl, 3, b, false, x7, x27, x28, _, b1, b2, b3, by omega, by omega, by omega, by simp [disL], rfl, V'.bl, fun e => absurd e (by decide), fun e => absurd e (by decide), fun _ => ⟨rfl, hr.lower V.bl.size⟩, fun e => ?_, fun e => absurd e (by decide)⟩
    exact V'.hb e
  · have ht : t = false := by cases t; rfl; exact absurd (V.ht rfl).2 (by decide)
    subst ht
    refine wpOp_step (o := { dst := some 7, op := _, type := _, pos := _, after := _, guard := _ }) rfl (fun K' hK => ?_)
    go_simp
    have V' := V.on ((Below.refl _ _).alloc (Nat.le_refl _) (.cells ocrZ 35))
    exact hK _ _ ⟨V'.bl, n, true, false, _, x27, x28, x29, a1, a2, a3, h0, hn, by simp at hm ⊢; omega, by simp [disL], rfl, V'.bl, V'.h1, V'.h2, V'.h3, fun _ => ⟨w.heap.size, rfl, V.bl.size, heap_alloc_new w _⟩, fun e => absurd e (by decide)⟩
  · obtain ⟨kb, rfl, e2, e3⟩ := V.hb rfl
    rw [if_neg (by decide)] at e3
    obtain ⟨rfl, hr⟩ := V.h3 rfl
    have nk : ∀ {u : Value} {xs : List Int}, IntsAt w0.heap.size u xs w → u.ownBlock ≠ some kb := fun {u xs} hu e => by
      rcases hu.2 with ⟨rfl, _⟩ | ⟨g, cap, cur, rfl, _, hg', _⟩
      · cases e
      · obtain rfl : g = kb := by simpa [Value.ownBlock] using e
        rw [e3] at hg'
        injection hg' with hg'
        injection hg' with _ h2
        exact absurd h2 (by decide)
    obtain ⟨A1, c1, rfl⟩ := ints_form hr.fa
    obtain ⟨A2, c2, rfl⟩ := ints_form hr.fb
    obtain ⟨A3, c3, rfl⟩ := ints_form hr.fc
    obtain ⟨s0, s1, s2, s3, s4, s5, s6, g0, g1, g2, g3, g4, g5, g6, gz⟩ := row7 e3
    refine wpOp_step (o := { dst := none, op := _, type := _, pos := _, after := _, guard := _ }) rfl (fun K' hK => ?_)
    go_simp
    have g := ((((((V.bl.setCell (p := ⟨kb, 0, none⟩) e2 (.int .i64 x.k)).setCell (p := ⟨kb, 1, none⟩) e2 (.int .i64 x.i)).setCell (p := ⟨kb, 2, none⟩) e2 (.int .i64 x.r)).setCell (p := ⟨kb, 3, none⟩) e2 (.string x.id)).setCell (p := ⟨kb, 4, none⟩) e2 (.slice A1 L1.length c1)).setCell (p := ⟨kb, 5, none⟩) e2 (.slice A2 L2.length c2)).setCell (p := ⟨kb, 6, none⟩) e2 (.slice A3 L3.length c3)
    exact hK _ _ ⟨g, 3, true, true, _, x27, x28, _, _, _, _, h0, hn, by simp at hm ⊢; omega, by simp [disL], rfl, g, fun e => absurd e (by decide), fun e => absurd e (by decide), fun _ => ⟨rfl, ⟨ints_sets hr.fa (nk hr.fa) _ _ _ _ _ _ _, ints_sets hr.fb (nk hr.fb) _ _ _ _ _ _ _, ints_sets hr.fc (nk hr.fc) _ _ _ _ _ _ _, hr.ab, hr.ac, hr.bc⟩⟩, fun _ => ⟨kb, rfl, e2, by rw [if_pos rfl]; exact row7_set e3 _ _ _ _ _ _ _⟩, fun _ => ⟨rfl, rfl⟩⟩
variable (hq : ∀ e (a : Act) d v w, Q (.panic e) (a.put d v) w → Q (.panic e) a w)
  (hkc : kc < w0.heap.size) (k0 : w0.cell? ⟨kc, 0, none⟩ = some (.int .i64 c.free)) (k1 : w0.cell? ⟨kc, 1, none⟩ = some vs) (k2 : w0.cell? ⟨kc, 2, none⟩ = some vf)
  (hend : ∀ x7 x27 x28 x29 a1 a2 a3 kb w', Below w0.heap.size w0 w' → R3 w0.heap.size a1 a2 a3 L1 L2 L3 w' → x7 = .pointer (some ⟨kb, 0, none⟩) → w0.heap.size ≤ kb → w'.heap[kb]? = some (.cells (occRow x a1 a2 a3) 35 (0, 0)) → Q .normal { tmps := #[y0, (.int .i64 y), (.int .i64 day), (.pointer (some ⟨kc, 0, none⟩)), y4, y5, y6, x7, y8, y9, y10, y11, y12, y13, y14, y15, y16, y17, y18, y19, y20, y21, y22, y23, y24, y25, y26, y27, y28, (.agg #[.int .i64 c.free, vs, vf]), (.agg #[.int .i64 c.free, vs, vf]), (.int .i64 y), (.int .i64 day), x27, x28, x29, undef, undef, undef, undef, undef, undef, undef, undef, undef, undef, undef, undef, undef, undef, undef, undef, undef, undef, undef, undef, undef, undef, undef, undef, undef, undef, undef, undef, undef, undef, undef, undef, undef, undef, undef, undef, undef, undef, undef, undef, undef, undef, undef, undef, undef, undef, undef, undef, undef, undef, undef, undef, undef, undef, undef, undef, undef, undef, undef, undef, undef, undef, undef, undef, undef, undef, undef, undef, undef, undef, undef, undef, undef, undef, undef, undef, undef, undef, undef, undef, undef, undef, undef, undef, undef, undef, undef, undef, undef, undef, undef, undef, undef, undef, undef, undef, undef, undef, undef, undef, undef, undef, undef, undef, undef, undef, undef, undef, undef, undef, undef, undef, undef, undef, undef, undef, undef, undef, undef, undef, undef, undef, undef, undef, undef, undef, undef, undef, undef, undef, undef, undef, undef, undef, undef, undef, undef, undef], defers := [] } w')
include hq hkc k0 k1 k2 hend
set_option maxRecDepth 100000 in
theorem dis_region (id : Nat) : (Code.region id (disO Try.f5) true).wp Try.prog Q { tmps := #[y0, (.int .i64 y), (.int .i64 day), (.pointer (some ⟨kc, 0, none⟩)), y4, y5, y6, undef, y8, y9, y10, y11, y12, y13, y14, y15, y16, y17, y18, y19, y20, y21, y22, y23, y24, y25, y26, y27, y28, undef, undef, undef, undef, undef, undef, undef, undef, undef, undef, undef, undef, undef, undef, undef, undef, undef, undef, undef, undef, undef, undef, undef, undef, undef, undef, undef, undef, undef, undef, undef, undef, undef, undef, undef, undef, undef, undef, undef, undef, undef, undef, undef, undef, undef, undef, undef, undef, undef, undef, undef, undef, undef, undef, undef, undef, undef, undef, undef, undef, undef, undef, undef, undef, undef, undef, undef, undef, undef, undef, undef, undef, undef, undef, undef, undef, undef, undef, undef, undef, undef, undef, undef, undef, undef, undef, undef, undef, undef, undef, undef, undef, undef, undef, undef, undef, undef, undef, undef, undef, undef, undef, undef, undef, undef, undef, undef, undef, undef, undef, undef, undef, undef, undef, undef, undef, undef, undef, undef, undef, undef, undef, undef, undef, undef, undef, undef, undef, undef, undef, undef, undef, undef, undef, undef, undef, undef, undef, undef, undef, undef, undef, undef, undef, undef], defers := [] } w0 := by
  refine wp_region_held_drew (S := fun u => Below w0.heap.size w0 u) (by kernel_rfl) ((Below.refl _ _).drew) (fun hHeld => ?_)
  refine wpAnyH_take (i := 0) (oi := { dst := some 29, op := _, type := _, pos := _, after := _, guard := _ }) (v := ?v_0) rfl (by kernel_rfl) (by kernel_rfl) (by kernel_rfl) (fun c a w h => hq c a _ _ w h) (Or.inl ⟨by rfl, ?hy_0⟩) hHeld ?_
  case hy_0 => (intro w' hSw; (try dsimp only at hSw); have q0 := (hSw.cell (p := ⟨kc, 0, none⟩) hkc).trans k0; have q1 := (hSw.cell (p := ⟨kc, 1, none⟩) hkc).trans k1; have q2 := (hSw.cell (p := ⟨kc, 2, none⟩) hkc).trans k2; go_simp; try with_reducible rfl)
  simp only [Act.put, List.setIfInBounds_toArray, List.set_cons_zero, List.set_cons_succ]
  refine wpAnyH_take (i := 1) (oi := { dst := some 30, op := _, type := _, pos := _, after := _, guard := _ }) (v := ?v_1) rfl (by kernel_rfl) (by kernel_rfl) (by kernel_rfl) (fun c a w h => hq c a _ _ w h) (Or.inl ⟨by rfl, ?hy_1⟩) hHeld ?_
  case hy_1 => (intro w' hSw; (try dsimp only at hSw); have q0 := (hSw.cell (p := ⟨kc, 0, none⟩) hkc).trans k0; have q1 := (hSw.cell (p := ⟨kc, 1, none⟩) hkc).trans k1; have q2 := (hSw.cell (p := ⟨kc, 2, none⟩) hkc).trans k2; go_simp; try with_reducible rfl)
  simp only [Act.put, List.setIfInBounds_toArray, List.set_cons_zero, List.set_cons_succ]
  refine wpAnyH_take (i := 2) (oi := { dst := some 31, op := _, type := _, pos := _, after := _, guard := _ }) (v := ?v_2) rfl (by kernel_rfl) (by kernel_rfl) (by kernel_rfl) (fun c a w h => hq c a _ _ w h) (Or.inl ⟨by rfl, ?hy_2⟩) hHeld ?_
  case hy_2 => (intro w' hSw; (try dsimp only at hSw); go_simp; try with_reducible rfl)
  simp only [Act.put, List.setIfInBounds_toArray, List.set_cons_zero, List.set_cons_succ]
  refine wpAnyH_take (i := 3) (oi := { dst := some 32, op := _, type := _, pos := _, after := _, guard := _ }) (v := ?v_3) rfl (by kernel_rfl) (by kernel_rfl) (by kernel_rfl) (fun c a w h => hq c a _ _ w h) (Or.inl ⟨by rfl, ?hy_3⟩) hHeld ?_
  case hy_3 => (intro w' hSw; (try dsimp only at hSw); go_simp; try with_reducible rfl)
  simp only [Act.put, List.setIfInBounds_toArray, List.set_cons_zero, List.set_cons_succ]
  refine any_keeps (disS c vs vf y day kc y0 y4 y5 y6 y8 y9 y10 y11 y12 y13 y14 y15 y16 y17 y18 y19 y20 y21 y22 y23 y24 y25 y26 y27 y28 w0 l x L1 L2 L3) ?_ ?_ ?_ 5 _ _ _ ?_
  · rintro m L a w' ⟨n, b, t, x7, x27, x28, x29, a1, a2, a3, h0, hn, hm, rfl, rfl, V⟩ hr
    rw [dis_eq h0 hn V.ht] at hr
    have e1 : n = 3 := by
      simp only [disR, List.append_eq_nil_iff] at hr
      obtain ⟨⟨h1, -⟩, -⟩ := hr
      (repeat' split at h1) <;> first | omega | (exact absurd h1 (by simp))
    subst e1
    have e2 : b = true := by cases b; (simp [disR] at hr); rfl
    subst e2
    have e3 : t = true := by cases t; (simp [disR] at hr); rfl
    subst e3
    obtain ⟨kb, p1, p2, p3⟩ := V.hb rfl
    rw [if_pos rfl] at p3
    exact hend _ _ _ _ _ _ _ kb w' V.bl (V.h3 rfl).2 p1 p2 p3
  · rintro L a w' ⟨n, b, t, x7, x27, x28, x29, a1, a2, a3, h0, hn, hm, rfl, rfl, V⟩
    rw [dis_eq h0 hn V.ht]
    have hb1 : b.toNat ≤ 1 := by cases b <;> decide
    have ht1 : t.toNat ≤ 1 := by cases t <;> decide
    obtain rfl : n = 3 := by omega
    obtain rfl : b = true := by cases b; (simp at hm; omega); rfl
    obtain rfl : t = true := by cases t; (simp at hm); rfl
    rfl
  · intro m L a w' h i hi
    exact dis_step Q c vs vf y day kc y0 y4 y5 y6 y8 y9 y10 y11 y12 y13 y14 y15 y16 y17 y18 y19 y20 y21 y22 y23 y24 y25 y26 y27 y28 w0 l hll x L1 L2 L3 QO QR m L a w' h i hi
  · refine ⟨0, false, false, undef, undef, undef, undef, .slice none 0 0, .slice none 0 0, .slice none 0 0, by decide, by decide, rfl, by kernel_rfl, rfl, (Below.refl _ _).drew, ?_, ?_, ?_, ?_, ?_⟩ <;> intro e <;> exact absurd e (by decide)
end
/-! Matches -/
noncomputable def matO (f : Func) : Array Oper := match f.body with | some (.seq _ (.seq _ (.seq _ (.seq _ (.seq _ (.seq (.region _ ops _) _)))))) => ops | _ => #[]
def matL (n : Nat) (b t : Bool) : Array Bool := #[true, true, decide (2 ≤ n), decide (3 ≤ n), b, t]
def matR (n : Nat) (b t : Bool) : List Nat := (if n = 1 then [2] else if n = 2 then [3] else []) ++ (if b = false then [4] else []) ++ (if n = 3 ∧ b = true ∧ t = false then [5] else [])
theorem mat_all : ([1, 2, 3].all fun n => [false, true].all fun b => [false, true].all fun t => (t && !(n == 3 && b)) || (Region.ready .any (matO Try.f3) (matL n b t) == matR n b t)) = true := by kernel_rfl
theorem mat_eq {n : Nat} {b t : Bool} (h0 : 1 ≤ n) (hn : n ≤ 3) (ht : t = true → n = 3 ∧ b = true) : Region.ready .any (matO Try.f3) (matL n b t) = matR n b t := by
  have m : n ∈ [1, 2, 3] := by
    have : n = 1 ∨ n = 2 ∨ n = 3 := by omega
    rcases this with rfl | rfl | rfl <;> simp
  have := List.all_eq_true.1 (List.all_eq_true.1 (List.all_eq_true.1 mat_all n m) b (by cases b <;> simp)) t (by cases t <;> simp)
  have h2 : (t && !(n == 3 && b)) = false := by
    cases t
    · rfl
    · obtain ⟨rfl, rfl⟩ := ht rfl; rfl
  rw [h2] at this
  simpa using this
theorem mat_mem {n i : Nat} {b t : Bool} (h : i ∈ matR n b t) : (i = 2 ∧ n = 1) ∨ (i = 3 ∧ n = 2) ∨ (i = 4 ∧ b = false) ∨ (i = 5 ∧ n = 3 ∧ b = true ∧ t = false) := by
  simp only [matR, List.mem_append] at h
  rcases h with (h | h) | h
  all_goals (repeat' split at h) <;> simp_all
def matS (c : Cat) (vs vf : Value) (y day : Int) (kc : Nat) (vl : Value) (y0 y3 y5 y6 y7 y8 y9 y10 y13 y14 y15 y16 y17 y18 y19 y20 y21 y22 y23 y24 y25 y26 y27 y28 y29 y30 y31 y32 y33 y34 y35 y36 y37 y38 y39 y40 y41 y42 y43 y44 y45 y46 : Value) (w0 : World) (l : List Cd) (x : Cd) (L1 L2 L3 : List Int) (m : Nat) (L : Array Bool) (a : Act) (w : World) : Prop :=
  ∃ (n : Nat) (b t : Bool) (x7 x28 x29 a1 a2 a3 : Value), 1 ≤ n ∧ n ≤ 3 ∧ m + n + b.toNat + t.toNat = 5 ∧ L = matL n b t ∧ a = { tmps := #[y0, (.int .i64 y), (.int .i64 day), y3, (.pointer (some ⟨kc, 0, none⟩)), y5, y6, y7, y8, y9, y10, vl, x7, y13, y14, y15, y16, y17, y18, y19, y20, y21, y22, y23, y24, y25, y26, y27, y28, y29, y30, y31, y32, y33, y34, y35, y36, y37, y38, y39, y40, y41, y42, y43, y44, y45, y46, (.agg #[.int .i64 c.free, vs, vf]), vl, x28, x29, undef, undef, undef, undef, undef, undef, undef, undef, undef, undef, undef, undef, undef, undef, undef, undef, undef, undef, undef, undef, undef, undef, undef, undef, undef, undef, undef], defers := [] } ∧ OccI w0 l x L1 L2 L3 n b t x7 vl x28 x29 a1 a2 a3 w
section
variable (Q : Exit → Act → World → Prop) (c : Cat) (vs vf : Value) (y day : Int) (kc : Nat) (vl : Value) (y0 y3 y5 y6 y7 y8 y9 y10 y13 y14 y15 y16 y17 y18 y19 y20 y21 y22 y23 y24 y25 y26 y27 y28 y29 y30 y31 y32 y33 y34 y35 y36 y37 y38 y39 y40 y41 y42 y43 y44 y45 y46 : Value) (w0 : World) (l : List Cd) (hll : l.length ≤ 1000) (x : Cd) (L1 L2 L3 : List Int)
  (QR : Hid (∀ u v, Below w0.heap.size w0 u → CsAt u v l → Calls Try.prog 11 #[(.agg #[.int .i64 c.free, vs, vf]), v] u fun e w' => ∃ a1 a2 a3, e = .returned (.agg (occRow x a1 a2 a3)) ∧ R3 u.heap.size a1 a2 a3 L1 L2 L3 w' ∧ Below u.heap.size u w'))
include hll QR
set_option maxRecDepth 100000 in
theorem mat_step (m : Nat) (L : Array Bool) (a : Act) (w : World) (h : matS c vs vf y day kc vl y0 y3 y5 y6 y7 y8 y9 y10 y13 y14 y15 y16 y17 y18 y19 y20 y21 y22 y23 y24 y25 y26 y27 y28 y29 y30 y31 y32 y33 y34 y35 y36 y37 y38 y39 y40 y41 y42 y43 y44 y45 y46 w0 l x L1 L2 L3 (m + 1) L a w) (i : Nat) (hi : i ∈ Region.ready .any (matO Try.f3) L) :
    wpOp Try.prog (matO Try.f3) Q i (fun a' w' => Below w0.heap.size w0 w' ∧ matS c vs vf y day kc vl y0 y3 y5 y6 y7 y8 y9 y10 y13 y14 y15 y16 y17 y18 y19 y20 y21 y22 y23 y24 y25 y26 y27 y28 y29 y30 y31 y32 y33 y34 y35 y36 y37 y38 y39 y40 y41 y42 y43 y44 y45 y46 w0 l x L1 L2 L3 m (L.setIfInBounds i true) a' w') a w := by
  obtain ⟨n, b, t, x7, x28, x29, a1, a2, a3, h0, hn, hm, rfl, rfl, V⟩ := h
  rw [mat_eq h0 hn V.ht] at hi
  rcases mat_mem hi with ⟨rfl, rfl⟩ | ⟨rfl, rfl⟩ | ⟨rfl, rfl⟩ | ⟨rfl, rfl, rfl, rfl⟩
  · have ht : t = false := by cases t; rfl; exact absurd (V.ht rfl).1 (by decide)
    subst ht
    refine wpOp_step (o := { dst := some 49, op := _, type := _, pos := _, after := _, guard := _ }) rfl (fun K' hK => ?_)
    go_simp
    go_at_call 12
    refine (fwd21_any _ _ _ hll (V.h1 rfl)).mono ?_
    rintro e w' ⟨v, rfl, hv, hb⟩
    have V' := V.on hb
    exact hK _ _ ⟨V'.bl, 2, b, false, x7, v, x29, a1, a2, a3, by omega, by omega, by omega, by simp [matL], rfl, V'.bl, fun e => absurd e (by decide), fun _ => hv.cs, fun e => absurd e (by decide), V'.hb, fun e => absurd e (by decide)⟩
  · have ht : t = false := by cases t; rfl; exact absurd (V.ht rfl).1 (by decide)
    subst ht
    refine wpOp_step (o := { dst := some 50, op := _, type := _, pos := _, after := _, guard := _ }) rfl (fun K' hK => ?_)
    go_simp
    go_at_call 11
    refine (QR.out _ _ V.bl (V.h2 rfl)).mono ?_
    rintro e w' ⟨b1, b2, b3, rfl, hr, hb⟩
    have V' := V.on hb
    refine hK _ _ ⟨V'.bl, 3, b, false, x7, x28, _, b1, b2, b3, by omega, by omega, by omega, by simp [matL], rfl, V'.bl, fun e => absurd e (by decide), fun e => absurd e (by decide), fun _ => ⟨rfl, hr.lower V.bl.size⟩, fun e => ?_, fun e => absurd e (by decide)⟩
    exact V'.hb e
  · have ht : t = false := by cases t; rfl; exact absurd (V.ht rfl).2 (by decide)
    subst ht
    refine wpOp_step (o := { dst := some 12, op := _, type := _, pos := _, after := _, guard := _ }) rfl (fun K' hK => ?_)
    go_simp
    have V' := V.on ((Below.refl _ _).alloc (Nat.le_refl _) (.cells ocrZ 35))
    exact hK _ _ ⟨V'.bl, n, true, false, _, x28, x29, a1, a2, a3, h0, hn, by simp at hm ⊢; omega, by simp [matL], rfl, V'.bl, V'.h1, V'.h2, V'.h3, fun _ => ⟨w.heap.size, rfl, V.bl.size, heap_alloc_new w _⟩, fun e => absurd e (by decide)⟩
  · obtain ⟨kb, rfl, e2, e3⟩ := V.hb rfl
    rw [if_neg (by decide)] at e3
    obtain ⟨rfl, hr⟩ := V.h3 rfl
    have nk : ∀ {u : Value} {xs : List Int}, IntsAt w0.heap.size u xs w → u.ownBlock ≠ some kb := fun {u xs} hu e => by
      rcases hu.2 with ⟨rfl, _⟩ | ⟨g, cap, cur, rfl, _, hg', _⟩
      · cases e
      · obtain rfl : g = kb := by simpa [Value.ownBlock] using e
        rw [e3] at hg'
        injection hg' with hg'
        injection hg' with _ h2
        exact absurd h2 (by decide)
    obtain ⟨A1, c1, rfl⟩ := ints_form hr.fa
    obtain ⟨A2, c2, rfl⟩ := ints_form hr.fb
    obtain ⟨A3, c3, rfl⟩ := ints_form hr.fc
    obtain ⟨s0, s1, s2, s3, s4, s5, s6, g0, g1, g2, g3, g4, g5, g6, gz⟩ := row7 e3
    refine wpOp_step (o := { dst := none, op := _, type := _, pos := _, after := _, guard := _ }) rfl (fun K' hK => ?_)
    go_simp
    have g := ((((((V.bl.setCell (p := ⟨kb, 0, none⟩) e2 (.int .i64 x.k)).setCell (p := ⟨kb, 1, none⟩) e2 (.int .i64 x.i)).setCell (p := ⟨kb, 2, none⟩) e2 (.int .i64 x.r)).setCell (p := ⟨kb, 3, none⟩) e2 (.string x.id)).setCell (p := ⟨kb, 4, none⟩) e2 (.slice A1 L1.length c1)).setCell (p := ⟨kb, 5, none⟩) e2 (.slice A2 L2.length c2)).setCell (p := ⟨kb, 6, none⟩) e2 (.slice A3 L3.length c3)
    exact hK _ _ ⟨g, 3, true, true, _, x28, _, _, _, _, h0, hn, by simp at hm ⊢; omega, by simp [matL], rfl, g, fun e => absurd e (by decide), fun e => absurd e (by decide), fun _ => ⟨rfl, ⟨ints_sets hr.fa (nk hr.fa) _ _ _ _ _ _ _, ints_sets hr.fb (nk hr.fb) _ _ _ _ _ _ _, ints_sets hr.fc (nk hr.fc) _ _ _ _ _ _ _, hr.ab, hr.ac, hr.bc⟩⟩, fun _ => ⟨kb, rfl, e2, by rw [if_pos rfl]; exact row7_set e3 _ _ _ _ _ _ _⟩, fun _ => ⟨rfl, rfl⟩⟩
variable (hq : ∀ e (a : Act) d v w, Q (.panic e) (a.put d v) w → Q (.panic e) a w)
  (hkc : kc < w0.heap.size) (k0 : w0.cell? ⟨kc, 0, none⟩ = some (.int .i64 c.free)) (k1 : w0.cell? ⟨kc, 1, none⟩ = some vs) (k2 : w0.cell? ⟨kc, 2, none⟩ = some vf) (hvl : CsAt w0 vl l)
  (hend : ∀ x7 x28 x29 a1 a2 a3 kb w', Below w0.heap.size w0 w' → R3 w0.heap.size a1 a2 a3 L1 L2 L3 w' → x7 = .pointer (some ⟨kb, 0, none⟩) → w0.heap.size ≤ kb → w'.heap[kb]? = some (.cells (occRow x a1 a2 a3) 35 (0, 0)) → Q .normal { tmps := #[y0, (.int .i64 y), (.int .i64 day), y3, (.pointer (some ⟨kc, 0, none⟩)), y5, y6, y7, y8, y9, y10, vl, x7, y13, y14, y15, y16, y17, y18, y19, y20, y21, y22, y23, y24, y25, y26, y27, y28, y29, y30, y31, y32, y33, y34, y35, y36, y37, y38, y39, y40, y41, y42, y43, y44, y45, y46, (.agg #[.int .i64 c.free, vs, vf]), vl, x28, x29, undef, undef, undef, undef, undef, undef, undef, undef, undef, undef, undef, undef, undef, undef, undef, undef, undef, undef, undef, undef, undef, undef, undef, undef, undef, undef, undef], defers := [] } w')
include hq hkc k0 k1 k2 hvl hend
set_option maxRecDepth 100000 in
theorem mat_region (id : Nat) : (Code.region id (matO Try.f3) true).wp Try.prog Q { tmps := #[y0, (.int .i64 y), (.int .i64 day), y3, (.pointer (some ⟨kc, 0, none⟩)), y5, y6, y7, y8, y9, y10, vl, undef, y13, y14, y15, y16, y17, y18, y19, y20, y21, y22, y23, y24, y25, y26, y27, y28, y29, y30, y31, y32, y33, y34, y35, y36, y37, y38, y39, y40, y41, y42, y43, y44, y45, y46, undef, undef, undef, undef, undef, undef, undef, undef, undef, undef, undef, undef, undef, undef, undef, undef, undef, undef, undef, undef, undef, undef, undef, undef, undef, undef, undef, undef, undef, undef, undef], defers := [] } w0 := by
  refine wp_region_held_drew (S := fun u => Below w0.heap.size w0 u) (by kernel_rfl) ((Below.refl _ _).drew) (fun hHeld => ?_)
  refine wpAnyH_take (i := 0) (oi := { dst := some 47, op := _, type := _, pos := _, after := _, guard := _ }) (v := ?v_0) rfl (by kernel_rfl) (by kernel_rfl) (by kernel_rfl) (fun c a w h => hq c a _ _ w h) (Or.inl ⟨by rfl, ?hy_0⟩) hHeld ?_
  case hy_0 => (intro w' hSw; (try dsimp only at hSw); have q0 := (hSw.cell (p := ⟨kc, 0, none⟩) hkc).trans k0; have q1 := (hSw.cell (p := ⟨kc, 1, none⟩) hkc).trans k1; have q2 := (hSw.cell (p := ⟨kc, 2, none⟩) hkc).trans k2; go_simp; try with_reducible rfl)
  simp only [Act.put, List.setIfInBounds_toArray, List.set_cons_zero, List.set_cons_succ]
  refine wpAnyH_take (i := 1) (oi := { dst := some 48, op := _, type := _, pos := _, after := _, guard := _ }) (v := ?v_1) rfl (by kernel_rfl) (by kernel_rfl) (by kernel_rfl) (fun c a w h => hq c a _ _ w h) (Or.inl ⟨by rfl, ?hy_1⟩) hHeld ?_
  case hy_1 => (intro w' hSw; (try dsimp only at hSw); go_simp; try with_reducible rfl)
  simp only [Act.put, List.setIfInBounds_toArray, List.set_cons_zero, List.set_cons_succ]
  refine any_keeps (matS c vs vf y day kc vl y0 y3 y5 y6 y7 y8 y9 y10 y13 y14 y15 y16 y17 y18 y19 y20 y21 y22 y23 y24 y25 y26 y27 y28 y29 y30 y31 y32 y33 y34 y35 y36 y37 y38 y39 y40 y41 y42 y43 y44 y45 y46 w0 l x L1 L2 L3) ?_ ?_ ?_ 4 _ _ _ ?_
  · rintro m L a w' ⟨n, b, t, x7, x28, x29, a1, a2, a3, h0, hn, hm, rfl, rfl, V⟩ hr
    rw [mat_eq h0 hn V.ht] at hr
    have e1 : n = 3 := by
      simp only [matR, List.append_eq_nil_iff] at hr
      obtain ⟨⟨h1, -⟩, -⟩ := hr
      (repeat' split at h1) <;> first | omega | (exact absurd h1 (by simp))
    subst e1
    have e2 : b = true := by cases b; (simp [matR] at hr); rfl
    subst e2
    have e3 : t = true := by cases t; (simp [matR] at hr); rfl
    subst e3
    obtain ⟨kb, p1, p2, p3⟩ := V.hb rfl
    rw [if_pos rfl] at p3
    exact hend _ _ _ _ _ _ kb w' V.bl (V.h3 rfl).2 p1 p2 p3
  · rintro L a w' ⟨n, b, t, x7, x28, x29, a1, a2, a3, h0, hn, hm, rfl, rfl, V⟩
    rw [mat_eq h0 hn V.ht]
    have hb1 : b.toNat ≤ 1 := by cases b <;> decide
    have ht1 : t.toNat ≤ 1 := by cases t <;> decide
    obtain rfl : n = 3 := by omega
    obtain rfl : b = true := by cases b; (simp at hm; omega); rfl
    obtain rfl : t = true := by cases t; (simp at hm); rfl
    rfl
  · intro m L a w' h i hi
    exact mat_step Q c vs vf y day kc vl y0 y3 y5 y6 y7 y8 y9 y10 y13 y14 y15 y16 y17 y18 y19 y20 y21 y22 y23 y24 y25 y26 y27 y28 y29 y30 y31 y32 y33 y34 y35 y36 y37 y38 y39 y40 y41 y42 y43 y44 y45 y46 w0 l hll x L1 L2 L3 QR m L a w' h i hi
  · refine ⟨1, false, false, undef, undef, undef, .slice none 0 0, .slice none 0 0, .slice none 0 0, by decide, by decide, rfl, by kernel_rfl, rfl, (Below.refl _ _).drew, fun _ => hvl.on ((Below.refl _ _).drew), ?_, ?_, ?_, ?_⟩ <;> intro e <;> exact absurd e (by decide)
end
end Go.Proofs.Ytnofmlkjagdklaa
