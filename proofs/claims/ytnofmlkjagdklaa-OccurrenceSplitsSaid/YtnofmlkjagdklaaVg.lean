/- The law OccurrenceOrdered, given OP: its drawn region (three calls in a chain, a struct made anywhere, a store) by a relation that every step keeps. -/
import Derived.Test.YtnofmlkjagdklaaVe
import Derived.Test.YtnofmlkjagdklaaVf
import Derived.Test.YtnofmlkjagdklaaVh
import Derived.Deep.RegionHeld3
namespace Go.Proofs.Ytnofmlkjagdklaa
open Go.RowKit

noncomputable def ocrO (f : Func) : Array Oper := match f.body with | some (.seq _ (.seq _ (.seq (.region _ ops _) _))) => ops | _ => #[]
abbrev ocrA (y0 y1 y2 p3 y4 y5 y6 x7 y8 y9 y10 y11 y12 y13 y14 y15 y16 y17 y18 y19 y20 y21 y22 x23 x24 x25 x26 x27 x28 x29 : Value) : Act := { tmps := #[y0, y1, y2, p3, y4, y5, y6, x7, y8, y9, y10, y11, y12, y13, y14, y15, y16, y17, y18, y19, y20, y21, y22, x23, x24, x25, x26, x27, x28, x29, undef, undef, undef, undef, undef, undef, undef, undef, undef, undef, undef, undef, undef, undef, undef, undef], defers := [] }
def ocrL (n : Nat) (b t : Bool) : Array Bool := #[true, true, true, true, decide (1 ≤ n), decide (2 ≤ n), decide (3 ≤ n), b, t]
def ocrR (n : Nat) (b t : Bool) : List Nat := (if n = 0 then [4] else if n = 1 then [5] else if n = 2 then [6] else []) ++ (if b = false then [7] else []) ++ (if n = 3 ∧ b = true ∧ t = false then [8] else [])
theorem ocr_all : ([0, 1, 2, 3].all fun n => [false, true].all fun b => [false, true].all fun t => (t && !(n == 3 && b)) || (Region.ready .any (ocrO Try.f6) (ocrL n b t) == ocrR n b t)) = true := by kernel_rfl
theorem ocr_eq {n : Nat} {b t : Bool} (hn : n ≤ 3) (ht : t = true → n = 3 ∧ b = true) : Region.ready .any (ocrO Try.f6) (ocrL n b t) = ocrR n b t := by
  have m : n ∈ [0, 1, 2, 3] := by match n, hn with | 0, _ => simp | 1, _ => simp | 2, _ => simp | 3, _ => simp
  have := List.all_eq_true.1 (List.all_eq_true.1 (List.all_eq_true.1 ocr_all n m) b (by cases b <;> simp)) t (by cases t <;> simp)
  have h2 : (t && !(n == 3 && b)) = false := by
    cases t
    · rfl
    · obtain ⟨rfl, rfl⟩ := ht rfl; rfl
  rw [h2] at this
  simpa using this
theorem ocr_mem {n i : Nat} {b t : Bool} (h : i ∈ ocrR n b t) : (i = 4 ∧ n = 0) ∨ (i = 5 ∧ n = 1) ∨ (i = 6 ∧ n = 2) ∨ (i = 7 ∧ b = false) ∨ (i = 8 ∧ n = 3 ∧ b = true ∧ t = false) := by
  simp only [ocrR, List.mem_append] at h
  rcases h with (h | h) | h
  all_goals (repeat' split at h) <;> simp_all
abbrev ocrZ : Array Value := #[.int .i64 0, .int .i64 0, .int .i64 0, .string ⟨#[]⟩, .slice none 0 0, .slice none 0 0, .slice none 0 0]
abbrev occRow (x : Cd) (a b d : Value) : Array Value := #[.int .i64 x.k, .int .i64 x.i, .int .i64 x.r, .string x.id, a, b, d]
structure OccI (w0 : World) (l : List Cd) (x : Cd) (L1 L2 L3 : List Int) (n : Nat) (b t : Bool) (x7 x27 x28 x29 a1 a2 a3 : Value) (w : World) : Prop where
  bl : Below w0.heap.size w0 w
  h1 : n = 1 → CsAt w x27 l
  h2 : n = 2 → CsAt w x28 l
  h3 : n = 3 → x29 = .agg (occRow x a1 a2 a3) ∧ R3 w0.heap.size a1 a2 a3 L1 L2 L3 w
  hb : b = true → ∃ kb, x7 = .pointer (some ⟨kb, 0, none⟩) ∧ w0.heap.size ≤ kb ∧ w.heap[kb]? = some (.cells (if t = true then occRow x a1 a2 a3 else ocrZ) 35 (0, 0))
  ht : t = true → n = 3 ∧ b = true
theorem OccI.on {w0 : World} {l : List Cd} {x : Cd} {L1 L2 L3 : List Int} {n : Nat} {b t : Bool} {x7 x27 x28 x29 a1 a2 a3 : Value} {w w' : World} (h : OccI w0 l x L1 L2 L3 n b t x7 x27 x28 x29 a1 a2 a3 w) (hb : Below w.heap.size w w') : OccI w0 l x L1 L2 L3 n b t x7 x27 x28 x29 a1 a2 a3 w' :=
  ⟨h.bl.trans (hb.mono h.bl.size), fun e => (h.h1 e).on hb, fun e => (h.h2 e).on hb, fun e => ⟨(h.h3 e).1, (h.h3 e).2.on hb⟩, fun e => by
    obtain ⟨kb, e1, e2, e3⟩ := h.hb e
    exact ⟨kb, e1, e2, row_on e3 hb⟩, h.ht⟩
def OccS (c : Cat) (vs vf : Value) (y day : Int) (kc : Nat) (y0 y4 y5 y6 y8 y9 y10 y11 y12 y13 y14 y15 y16 y17 y18 y19 y20 y21 y22 : Value) (w0 : World) (l : List Cd) (x : Cd) (L1 L2 L3 : List Int) (m : Nat) (L : Array Bool) (a : Act) (w : World) : Prop :=
  ∃ (n : Nat) (b t : Bool) (x7 x27 x28 x29 a1 a2 a3 : Value), n ≤ 3 ∧ m + n + b.toNat + t.toNat = 5 ∧ L = ocrL n b t ∧ a = (ocrA y0 (.int .i64 y) (.int .i64 day) (.pointer (some ⟨kc, 0, none⟩)) y4 y5 y6 x7 y8 y9 y10 y11 y12 y13 y14 y15 y16 y17 y18 y19 y20 y21 y22 (.agg #[.int .i64 c.free, vs, vf]) (.agg #[.int .i64 c.free, vs, vf]) (.int .i64 y) (.int .i64 day) x27 x28 x29) ∧ OccI w0 l x L1 L2 L3 n b t x7 x27 x28 x29 a1 a2 a3 w
section
variable (Q : Exit → Act → World → Prop) (c : Cat) (vs vf : Value) (y day : Int) (kc : Nat) (y0 y4 y5 y6 y8 y9 y10 y11 y12 y13 y14 y15 y16 y17 y18 y19 y20 y21 y22 : Value) (w0 : World) (l : List Cd) (hll : l.length ≤ 1000) (x : Cd) (L1 L2 L3 : List Int)
  (QO : Hid (∀ u, Below w0.heap.size w0 u → Calls Try.prog 10 #[(.agg #[.int .i64 c.free, vs, vf]), .int .i64 y, .int .i64 day] u (RetCs 39 u l)))
  (QR : Hid (∀ u v, Below w0.heap.size w0 u → CsAt u v l → Calls Try.prog 11 #[(.agg #[.int .i64 c.free, vs, vf]), v] u fun e w' => ∃ a1 a2 a3, e = .returned (.agg (occRow x a1 a2 a3)) ∧ R3 u.heap.size a1 a2 a3 L1 L2 L3 w' ∧ Below u.heap.size u w'))
include hll QO QR
set_option maxRecDepth 100000 in
theorem ocr_step (m : Nat) (L : Array Bool) (a : Act) (w : World) (h : OccS c vs vf y day kc y0 y4 y5 y6 y8 y9 y10 y11 y12 y13 y14 y15 y16 y17 y18 y19 y20 y21 y22 w0 l x L1 L2 L3 (m + 1) L a w) (i : Nat) (hi : i ∈ Region.ready .any (ocrO Try.f6) L) :
    wpOp Try.prog (ocrO Try.f6) Q i (fun a' w' => Below w0.heap.size w0 w' ∧ OccS c vs vf y day kc y0 y4 y5 y6 y8 y9 y10 y11 y12 y13 y14 y15 y16 y17 y18 y19 y20 y21 y22 w0 l x L1 L2 L3 m (L.setIfInBounds i true) a' w') a w := by
  obtain ⟨n, b, t, x7, x27, x28, x29, a1, a2, a3, hn, hm, rfl, rfl, V⟩ := h
  rw [ocr_eq hn V.ht] at hi
  rcases ocr_mem hi with ⟨rfl, rfl⟩ | ⟨rfl, rfl⟩ | ⟨rfl, rfl⟩ | ⟨rfl, rfl⟩ | ⟨rfl, rfl, rfl, rfl⟩
  · have ht : t = false := by cases t; rfl; exact absurd (V.ht rfl).1 (by decide)
    subst ht
    refine wpOp_step (o := { dst := some 27, op := _, type := _, pos := _, after := _, guard := _ }) rfl (fun K' hK => ?_)
    go_simp
    go_at_call 10
    refine (QO.out _ V.bl).mono ?_
    rintro e w' ⟨v, rfl, hv, hb⟩
    have V' := V.on hb
    exact hK _ _ ⟨V'.bl, 1, b, false, x7, v, x28, x29, a1, a2, a3, by omega, by omega, by simp [ocrL], rfl, V'.bl, fun _ => hv.cs, fun e => absurd e (by decide), fun e => absurd e (by decide), V'.hb, fun e => absurd e (by decide)⟩
  · have ht : t = false := by cases t; rfl; exact absurd (V.ht rfl).1 (by decide)
    subst ht
    refine wpOp_step (o := { dst := some 28, op := _, type := _, pos := _, after := _, guard := _ }) rfl (fun K' hK => ?_)
    go_simp
    go_at_call 12
    refine (fwd21_any _ _ _ hll (V.h1 rfl)).mono ?_
    rintro e w' ⟨v, rfl, hv, hb⟩
    have V' := V.on hb
    exact hK _ _ ⟨V'.bl, 2, b, false, x7, x27, v, x29, a1, a2, a3, by omega, by omega, by simp [ocrL], rfl, V'.bl, fun e => absurd e (by decide), fun _ => hv.cs, fun e => absurd e (by decide), V'.hb, fun e => absurd e (by decide)⟩
  · have ht : t = false := by cases t; rfl; exact absurd (V.ht rfl).1 (by decide)
    subst ht
    refine wpOp_step (o := { dst := some 29, op := _, type := _, pos := _, after := _, guard := _ }) rfl (fun K' hK => ?_)
    go_simp
    go_at_call 11
    refine (QR.out _ _ V.bl (V.h2 rfl)).mono ?_
    rintro e w' ⟨b1, b2, b3, rfl, hr, hb⟩
    have V' := V.on hb
    refine hK _ _ ⟨V'.bl, 3, b, false, x7, x27, x28, _, b1, b2, b3, by omega, by omega, by simp [ocrL], rfl, V'.bl, fun e => absurd e (by decide), fun e => absurd e (by decide), fun _ => ⟨rfl, hr.lower V.bl.size⟩, fun e => ?_, fun e => absurd e (by decide)⟩
    exact V'.hb e
  · have ht : t = false := by cases t; rfl; exact absurd (V.ht rfl).2 (by decide)
    subst ht
    refine wpOp_step (o := { dst := some 7, op := _, type := _, pos := _, after := _, guard := _ }) rfl (fun K' hK => ?_)
    go_simp
    have V' := V.on ((Below.refl _ _).alloc (Nat.le_refl _) (.cells ocrZ 35))
    exact hK _ _ ⟨V'.bl, n, true, false, _, x27, x28, x29, a1, a2, a3, hn, by simp at hm ⊢; omega, by simp [ocrL], rfl, V'.bl, V'.h1, V'.h2, V'.h3, fun _ => ⟨w.heap.size, rfl, V.bl.size, heap_alloc_new w _⟩, fun e => absurd e (by decide)⟩
  · obtain ⟨kb, rfl, e2, e3⟩ := V.hb rfl
    rw [if_neg (by decide)] at e3
    obtain ⟨rfl, hr⟩ := V.h3 rfl
    have nk : ∀ {u : Value} {xs : List Int}, IntsAt w0.heap.size u xs w → u.ownBlock ≠ some kb := fun {u xs} hu e => by
      rcases hu.2 with ⟨rfl, _⟩ | ⟨g, cap, cur, rfl, _, hg', _⟩
      · cases e
      · obtain rfl : g = kb := by simpa [Value.ownBlock] using e
        rw [e3] at hg'
        injection hg' with hg'
        injection hg' with _ h2
        exact absurd h2 (by decide)
    obtain ⟨A1, c1, rfl⟩ := ints_form hr.fa
    obtain ⟨A2, c2, rfl⟩ := ints_form hr.fb
    obtain ⟨A3, c3, rfl⟩ := ints_form hr.fc
    obtain ⟨s0, s1, s2, s3, s4, s5, s6, g0, g1, g2, g3, g4, g5, g6, gz⟩ := row7 e3
    refine wpOp_step (o := { dst := none, op := _, type := _, pos := _, after := _, guard := _ }) rfl (fun K' hK => ?_)
    go_simp
    have g := ((((((V.bl.setCell (p := ⟨kb, 0, none⟩) e2 (.int .i64 x.k)).setCell (p := ⟨kb, 1, none⟩) e2 (.int .i64 x.i)).setCell (p := ⟨kb, 2, none⟩) e2 (.int .i64 x.r)).setCell (p := ⟨kb, 3, none⟩) e2 (.string x.id)).setCell (p := ⟨kb, 4, none⟩) e2 (.slice A1 L1.length c1)).setCell (p := ⟨kb, 5, none⟩) e2 (.slice A2 L2.length c2)).setCell (p := ⟨kb, 6, none⟩) e2 (.slice A3 L3.length c3)
    exact hK _ _ ⟨g, 3, true, true, _, x27, x28, _, _, _, _, hn, by simp at hm ⊢; omega, by simp [ocrL], rfl, g, fun e => absurd e (by decide), fun e => absurd e (by decide), fun _ => ⟨rfl, ⟨ints_sets hr.fa (nk hr.fa) _ _ _ _ _ _ _, ints_sets hr.fb (nk hr.fb) _ _ _ _ _ _ _, ints_sets hr.fc (nk hr.fc) _ _ _ _ _ _ _, hr.ab, hr.ac, hr.bc⟩⟩, fun _ => ⟨kb, rfl, e2, by rw [if_pos rfl]; exact row7_set e3 _ _ _ _ _ _ _⟩, fun _ => ⟨rfl, rfl⟩⟩
variable (hq : ∀ e (a : Act) d v w, Q (.panic e) (a.put d v) w → Q (.panic e) a w)
  (hkc : kc < w0.heap.size) (k0 : w0.cell? ⟨kc, 0, none⟩ = some (.int .i64 c.free)) (k1 : w0.cell? ⟨kc, 1, none⟩ = some vs) (k2 : w0.cell? ⟨kc, 2, none⟩ = some vf)
  (hend : ∀ x7 x27 x28 x29 a1 a2 a3 kb w', Below w0.heap.size w0 w' → R3 w0.heap.size a1 a2 a3 L1 L2 L3 w' → x7 = .pointer (some ⟨kb, 0, none⟩) → w0.heap.size ≤ kb → w'.heap[kb]? = some (.cells (occRow x a1 a2 a3) 35 (0, 0)) → Q .normal (ocrA y0 (.int .i64 y) (.int .i64 day) (.pointer (some ⟨kc, 0, none⟩)) y4 y5 y6 x7 y8 y9 y10 y11 y12 y13 y14 y15 y16 y17 y18 y19 y20 y21 y22 (.agg #[.int .i64 c.free, vs, vf]) (.agg #[.int .i64 c.free, vs, vf]) (.int .i64 y) (.int .i64 day) x27 x28 x29) w')
include hq hkc k0 k1 k2 hend
set_option maxRecDepth 100000 in
theorem ocr_region (id : Nat) : (Code.region id (ocrO Try.f6) true).wp Try.prog Q { tmps := #[y0, (.int .i64 y), (.int .i64 day), (.pointer (some ⟨kc, 0, none⟩)), y4, y5, y6, undef, y8, y9, y10, y11, y12, y13, y14, y15, y16, y17, y18, y19, y20, y21, y22, undef, undef, undef, undef, undef, undef, undef, undef, undef, undef, undef, undef, undef, undef, undef, undef, undef, undef, undef, undef, undef, undef, undef], defers := [] } w0 := by
  refine wp_region_held_drew (S := fun u => Below w0.heap.size w0 u) (by kernel_rfl) ((Below.refl _ _).drew) (fun hHeld => ?_)
  refine wpAnyH_take (i := 0) (oi := { dst := some 23, op := _, type := _, pos := _, after := _, guard := _ }) (v := ?v_0) rfl (by kernel_rfl) (by kernel_rfl) (by kernel_rfl) (fun c a w h => hq c a _ _ w h) (Or.inl ⟨by rfl, ?hy_0⟩) hHeld ?_
  case hy_0 => (intro w' hSw; (try dsimp only at hSw); have q0 := (hSw.cell (p := ⟨kc, 0, none⟩) hkc).trans k0; have q1 := (hSw.cell (p := ⟨kc, 1, none⟩) hkc).trans k1; have q2 := (hSw.cell (p := ⟨kc, 2, none⟩) hkc).trans k2; go_simp; try with_reducible rfl)
  simp only [Act.put, List.setIfInBounds_toArray, List.set_cons_zero, List.set_cons_succ]
  refine wpAnyH_take (i := 1) (oi := { dst := some 24, op := _, type := _, pos := _, after := _, guard := _ }) (v := ?v_1) rfl (by kernel_rfl) (by kernel_rfl) (by kernel_rfl) (fun c a w h => hq c a _ _ w h) (Or.inl ⟨by rfl, ?hy_1⟩) hHeld ?_
  case hy_1 => (intro w' hSw; (try dsimp only at hSw); have q0 := (hSw.cell (p := ⟨kc, 0, none⟩) hkc).trans k0; have q1 := (hSw.cell (p := ⟨kc, 1, none⟩) hkc).trans k1; have q2 := (hSw.cell (p := ⟨kc, 2, none⟩) hkc).trans k2; go_simp; try with_reducible rfl)
  simp only [Act.put, List.setIfInBounds_toArray, List.set_cons_zero, List.set_cons_succ]
  refine wpAnyH_take (i := 2) (oi := { dst := some 25, op := _, type := _, pos := _, after := _, guard := _ }) (v := ?v_2) rfl (by kernel_rfl) (by kernel_rfl) (by kernel_rfl) (fun c a w h => hq c a _ _ w h) (Or.inl ⟨by rfl, ?hy_2⟩) hHeld ?_
  case hy_2 => (intro w' hSw; (try dsimp only at hSw); go_simp; try with_reducible rfl)
  simp only [Act.put, List.setIfInBounds_toArray, List.set_cons_zero, List.set_cons_succ]
  refine wpAnyH_take (i := 3) (oi := { dst := some 26, op := _, type := _, pos := _, after := _, guard := _ }) (v := ?v_3) rfl (by kernel_rfl) (by kernel_rfl) (by kernel_rfl) (fun c a w h => hq c a _ _ w h) (Or.inl ⟨by rfl, ?hy_3⟩) hHeld ?_
  case hy_3 => (intro w' hSw; (try dsimp only at hSw); go_simp; try with_reducible rfl)
  simp only [Act.put, List.setIfInBounds_toArray, List.set_cons_zero, List.set_cons_succ]
  refine any_keeps (OccS c vs vf y day kc y0 y4 y5 y6 y8 y9 y10 y11 y12 y13 y14 y15 y16 y17 y18 y19 y20 y21 y22 w0 l x L1 L2 L3) ?_ ?_ ?_ 5 _ _ _ ?_
  · rintro m L a w' ⟨n, b, t, x7, x27, x28, x29, a1, a2, a3, hn, hm, rfl, rfl, V⟩ hr
    rw [ocr_eq hn V.ht] at hr
    have e1 : n = 3 := by
      simp only [ocrR, List.append_eq_nil_iff] at hr
      obtain ⟨⟨h1, -⟩, -⟩ := hr
      (repeat' split at h1) <;> first | omega | (exact absurd h1 (by simp))
    subst e1
    have e2 : b = true := by cases b; (simp [ocrR] at hr); rfl
    subst e2
    have e3 : t = true := by cases t; (simp [ocrR] at hr); rfl
    subst e3
    obtain ⟨kb, p1, p2, p3⟩ := V.hb rfl
    rw [if_pos rfl] at p3
    exact hend _ _ _ _ _ _ _ kb w' V.bl (V.h3 rfl).2 p1 p2 p3
  · rintro L a w' ⟨n, b, t, x7, x27, x28, x29, a1, a2, a3, hn, hm, rfl, rfl, V⟩
    rw [ocr_eq hn V.ht]
    have hb1 : b.toNat ≤ 1 := by cases b <;> decide
    have ht1 : t.toNat ≤ 1 := by cases t <;> decide
    obtain rfl : n = 3 := by omega
    obtain rfl : b = true := by cases b; (simp at hm; omega); rfl
    obtain rfl : t = true := by cases t; (simp at hm); rfl
    rfl
  · intro m L a w' h i hi
    exact ocr_step Q c vs vf y day kc y0 y4 y5 y6 y8 y9 y10 y11 y12 y13 y14 y15 y16 y17 y18 y19 y20 y21 y22 w0 l hll x L1 L2 L3 QO QR m L a w' h i hi
  · refine ⟨0, false, false, undef, undef, undef, undef, .slice none 0 0, .slice none 0 0, .slice none 0 0, by decide, rfl, by kernel_rfl, rfl, (Below.refl _ _).drew, ?_, ?_, ?_, ?_, ?_⟩ <;> intro e <;> exact absurd e (by decide)
end
set_option maxRecDepth 100000 in
theorem l21o_main (c : Cat) (vs vf : Value) (y day : Int) (W : World) (l : List Cd) (x : Cd) (rest : List Cd) (hll : l.length ≤ 1000)
    (EA : Hid (OrdL c.fs (polL c 2 rest))) (EB : Hid (OrdL c.fs (polL c 3 rest))) (EC : Hid (OrdL c.fs (polL c 1 rest)))
    (QW : Hid (∀ u, Calls Try.prog 7 #[] u fun e w' => e = .returned (.bool true) ∧ Below u.heap.size u w'))
    (QR17 : Hid (∀ u, Below W.heap.size W u → Calls Try.prog 8 #[(.agg #[.int .i64 c.free, vs, vf])] u fun e w' => e = .returned (.bool true) ∧ Below u.heap.size u w'))
    (QF : Hid (∀ u, Below W.heap.size W u → Calls Try.prog 9 #[(.agg #[.int .i64 c.free, vs, vf]), .int .i64 y, .int .i64 day] u fun e w' => e = .returned (.int .i64 0) ∧ Below u.heap.size u w'))
    (QO' : Hid (∀ u, Below W.heap.size W u → Calls Try.prog 10 #[(.agg #[.int .i64 c.free, vs, vf]), .int .i64 y, .int .i64 day] u (RetCs 39 u l)))
    (QR' : Hid (∀ u v, Below W.heap.size W u → CsAt u v l → Calls Try.prog 11 #[(.agg #[.int .i64 c.free, vs, vf]), v] u fun e w' => ∃ (Aa : Option Addr) (na ca : Nat) (Ab : Option Addr) (nb cb : Nat) (Ac : Option Addr) (nc cc : Nat), e = .returned (.agg #[.int .i64 x.k, .int .i64 x.i, .int .i64 x.r, .string x.id, .slice Aa na ca, .slice Ab nb cb, .slice Ac nc cc]) ∧ R3 u.heap.size (.slice Aa na ca) (.slice Ab nb cb) (.slice Ac nc cc) (polL c 2 rest) (polL c 3 rest) (polL c 1 rest) w' ∧ Below u.heap.size u w'))
    (QD' : Hid (∀ u v (zs : List Int), Below W.heap.size W u → SlF v zs u → OrdL c.fs zs → Calls Try.prog 22 #[(.agg #[.int .i64 c.free, vs, vf]), v] u fun e w' => e = .returned (.bool true) ∧ Below u.heap.size u w')) :
    Calls Try.prog 6 #[(.agg #[.int .i64 c.free, vs, vf]), .int .i64 y, .int .i64 day] W fun e w' => e = .returned (.bool true) ∧ Below W.heap.size W w' := by
  have B0 := Lib.hid ((Below.refl W.heap.size W).alloc (Nat.le_refl _) (.cells #[.int .i64 c.free, vs, vf] 25))
  have R0 := Lib.hid (heap_alloc_new W (.cells #[.int .i64 c.free, vs, vf] 25))
  have ZW : (W.alloc (.cells #[.int .i64 c.free, vs, vf] 25)).heap.size = W.heap.size + 1 := by simp
  go_enter Try.func6, Try.ntmps6
  go_wp2_with fail
  generalize hW1 : W.alloc (.cells #[.int .i64 c.free, vs, vf] 25) = W1 at *
  have QO := Lib.hid (fun u (hu : Below W1.heap.size W1 u) => QO'.out u (below_on B0.out hu))
  have QR := Lib.hid (fun u v (hu : Below W1.heap.size W1 u) => QR'.out u v (below_on B0.out hu))
  have QD := Lib.hid (fun u v zs (hu : Below W1.heap.size W1 u) => QD'.out u v zs (below_on B0.out hu))
  clear QO' QR' QD'
  refine (QW.out _).mono ?_
  rintro e w1 ⟨rfl, hb1⟩
  have B1 := Lib.hid hb1
  clear hb1
  obtain ⟨y0, y1, y2, -, -, -, yz⟩ := row3 (row_on R0.out B1.out)
  go_wp2_with fail
  refine (QR17.out _ (below_on B0.out B1.out)).mono ?_
  rintro e w2 ⟨rfl, hb2⟩
  have B2 := Lib.hid (below_on B1.out hb2)
  clear hb2 y0 y1 y2 yz
  obtain ⟨y0, y1, y2, -, -, -, yz⟩ := row3 (row_on R0.out B2.out)
  go_wp2_with fail
  refine (QF.out _ (below_on B0.out B2.out)).mono ?_
  rintro e w3 ⟨rfl, hb3⟩
  have B3 := Lib.hid (below_on B2.out hb3)
  clear hb3 y0 y1 y2 yz
  obtain ⟨y0, y1, y2, -, -, -, yz⟩ := row3 (row_on R0.out B3.out)
  have R1 := Lib.hid R0.out
  have hWW : W.heap.size < W1.heap.size := by omega
  go_wp2_with fail
  have QO3 := Lib.hid (fun u (hu : Below w3.heap.size w3 u) => QO.out u (below_on B3.out hu))
  have QR3 : Hid (∀ u v, Below w3.heap.size w3 u → CsAt u v l → Calls Try.prog 11 #[(.agg #[.int .i64 c.free, vs, vf]), v] u fun e w' => ∃ a1 a2 a3, e = .returned (.agg (occRow x a1 a2 a3)) ∧ R3 u.heap.size a1 a2 a3 (polL c 2 rest) (polL c 3 rest) (polL c 1 rest) w' ∧ Below u.heap.size u w') :=
    Lib.hid (fun u v hu hv => (QR.out u v (below_on B3.out hu) hv).mono (by
      rintro e w' ⟨Aa, na, ca, Ab, nb, cb, Ac, nc, cc, rfl, hr, hb⟩
      exact ⟨_, _, _, rfl, hr, hb⟩))
  have hk : W.heap.size < w3.heap.size := Nat.lt_of_lt_of_le hWW B3.out.size

  refine ocr_region _ c vs vf y day W.heap.size _ _ _ _ _ _ _ _ _ _ _ _ _ _ _ _ _ _ _ w3 l hll x _ _ _ QO3 QR3 (fun _ a d _ _ h => by cases d <;> exact h) hk y0 y1 y2 (fun x7 x27 x28 x29 a1 a2 a3 kb w' hb hr e1 e2 e3 => ?_) _
  subst e1
  have HB := Lib.hid (below_on B3.out hb)
  have RS := Lib.hid e3
  have SA := Lib.hid (SlI.sf hr.fa.get)
  have SB := Lib.hid (SlI.sf hr.fb.get)
  have SC := Lib.hid (SlI.sf hr.fc.get)
  clear hb hr e3 y0 y1 y2 yz QO3 QR3
  obtain ⟨y0, y1, y2, -, -, -, -⟩ := row3 (row_on R1.out HB.out)
  obtain ⟨s0, s1, s2, s3, s4, s5, s6, -, -, -, -, -, -, -, gz⟩ := row7 RS.out
  go_wp2_with fail
  refine (QD.out _ _ _ HB.out SA.out EA.out).mono ?_
  rintro e q1 ⟨rfl, hq⟩
  have Hq1 := Lib.hid hq
  clear hq s0 s1 s2 s3 s4 s5 s6 gz y0 y1 y2
  obtain ⟨s0, s1, s2, s3, s4, s5, s6, -, -, -, -, -, -, -, gz⟩ := row7 (row_on RS.out Hq1.out)
  obtain ⟨y0, y1, y2, -, -, -, -⟩ := row3 (row_on R1.out (below_on HB.out Hq1.out))
  go_wp2_with fail
  refine (QD.out _ _ _ (below_on HB.out Hq1.out) (SB.out.on Hq1.out) EB.out).mono ?_
  rintro e q2 ⟨rfl, hq⟩
  have Hq2 := Lib.hid (below_on Hq1.out hq)
  clear hq s0 s1 s2 s3 s4 s5 s6 gz y0 y1 y2
  obtain ⟨s0, s1, s2, s3, s4, s5, s6, -, -, -, -, -, -, -, gz⟩ := row7 (row_on RS.out Hq2.out)
  obtain ⟨y0, y1, y2, -, -, -, -⟩ := row3 (row_on R1.out (below_on HB.out Hq2.out))
  go_wp2_with fail
  refine (QD.out _ _ _ (below_on HB.out Hq2.out) (SC.out.on Hq2.out) EC.out).mono ?_
  rintro e q3 ⟨rfl, hq⟩
  have Hq3 := Lib.hid (below_on Hq2.out hq)
  clear hq s0 s1 s2 s3 s4 s5 s6 gz y0 y1 y2
  go_wp2_with fail
  go_ret
  exact ⟨rfl, below_on B0.out (below_on HB.out Hq3.out)⟩
/-! the law -/
section
variable (M : OP) (c : Cat) (vs vf : Value) (y day : Int) (W : World) (h : CatAt W (.agg #[.int .i64 c.free, vs, vf]) c) (ht : PT W)
include M h ht
omit ht in
set_option maxRecDepth 100000 in
theorem l21o_no (hr : (fewB c && catB c) = false) : Calls Try.prog 6 #[(.agg #[.int .i64 c.free, vs, vf]), .int .i64 y, .int .i64 day] W fun e w' => e = .returned (.bool true) ∧ Below W.heap.size W w' := by
  have B0 := Lib.hid ((Below.refl W.heap.size W).alloc (Nat.le_refl _) (.cells #[.int .i64 c.free, vs, vf] 25))
  have R0 := Lib.hid (heap_alloc_new W (.cells #[.int .i64 c.free, vs, vf] 25))
  have QW := Lib.hid (fun u => c21awake_any M u)
  have QR := Lib.hid (fun u (hu : Below W.heap.size W u) => by have := r17rt_any c _ u (h.on hu); rwa [hr] at this)
  clear hr
  go_enter Try.func6, Try.ntmps6
  go_wp2_with fail
  generalize hW1 : W.alloc (.cells #[.int .i64 c.free, vs, vf] 25) = W1 at *
  refine (QW.out _).mono ?_
  rintro e w1 ⟨rfl, hb1⟩
  have B1 := Lib.hid (below_on B0.out hb1)
  have R1 := Lib.hid (row_on R0.out hb1)
  clear hb1
  obtain ⟨y0, y1, y2, -, -, -, yz⟩ := row3 R1.out
  go_wp2_with fail
  refine (QR.out _ B1.out).mono ?_
  rintro e w2 ⟨rfl, hb2⟩
  have B2 := Lib.hid (below_on B1.out hb2)
  clear hb2 y0 y1 y2 yz
  go_wp2_with fail
  refine (QW.out _).mono ?_
  rintro e w3 ⟨rfl, hb3⟩
  have B3 := Lib.hid (below_on B2.out hb3)
  clear hb3
  go_wp2_with fail
  go_ret
  exact ⟨rfl, B3.out⟩
omit ht in
set_option maxRecDepth 100000 in
theorem l21o_bad (hr : (fewB c && catB c) = true) (hf : (snE c y day != 0) = true) : Calls Try.prog 6 #[(.agg #[.int .i64 c.free, vs, vf]), .int .i64 y, .int .i64 day] W fun e w' => e = .returned (.bool true) ∧ Below W.heap.size W w' := by
  have B0 := Lib.hid ((Below.refl W.heap.size W).alloc (Nat.le_refl _) (.cells #[.int .i64 c.free, vs, vf] 25))
  have R0 := Lib.hid (heap_alloc_new W (.cells #[.int .i64 c.free, vs, vf] 25))
  have QW := Lib.hid (fun u => c21awake_any M u)
  have QR := Lib.hid (fun u (hu : Below W.heap.size W u) => by have := r17rt_any c _ u (h.on hu); rwa [hr] at this)
  have QF := Lib.hid (fun u (hu : Below W.heap.size W u) => r18fl_any c y day _ u (h.on hu))
  generalize snE c y day = E at *
  clear hr
  go_enter Try.func6, Try.ntmps6
  go_wp2_with fail
  generalize hW1 : W.alloc (.cells #[.int .i64 c.free, vs, vf] 25) = W1 at *
  refine (QW.out _).mono ?_
  rintro e w1 ⟨rfl, hb1⟩
  have B1 := Lib.hid (below_on B0.out hb1)
  have R1 := Lib.hid (row_on R0.out hb1)
  clear hb1
  obtain ⟨y0, y1, y2, -, -, -, yz⟩ := row3 R1.out
  go_wp2_with fail
  refine (QR.out _ B1.out).mono ?_
  rintro e w2 ⟨rfl, hb2⟩
  have B2 := Lib.hid (below_on B1.out hb2)
  have R2 := Lib.hid (row_on R1.out hb2)
  clear hb2 y0 y1 y2 yz
  obtain ⟨y0, y1, y2, -, -, -, yz⟩ := row3 R2.out
  go_wp2_with fail
  refine (QF.out _ B2.out).mono ?_
  rintro e w3 ⟨rfl, hb3⟩
  have B3 := Lib.hid (below_on B2.out hb3)
  clear hb3 y0 y1 y2 yz
  go_wp2_with fail
  refine (QW.out _).mono ?_
  rintro e w4 ⟨rfl, hb4⟩
  have B4 := Lib.hid (below_on B3.out hb4)
  clear hb4
  go_wp2_with fail
  go_ret
  exact ⟨rfl, B4.out⟩
theorem l21o_ok (hr : (fewB c && catB c) = true) (hf : snE c y day = 0) : Calls Try.prog 6 #[(.agg #[.int .i64 c.free, vs, vf]), .int .i64 y, .int .i64 day] W fun e w' => e = .returned (.bool true) ∧ Below W.heap.size W w' := by
  obtain ⟨hc, g, -, -⟩ := snE_zero hf
  have hw : fewB c = true := by rw [Bool.and_eq_true] at hr; exact hr.1
  have hfl : c.fs.length ≤ 39 := by unfold fewB at hw; simp only [Bool.and_eq_true, decide_eq_true_eq] at hw; omega
  have hok := cds_ok hc hfl (itsD c.ss y) (itsD c.fs y) day
  obtain ⟨x, rest, hs⟩ : ∃ x rest, srtR (cdsOf c y day) = x :: rest := by
    cases e : srtR (cdsOf c y day) with
    | nil => have := srtR_len (cdsOf c y day); rw [e] at this; have := hok.ne; unfold cdsOf at *; simp at *; omega
    | cons x rest => exact ⟨x, rest, rfl⟩
  have hpw := srtR_pw hok.tot
  have hfst : ∀ z ∈ rest, Fst c z := fun z hz => cds_fst ((srtR_perm (cdsOf c y day)).mem_iff.1 (by rw [hs]; exact List.mem_cons_of_mem _ hz))
  have hpw2 : rest.Pairwise (fun a b => prc a b = true) := by
    have : (srtR (cdsOf c y day)).Pairwise (fun a b => prc a b = true) := hpw
    rw [hs, List.pairwise_cons] at this; exact this.2
  have EA := Lib.hid (polL_ord (p := 2) hpw2 hfst)
  have EB := Lib.hid (polL_ord (p := 3) hpw2 hfst)
  have EC := Lib.hid (polL_ord (p := 1) hpw2 hfst)
  have hll : (cdsOf c y day).length ≤ 1000 := by have := hok.le; unfold cdsOf; omega
  have sd := sn_day hf
  have hyr : inR day = true := inR_iff.2 (by omega)
  have QW := Lib.hid (fun u => c21awake_any M u)
  have QR17 := Lib.hid (fun u (hu : Below W.heap.size W u) => by have := r17rt_any c _ u (h.on hu); rwa [hr] at this)
  have QF := Lib.hid (fun u (hu : Below W.heap.size W u) => by have := r18fl_any c y day _ u (h.on hu); rwa [hf] at this)
  have QO' := Lib.hid (fun u (hu : Below W.heap.size W u) => r19of_any c y day _ u (h.on hu) hc g hyr (ht.on hu))
  have QR' := Lib.hid (fun u v (hu : Below W.heap.size W u) (hcs : CsAt u v (cdsOf c y day)) => (M.rs c _ v _ x rest u (h.on hu) hcs hfl hok hs).mono (R' := fun e w' => ∃ (Aa : Option Addr) (na ca : Nat) (Ab : Option Addr) (nb cb : Nat) (Ac : Option Addr) (nc cc : Nat), e = .returned (.agg #[.int .i64 x.k, .int .i64 x.i, .int .i64 x.r, .string x.id, .slice Aa na ca, .slice Ab nb cb, .slice Ac nc cc]) ∧ R3 u.heap.size (.slice Aa na ca) (.slice Ab nb cb) (.slice Ac nc cc) (polL c 2 rest) (polL c 3 rest) (polL c 1 rest) w' ∧ Below u.heap.size u w') (fun e w' ⟨a, b, d, he, hr, hb⟩ => by
    obtain ⟨Aa, ca, rfl⟩ := ints_form hr.fa
    obtain ⟨Ab, cb, rfl⟩ := ints_form hr.fb
    obtain ⟨Ac, cc, rfl⟩ := ints_form hr.fc
    exact ⟨Aa, _, ca, Ab, _, cb, Ac, _, cc, he, hr, hb⟩))
  have QD' := Lib.hid (fun u v (zs : List Int) (hu : Below W.heap.size W u) (hz : SlF v zs u) (ho : OrdL c.fs zs) => by
    obtain ⟨⟨vs', vf', e, _, h2⟩, _, _, _⟩ := h.on hu
    obtain ⟨A2, c2, e2, _, _, h2⟩ := h2
    obtain ⟨e1, e3⟩ : vs = vs' ∧ vf = vf' := by simpa using e
    have := ord21_0 (.int .i64 c.free) vs A2 c.fs c2 v zs u hz ho h2
    rw [← e2, ← e3] at this
    exact this)
  exact l21o_main c vs vf y day W _ x rest hll EA EB EC QW QR17 QF QO' QR' QD'
theorem l21o_any : Calls Try.prog 6 #[(.agg #[.int .i64 c.free, vs, vf]), .int .i64 y, .int .i64 day] W fun e w' => e = .returned (.bool true) ∧ Below W.heap.size W w' := by
  cases hr : fewB c && catB c
  · exact l21o_no M c vs vf y day W h hr
  · by_cases hf : snE c y day = 0
    · exact l21o_ok M c vs vf y day W h ht hr hf
    · exact l21o_bad M c vs vf y day W h hr (bne_iff_ne.2 hf)
end
end Go.Proofs.Ytnofmlkjagdklaa
