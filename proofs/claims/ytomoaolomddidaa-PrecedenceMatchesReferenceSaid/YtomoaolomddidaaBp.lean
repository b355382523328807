/- Package precedence: Precedes; the list with Len, Less, Swap; Sort; the index of the least; First. -/
import Derived.Test.YtomoaolomddidaaBj
import Derived.Test.YtomoaolomddidaaBe
import Derived.Laws.OwnMore
namespace Go.Proofs.Ytomoaolomddidaa
open Go.RowKit

theorem p20pr_any (a b : Cd) (W : World) : Calls Try.prog 10 #[cdv a, cdv b] W fun e w' => e = .returned (.bool (prc a b)) ∧ Below W.heap.size W w' := by
  obtain ⟨k, i, r, d⟩ := a
  obtain ⟨k', i', r', d'⟩ := b
  cases h1 : (r != r')
  · obtain rfl : r = r' := bne_eq_false_iff_eq.1 h1
    cases h2 : (k != k')
    · obtain rfl : k = k' := bne_eq_false_iff_eq.1 h2
      have e : prc ⟨k, i, r, d⟩ ⟨k, i', r, d'⟩ = decide (i < i') := by
        rw [Bool.eq_iff_iff, prc_iff, decide_eq_true_iff]
        dsimp only; omega
      rw [e]
      go_enter Try.func10, Try.ntmps10
      go_wp2
      go_ret
      exact ⟨rfl, ((Below.refl _ _).alloc (Nat.le_refl _) _).alloc (by simp) _⟩
    · have e : prc ⟨k, i, r, d⟩ ⟨k', i', r, d'⟩ = decide (k < k') := by
        have := bne_iff_ne.1 h2
        rw [Bool.eq_iff_iff, prc_iff, decide_eq_true_iff]
        dsimp only; omega
      rw [e]
      go_enter Try.func10, Try.ntmps10
      go_wp2
      go_ret
      exact ⟨rfl, ((Below.refl _ _).alloc (Nat.le_refl _) _).alloc (by simp) _⟩
  · have e : prc ⟨k, i, r, d⟩ ⟨k', i', r', d'⟩ = decide (r < r') := by
      have := bne_iff_ne.1 h1
      rw [Bool.eq_iff_iff, prc_iff, decide_eq_true_iff]
      dsimp only; omega
    rw [e]
    go_enter Try.func10, Try.ntmps10
    go_wp2
    go_ret
    exact ⟨rfl, ((Below.refl _ _).alloc (Nat.le_refl _) _).alloc (by simp) _⟩
/-- The elements in the order s. -/
def pmL (l : List Cd) (s : Nat → Nat) : List Cd := (List.range l.length).map fun i => l.getD (s i) zcd
theorem pmL_len (l : List Cd) (s : Nat → Nat) : (pmL l s).length = l.length := by unfold pmL; simp
theorem pmL_at {l : List Cd} {s : Nat → Nat} {i : Nat} (h : i < l.length) : (pmL l s)[i]? = some (l.getD (s i) zcd) := by
  unfold pmL
  rw [List.getElem?_map, List.getElem?_range h]; rfl
theorem pmL_id (l : List Cd) : pmL l (fun i => i) = l := by
  apply List.ext_getElem?
  intro i
  by_cases h : i < l.length
  · rw [pmL_at h, List.getElem?_eq_getElem h, List.getD_eq_getElem?_getD, List.getElem?_eq_getElem h]; rfl
  · rw [List.getElem?_eq_none (by rw [pmL_len]; omega), List.getElem?_eq_none (by omega)]
theorem pmL_swp {l : List Cd} {s : Nat → Nat} {i j : Nat} (hi : i < l.length) (hj : j < l.length) : ((pmL l s).set i (l.getD (s j) zcd)).set j (l.getD (s i) zcd) = pmL l (swp s i j) := by
  apply List.ext_getElem?
  intro q
  rw [List.getElem?_set, List.getElem?_set, List.length_set, pmL_len]
  by_cases hq : q < l.length
  · rw [show (pmL l (swp s i j))[q]? = some (l.getD (swp s i j q) zcd) from pmL_at hq, show (pmL l s)[q]? = some (l.getD (s q) zcd) from pmL_at hq]
    unfold swp
    by_cases h1 : j = q
    · subst h1
      rw [if_pos rfl, if_pos hj]
      by_cases h2 : j = i
      · subst h2; rw [if_pos rfl]
      · rw [if_neg h2, if_pos rfl]
    · rw [if_neg h1]
      by_cases h2 : i = q
      · subst h2
        rw [if_pos rfl, if_pos hi, if_pos rfl]
      · rw [if_neg h2, if_neg (fun e => h2 e.symm), if_neg (fun e => h1 e.symm)]
  · rw [if_neg (show ¬ j = q by omega), if_neg (show ¬ i = q by omega), List.getElem?_eq_none (by rw [pmL_len]; omega), List.getElem?_eq_none (by rw [pmL_len]; omega)]
theorem flat4_set : ∀ (l : List Cd) (i : Nat) (c : Cd), i < l.length → flat4 (l.set i c) = ((((flat4 l).set (i * 4) (.int .i64 c.k)).set (i * 4 + 1) (.int .i64 c.i)).set (i * 4 + 2) (.int .i64 c.r)).set (i * 4 + 3) (.string c.id)
  | [], i, c, h => by simp at h
  | x :: xs, 0, c, _ => rfl
  | x :: xs, i + 1, c, h => by
    rw [List.set_cons_succ, show (i + 1) * 4 = i * 4 + 1 + 1 + 1 + 1 by omega]
    show _ :: _ :: _ :: _ :: flat4 (xs.set i c) = _
    rw [flat4_set xs i c (by simpa using h)]
    rfl
/-- The state of the sort: the block of the call's own holds the elements in the order s; what was is as it was. -/
def StP (W : World) (B g cap : Nat) (l : List Cd) (s : Nat → Nat) (u : World) : Prop := CdsAt 29 B (.slice (some ⟨g, 0, none⟩) l.length cap) (pmL l s) u ∧ Below B W u ∧ B ≤ u.heap.size
theorem StP.on {W : World} {B g cap : Nat} {l : List Cd} {s : Nat → Nat} {u u' : World} (h : StP W B g cap l s u) (hb : Below u.heap.size u u') : StP W B g cap l s u' :=
  ⟨h.1.on hb, h.2.1.trans (hb.mono h.2.2), Nat.le_trans h.2.2 hb.size⟩
theorem p20len (l : List Cd) (g cap : Nat) (u : World) : Calls Try.prog 38 #[.slice (some ⟨g, 0, none⟩) l.length cap] u fun e w' => e = .returned (.int .i64 l.length) ∧ u = w' := by
  go_enter Try.func38, Try.ntmps38
  go_wp2
  go_ret
  exact ⟨rfl, rfl⟩
/-! Less -/
theorem StP.cd {W : World} {B g cap : Nat} {l : List Cd} {s : Nat → Nat} {u : World} (h : StP W B g cap l s u) {i : Nat} (hi : i < l.length) : CdAt u g (i * 4) (l.getD (s i) zcd) := by
  obtain ⟨A, c, e, _, _, h3⟩ := h.1.cs
  obtain ⟨b, o, e1, e2⟩ := h3 i _ (pmL_at hi)
  obtain ⟨rfl, -, -⟩ : some (⟨g, 0, none⟩ : Addr) = A ∧ l.length = (pmL l s).length ∧ cap = c := by simpa using e
  obtain ⟨rfl, rfl⟩ : g = b ∧ 0 = o := by simpa using e1
  rwa [Nat.zero_add] at e2
set_option maxHeartbeats 1000000 in
set_option maxRecDepth 100000 in
/-- Less of two places of a slice, wherever it lies; what S says of the world stays. -/
theorem p20lessG (g o cap n : Nat) (i j : Nat) (c y : Cd) (S : World → Prop) (hS : ∀ u u', S u → Below u.heap.size u u' → S u') (u : World) (hi : i < n) (hj : j < n) (ci : CdAt u g (o + i * 4) c) (cj : CdAt u g (o + j * 4) y) (h : S u) :
    Calls Try.prog 39 #[.slice (some ⟨g, o, none⟩) n cap, .int .i64 i, .int .i64 j] u fun e w' => e = .returned (.bool (prc c y)) ∧ S w' := by
  have HP := Lib.hid (fun u => p20pr_any c y u)
  obtain ⟨c1, c2, c3, c4⟩ := c
  obtain ⟨y1, y2, y3, y4⟩ := y
  generalize hp : prc ⟨c1, c2, c3, c4⟩ ⟨y1, y2, y3, y4⟩ = r at *
  clear hp
  obtain ⟨q0, q1, q2, q3⟩ := ci
  obtain ⟨r0, r1, r2, r3⟩ := cj
  have SH := Lib.hid h
  have HSS := Lib.hid hS
  clear h hS
  go_enter Try.func39, Try.ntmps39
  go_wp2_with fail
  have Hs : Hid ((u.drew.cell? ⟨g, o + i * 4, none⟩ = some (.int .i64 c1) ∧ u.drew.cell? ⟨g, o + i * 4 + 1, none⟩ = some (.int .i64 c2) ∧ u.drew.cell? ⟨g, o + i * 4 + 2, none⟩ = some (.int .i64 c3) ∧ u.drew.cell? ⟨g, o + i * 4 + 3, none⟩ = some (.string c4)) ∧ (u.drew.cell? ⟨g, o + j * 4, none⟩ = some (.int .i64 y1) ∧ u.drew.cell? ⟨g, o + j * 4 + 1, none⟩ = some (.int .i64 y2) ∧ u.drew.cell? ⟨g, o + j * 4 + 2, none⟩ = some (.int .i64 y3) ∧ u.drew.cell? ⟨g, o + j * 4 + 3, none⟩ = some (.string y4)) ∧ S u.drew) := Lib.hid ⟨⟨q0, q1, q2, q3⟩, ⟨r0, r1, r2, r3⟩, HSS.out _ _ SH.out (below_dn (Below.refl _ _) 1)⟩
  have XP := Lib.hid (fun (u : World) (hu : (u.cell? ⟨g, o + i * 4, none⟩ = some (.int .i64 c1) ∧ u.cell? ⟨g, o + i * 4 + 1, none⟩ = some (.int .i64 c2) ∧ u.cell? ⟨g, o + i * 4 + 2, none⟩ = some (.int .i64 c3) ∧ u.cell? ⟨g, o + i * 4 + 3, none⟩ = some (.string c4)) ∧ (u.cell? ⟨g, o + j * 4, none⟩ = some (.int .i64 y1) ∧ u.cell? ⟨g, o + j * 4 + 1, none⟩ = some (.int .i64 y2) ∧ u.cell? ⟨g, o + j * 4 + 2, none⟩ = some (.int .i64 y3) ∧ u.cell? ⟨g, o + j * 4 + 3, none⟩ = some (.string y4)) ∧ S u) => (HP.out u).mono (R' := fun e w' => e = .returned (.bool r) ∧ (w'.cell? ⟨g, o + i * 4, none⟩ = some (.int .i64 c1) ∧ w'.cell? ⟨g, o + i * 4 + 1, none⟩ = some (.int .i64 c2) ∧ w'.cell? ⟨g, o + i * 4 + 2, none⟩ = some (.int .i64 c3) ∧ w'.cell? ⟨g, o + i * 4 + 3, none⟩ = some (.string c4)) ∧ (w'.cell? ⟨g, o + j * 4, none⟩ = some (.int .i64 y1) ∧ w'.cell? ⟨g, o + j * 4 + 1, none⟩ = some (.int .i64 y2) ∧ w'.cell? ⟨g, o + j * 4 + 2, none⟩ = some (.int .i64 y3) ∧ w'.cell? ⟨g, o + j * 4 + 3, none⟩ = some (.string y4)) ∧ S w') (fun e w' ⟨he, hb⟩ => ⟨he, ⟨⟨cell_below hu.1.1 hb, cell_below hu.1.2.1 hb, cell_below hu.1.2.2.1 hb, cell_below hu.1.2.2.2 hb⟩, ⟨cell_below hu.2.1.1 hb, cell_below hu.2.1.2.1 hb, cell_below hu.2.1.2.2.1 hb, cell_below hu.2.1.2.2.2 hb⟩, HSS.out _ _ hu.2.2 hb⟩⟩))
  refine wp_region_held_drew (S := fun u => (u.cell? ⟨g, o + i * 4, none⟩ = some (.int .i64 c1) ∧ u.cell? ⟨g, o + i * 4 + 1, none⟩ = some (.int .i64 c2) ∧ u.cell? ⟨g, o + i * 4 + 2, none⟩ = some (.int .i64 c3) ∧ u.cell? ⟨g, o + i * 4 + 3, none⟩ = some (.string c4)) ∧ (u.cell? ⟨g, o + j * 4, none⟩ = some (.int .i64 y1) ∧ u.cell? ⟨g, o + j * 4 + 1, none⟩ = some (.int .i64 y2) ∧ u.cell? ⟨g, o + j * 4 + 2, none⟩ = some (.int .i64 y3) ∧ u.cell? ⟨g, o + j * 4 + 3, none⟩ = some (.string y4)) ∧ S u) (by kernel_rfl) Hs.out (fun hHeld => ?_)
  refine wpAnyH_take (i := 0) (oi := { dst := some 7, op := _, type := _, pos := _, after := _, guard := _ }) (v := ?v1_0) rfl (by kernel_rfl) (by kernel_rfl) (by kernel_rfl) (fun _ _ _ h => h) (Or.inl ⟨by rfl, ?hy1_0⟩) hHeld ?_
  case hy1_0 => (intro w hSw; (try dsimp only at hSw); go_simp; try with_reducible rfl)
  simp only [Act.put, List.setIfInBounds_toArray, List.set_cons_zero, List.set_cons_succ]
  refine wpAnyH_take (i := 1) (oi := { dst := some 8, op := _, type := _, pos := _, after := _, guard := _ }) (v := ?v1_1) rfl (by kernel_rfl) (by kernel_rfl) (by kernel_rfl) (fun _ _ _ h => h) (Or.inl ⟨by rfl, ?hy1_1⟩) hHeld ?_
  case hy1_1 => (intro w hSw; (try dsimp only at hSw); go_simp; try with_reducible rfl)
  simp only [Act.put, List.setIfInBounds_toArray, List.set_cons_zero, List.set_cons_succ]
  refine wpAnyH_take (i := 2) (oi := { dst := some 9, op := _, type := _, pos := _, after := _, guard := _ }) (v := ?v1_2) rfl (by kernel_rfl) (by kernel_rfl) (by kernel_rfl) (fun _ _ _ h => h) (Or.inl ⟨by rfl, ?hy1_2⟩) hHeld ?_
  case hy1_2 => (intro w hSw; (try dsimp only at hSw); go_simp; try with_reducible rfl)
  simp only [Act.put, List.setIfInBounds_toArray, List.set_cons_zero, List.set_cons_succ]
  refine wpAnyH_take (i := 3) (oi := { dst := some 10, op := _, type := _, pos := _, after := _, guard := _ }) (v := ?v1_3) rfl (by kernel_rfl) (by kernel_rfl) (by kernel_rfl) (fun _ _ _ h => h) (Or.inl ⟨by rfl, ?hy1_3⟩) hHeld ?_
  case hy1_3 => (intro w hSw; (try dsimp only at hSw); go_simp; try with_reducible rfl)
  simp only [Act.put, List.setIfInBounds_toArray, List.set_cons_zero, List.set_cons_succ]
  refine wpAnyH_take (i := 4) (oi := { dst := some 11, op := _, type := _, pos := _, after := _, guard := _ }) (v := ?v1_4) rfl (by kernel_rfl) (by kernel_rfl) (by kernel_rfl) (fun _ _ _ h => h) (Or.inl ⟨by rfl, ?hy1_4⟩) hHeld ?_
  case hy1_4 => (intro w hSw; (try dsimp only at hSw); go_simp; try with_reducible rfl)
  simp only [Act.put, List.setIfInBounds_toArray, List.set_cons_zero, List.set_cons_succ]
  refine wpAnyH_take (i := 5) (oi := { dst := some 12, op := _, type := _, pos := _, after := _, guard := _ }) (v := ?v1_5) rfl (by kernel_rfl) (by kernel_rfl) (by kernel_rfl) (fun _ _ _ h => h) (Or.inl ⟨by rfl, ?hy1_5⟩) hHeld ?_
  case hy1_5 => (intro w hSw; (try dsimp only at hSw); go_simp; try with_reducible rfl)
  simp only [Act.put, List.setIfInBounds_toArray, List.set_cons_zero, List.set_cons_succ]
  refine wpAnyH_take (i := 6) (oi := { dst := some 13, op := _, type := _, pos := _, after := _, guard := _ }) (v := ?v1_6) rfl (by kernel_rfl) (by kernel_rfl) (by kernel_rfl) (fun _ _ _ h => h) (Or.inl ⟨by rfl, ?hy1_6⟩) hHeld ?_
  case hy1_6 => (intro w hSw; (try dsimp only at hSw); go_simp; try with_reducible rfl)
  simp only [Act.put, List.setIfInBounds_toArray, List.set_cons_zero, List.set_cons_succ]
  refine wpAnyH_take (i := 7) (oi := { dst := some 14, op := _, type := _, pos := _, after := _, guard := _ }) (v := ?v1_7) rfl (by kernel_rfl) (by kernel_rfl) (by kernel_rfl) (fun _ _ _ h => h) (Or.inl ⟨by rfl, ?hy1_7⟩) hHeld ?_
  case hy1_7 => (intro w hSw; (try dsimp only at hSw); go_simp; try with_reducible rfl)
  simp only [Act.put, List.setIfInBounds_toArray, List.set_cons_zero, List.set_cons_succ]
  refine wpAnyH_ready (rs := [8]) (by kernel_rfl) (by simp) ?_
  refine AllReadyH.cons (o := { dst := some 15, op := _, type := _, pos := _, after := _, guard := _ }) rfl (fun K hK => ?_) AllReadyH.nil
  go_simp
  go_at_call 10
  refine (XP.out _ (by assumption)).mono ?_
  rintro e1 w1 ⟨rfl, hs1⟩
  refine hK.out _ _ hs1 (fun hHeld => ?_)
  clear hK K
  refine wpAnyH_take (i := 9) (oi := { dst := some 6, op := _, type := _, pos := _, after := _, guard := _ }) (v := ?v1_9) rfl (by kernel_rfl) (by kernel_rfl) (by kernel_rfl) (fun _ _ _ h => h) (Or.inl ⟨by rfl, ?hy1_9⟩) hHeld ?_
  case hy1_9 => (intro w hSw; (try dsimp only at hSw); go_simp; try with_reducible rfl)
  simp only [Act.put, List.setIfInBounds_toArray, List.set_cons_zero, List.set_cons_succ]
  refine wpAnyH_done (by kernel_rfl) ?_ _
  have S1 := Lib.hid hs1.2.2
  clear hs1 Hs XP
  go_wp2_with fail
  go_ret
  exact ⟨rfl, S1.out⟩
theorem p20less (W : World) (B g cap : Nat) (l : List Cd) (s : Nat → Nat) (i j : Nat) (u : World) (hi : i < l.length) (hj : j < l.length) (h : StP W B g cap l s u) :
    Calls Try.prog 39 #[.slice (some ⟨g, 0, none⟩) l.length cap, .int .i64 i, .int .i64 j] u fun e w' => e = .returned (.bool (ltl l (s i) (s j))) ∧ StP W B g cap l s w' :=
  p20lessG g 0 cap l.length i j _ _ (StP W B g cap l s) (fun _ _ h hb => h.on hb) u hi hj (by rw [Nat.zero_add]; exact h.cd hi) (by rw [Nat.zero_add]; exact h.cd hj) h
/-! Swap -/
theorem cell_same {w : World} {g a b : Nat} {x z : Value} (ha : w.cell? ⟨g, a, none⟩ = some z) (hb : w.cell? ⟨g, b, none⟩ = some x) : (w.setCell ⟨g, a, none⟩ x).cell? ⟨g, b, none⟩ = some x := by
  by_cases h : a = b
  · subst h
    exact World.cell?_setCell_same _ _ _ ha
  · rw [World.cell?_setCell_other _ _ _ _ (by simp)]; exact hb
theorem cell_oth {w : World} {g a b : Nat} {x z : Value} (h : a ≠ b) (hb : w.cell? ⟨g, b, none⟩ = some x) : (w.setCell ⟨g, a, none⟩ z).cell? ⟨g, b, none⟩ = some x := by
  rw [World.cell?_setCell_other _ _ _ _ (by simp)]; exact hb
/-- Four cells written at a place that the four at another place hold already: these are as they were. -/
theorem four_same {w : World} {g i j : Nat} {x0 x1 x2 x3 z0 z1 z2 z3 : Value} (a0 : w.cell? ⟨g, i * 4, none⟩ = some z0) (a1 : w.cell? ⟨g, i * 4 + 1, none⟩ = some z1) (a2 : w.cell? ⟨g, i * 4 + 2, none⟩ = some z2) (a3 : w.cell? ⟨g, i * 4 + 3, none⟩ = some z3)
    (b0 : w.cell? ⟨g, j * 4, none⟩ = some x0) (b1 : w.cell? ⟨g, j * 4 + 1, none⟩ = some x1) (b2 : w.cell? ⟨g, j * 4 + 2, none⟩ = some x2) (b3 : w.cell? ⟨g, j * 4 + 3, none⟩ = some x3) :
    let u := (((w.setCell ⟨g, i * 4, none⟩ x0).setCell ⟨g, i * 4 + 1, none⟩ x1).setCell ⟨g, i * 4 + 2, none⟩ x2).setCell ⟨g, i * 4 + 3, none⟩ x3
    u.cell? ⟨g, j * 4, none⟩ = some x0 ∧ u.cell? ⟨g, j * 4 + 1, none⟩ = some x1 ∧ u.cell? ⟨g, j * 4 + 2, none⟩ = some x2 ∧ u.cell? ⟨g, j * 4 + 3, none⟩ = some x3 := by
  refine ⟨?_, ?_, ?_, ?_⟩
  · exact cell_oth (by omega) (cell_oth (by omega) (cell_oth (by omega) (cell_same a0 b0)))
  · exact cell_oth (by omega) (cell_oth (by omega) (cell_same (cell_oth (by omega) a1) (cell_oth (by omega) b1)))
  · exact cell_oth (by omega) (cell_same (cell_oth (by omega) (cell_oth (by omega) a2)) (cell_oth (by omega) (cell_oth (by omega) b2)))
  · exact cell_same (cell_oth (by omega) (cell_oth (by omega) (cell_oth (by omega) a3))) (cell_oth (by omega) (cell_oth (by omega) (cell_oth (by omega) b3)))
theorem StP.fz {W : World} {B g cap : Nat} {l : List Cd} {s : Nat → Nat} {u : World} (h : StP W B g cap l s u) (j : Nat) : u.frozen? ⟨g, j, none⟩ = false := by
  have h' := h.1
  rw [CdsAt, pmL_len] at h'
  exact World.ownsRow.frozenAt h' j
set_option maxHeartbeats 1000000 in
set_option maxRecDepth 100000 in
theorem p20swap (W : World) (B g cap : Nat) (l : List Cd) (s : Nat → Nat) (i j : Nat) (u : World) (hi : i < l.length) (hj : j < l.length) (h : StP W B g cap l s u) :
    Calls Try.prog 40 #[.slice (some ⟨g, 0, none⟩) l.length cap, .int .i64 i, .int .i64 j] u fun e w' => e = .returned (.tuple #[]) ∧ StP W B g cap l (swp s i j) w' := by
  have ci := h.cd hi
  have cj := h.cd hj
  have hsw := Lib.hid (pmL_swp (s := s) hi hj)
  generalize l.getD (s i) zcd = c at *
  generalize l.getD (s j) zcd = y at *
  obtain ⟨c1, c2, c3, c4⟩ := c
  obtain ⟨y1, y2, y3, y4⟩ := y
  obtain ⟨q0, q1, q2, q3⟩ := ci
  obtain ⟨r0, r1, r2, r3⟩ := cj
  have fi0 := h.fz (i * 4)
  have fi1 := h.fz (i * 4 + 1)
  have fi2 := h.fz (i * 4 + 2)
  have fi3 := h.fz (i * 4 + 3)
  have fj0 := h.fz (j * 4)
  have fj1 := h.fz (j * 4 + 1)
  have fj2 := h.fz (j * 4 + 2)
  have fj3 := h.fz (j * 4 + 3)
  obtain ⟨g0, g1, g2, g3⟩ := four_same q0 q1 q2 q3 r0 r1 r2 r3
  have d0 : ((((u.setCell ⟨g, i * 4, none⟩ (.int .i64 y1)).setCell ⟨g, i * 4 + 1, none⟩ (.int .i64 y2)).setCell ⟨g, i * 4 + 2, none⟩ (.int .i64 y3)).setCell ⟨g, i * 4 + 3, none⟩ (.string y4)).drew.cell? ⟨g, j * 4, none⟩ = some (.int .i64 y1) := g0
  have d1 : ((((u.setCell ⟨g, i * 4, none⟩ (.int .i64 y1)).setCell ⟨g, i * 4 + 1, none⟩ (.int .i64 y2)).setCell ⟨g, i * 4 + 2, none⟩ (.int .i64 y3)).setCell ⟨g, i * 4 + 3, none⟩ (.string y4)).drew.cell? ⟨g, j * 4 + 1, none⟩ = some (.int .i64 y2) := g1
  have d2 : ((((u.setCell ⟨g, i * 4, none⟩ (.int .i64 y1)).setCell ⟨g, i * 4 + 1, none⟩ (.int .i64 y2)).setCell ⟨g, i * 4 + 2, none⟩ (.int .i64 y3)).setCell ⟨g, i * 4 + 3, none⟩ (.string y4)).drew.cell? ⟨g, j * 4 + 2, none⟩ = some (.int .i64 y3) := g2
  have d3 : ((((u.setCell ⟨g, i * 4, none⟩ (.int .i64 y1)).setCell ⟨g, i * 4 + 1, none⟩ (.int .i64 y2)).setCell ⟨g, i * 4 + 2, none⟩ (.int .i64 y3)).setCell ⟨g, i * 4 + 3, none⟩ (.string y4)).drew.cell? ⟨g, j * 4 + 3, none⟩ = some (.string y4) := g3
  have SH := Lib.hid h
  clear h
  dsimp only at *
  go_enter Try.func40, Try.ntmps40
  go_wp2_with fail
  go_region
  go_end0
  refine ⟨rfl, ?_⟩
  have K := SH.out.1
  rw [CdsAt, pmL_len] at K
  have K1 := (World.ownsRow.stored K (i * 4) (.int .i64 y1)).1
  have K2 := (World.ownsRow.stored K1 (i * 4 + 1) (.int .i64 y2)).1
  have K3 := (World.ownsRow.stored K2 (i * 4 + 2) (.int .i64 y3)).1
  have K4 := (World.ownsRow.stored K3 (i * 4 + 3) (.string y4)).1
  have L1 := (World.ownsRow.stored K4 (j * 4) (.int .i64 c1)).1
  have L2 := (World.ownsRow.stored L1 (j * 4 + 1) (.int .i64 c2)).1
  have L3 := (World.ownsRow.stored L2 (j * 4 + 2) (.int .i64 c3)).1
  have L4 := (World.ownsRow.stored L3 (j * 4 + 3) (.string c4)).1
  have hBg : B ≤ g := (World.ownsRow.lt K g rfl).1
  have e : flat4 (pmL l (swp s i j)) = _ := congrArg flat4 hsw.out.symm
  rw [flat4_set _ j _ (by rw [List.length_set, pmL_len]; exact hj), flat4_set _ i _ (by rw [pmL_len]; exact hi)] at e
  refine ⟨?_, ?_, ?_⟩
  · rw [CdsAt, pmL_len, e]; exact World.ownsRow.drew L4
  · exact below_dn ((((((((SH.out.2.1.setCell (p := ⟨g, i * 4, none⟩) hBg _).setCell (p := ⟨g, i * 4 + 1, none⟩) hBg _).setCell (p := ⟨g, i * 4 + 2, none⟩) hBg _).setCell (p := ⟨g, i * 4 + 3, none⟩) hBg _).setCell (p := ⟨g, j * 4, none⟩) hBg _).setCell (p := ⟨g, j * 4 + 1, none⟩) hBg _).setCell (p := ⟨g, j * 4 + 2, none⟩) hBg _).setCell (p := ⟨g, j * 4 + 3, none⟩) hBg _) 1
  · have := SH.out.2.2; simpa using this
/-! Sort -/
theorem p20si (W : World) (B g cap : Nat) (l : List Cd) (hl : l.length ≤ 1000) : SI l.length (ltl l) 41 (.slice (some ⟨g, 0, none⟩) l.length cap) 39 40 (fun s u => StP W B g cap l s u) where
  bd := by omega
  sw := ltl_sw l
  mL := fun j u => by kernel_rfl
  mS := fun j u => by kernel_rfl
  eL := fun a u => by kernel_rfl
  eS := fun a u => by kernel_rfl
  L := fun s i j u hi hj h => p20less W B g cap l s i j u hi hj h
  S := fun s i j u hi hj h => p20swap W B g cap l s i j u hi hj h
theorem p20stable (W : World) (B g cap : Nat) (l : List Cd) (hl : l.length ≤ 1000) (u : World) (h : StP W B g cap l (fun i => i) u) : Calls Try.prog 16 #[.iface 41 (.slice (some ⟨g, 0, none⟩) l.length cap)] u fun e w' => e = .returned (.tuple #[]) ∧ CdsAt 29 B (.slice (some ⟨g, 0, none⟩) l.length cap) (srtR l) w' ∧ Below B W w' := by
  refine (sort_Stable (p20si W B g cap l hl) 38 u h (fun j u => by kernel_rfl) (fun a u => by kernel_rfl) (fun u hu => (p20len l g cap u).mono fun e w' ⟨he, hw⟩ => ⟨he, hw ▸ hu⟩)).mono ?_
  rintro e w' ⟨rfl, t, ht, hg, hs⟩
  refine ⟨rfl, ?_, ht.2.1⟩
  have e : pmL l t = srtR l := by
    apply List.ext_getElem?
    intro q
    by_cases hq : q < l.length
    · rw [pmL_at hq, srtR_at hg hs hq]
    · rw [List.getElem?_eq_none (by rw [pmL_len]; omega), List.getElem?_eq_none (by rw [srtR_len]; omega)]
  rw [← e]; exact ht.1
theorem own_in4 {t : TypeId} {B : Nat} {v : Value} {n : Nat} {cs : List Value} {w : World} (h : w.ownsRow B t 4 v n cs) (h0 : v ≠ .slice none 0 0) : ∃ g cap, v = .slice (some ⟨g, 0, none⟩) n cap ∧ B ≤ g ∧ g < w.heap.size := by
  rcases h.2 with ⟨rfl, hn⟩ | ⟨g, cap, cur, rfl, hb, hg, hnc, hcm, hcs, htake⟩
  · exact absurd rfl h0
  · exact ⟨g, cap, rfl, hb, (Array.getElem?_eq_some_iff.1 hg).1⟩
theorem CsAt.news {W : World} {l : List Cd} {cap b o : Nat} (h : CsAt W (.slice (some ⟨b, o, none⟩) l.length cap) l) : ∀ j u, (flat4 l)[j]? = some u → W.cell? ((⟨b, o, none⟩ : Addr).add j) = some u := by
  obtain ⟨A', cap', e, _, _, h3⟩ := h
  obtain ⟨rfl, -, rfl⟩ : some (⟨b, o, none⟩ : Addr) = A' ∧ l.length = l.length ∧ cap = cap' := by simpa using e
  intro j u hj
  have hlen := (List.getElem?_eq_some_iff.1 hj).1
  rw [flat4_len] at hlen
  obtain ⟨c, hc⟩ : ∃ c, l[j / 4]? = some c := ⟨_, List.getElem?_eq_getElem (by omega)⟩
  obtain ⟨b', o', e1, hcd⟩ := h3 (j / 4) c hc
  obtain ⟨rfl, rfl⟩ : b = b' ∧ o = o' := by simpa using e1
  obtain ⟨f0, f1, f2, f3⟩ := flat4_at l (j / 4) c hc
  have hadd : (⟨b, o, none⟩ : Addr).add j = ⟨b, o + j, none⟩ := by unfold Addr.add; split <;> simp_all
  rw [hadd]
  have hm : j = j / 4 * 4 ∨ j = j / 4 * 4 + 1 ∨ j = j / 4 * 4 + 2 ∨ j = j / 4 * 4 + 3 := by omega
  rcases hm with hm | hm | hm | hm
  · rw [hm, f0] at hj; rw [← hj, hm, ← hm]; rw [show o + j = o + j / 4 * 4 by omega]; exact hcd.c0
  · rw [hm, f1] at hj; rw [← hj]; rw [show o + j = o + j / 4 * 4 + 1 by omega]; exact hcd.c1
  · rw [hm, f2] at hj; rw [← hj]; rw [show o + j = o + j / 4 * 4 + 2 by omega]; exact hcd.c2
  · rw [hm, f3] at hj; rw [← hj]; rw [show o + j = o + j / 4 * 4 + 3 by omega]; exact hcd.c3
set_option maxRecDepth 100000 in
theorem p20so_some (l : List Cd) (b o c : Nat) (W : World) (hl : l.length ≤ 1000) (h0 : 0 < l.length) (h : CsAt W (.slice (some ⟨b, o, none⟩) l.length c) l) : Calls Try.prog 14 #[.slice (some ⟨b, o, none⟩) l.length c] W (RetC W (srtR l)) := by
  obtain ⟨i0, hi, hz0, hz1, hz2⟩ := info_parts infoCd
  have BA := Lib.hid ((Below.refl W.heap.size W).alloc (Nat.le_refl _) (.cells #[] 29))
  have HN := Lib.hid (h.on BA.out).news
  have HM := Lib.hid (World.ownsRow_made (base := W.heap.size) (e := 29) (size := 4) W #[] 0 (Nat.le_refl _) (Nat.zero_le _) rfl)
  have H1 := Lib.hid (flat4_one l)
  have HLn := Lib.hid (flat4_len l)
  clear h
  go_enter Try.func14, Try.ntmps14
  go_wp2_with (at_builtin; refine wpList_append_own _ rfl _ _ 26 rfl W.heap.size 29 i0 (cdv zcd) 4 40 Try.underlying26 hi hz0 hz1 hz2 rfl (by decide) (.slice (some ⟨W.heap.size, 0, none⟩) 0 0) 0 [] rfl HM.out ⟨b, o, none⟩ l.length c (flat4 l) rfl HLn.out HN.out H1.out (by unfold maxLen; omega) (by omega) (by simp) ?_; intro v' w1 hown hgrow hnn; rw [Nat.zero_add, List.nil_append] at hown; obtain ⟨g, cap, rfl, hg1, hg2⟩ := own_in4 hown (fun e => by have := (hnn.1 e).1; cases this); have B1 := Lib.hid (BA.out.grown hgrow (by simp) (fun k e => by cases e; exact Nat.le_refl _)); have V1 := Lib.hid hown; clear hown hgrow hnn)
  refine (p20stable W W.heap.size g cap l hl w1 ⟨by rw [pmL_id]; exact V1.out, B1.out, B1.out.size⟩).mono ?_
  rintro e w2 ⟨rfl, hd, hb⟩
  have V2 := Lib.hid hd
  have B2 := Lib.hid hb
  clear hd hb
  go_wp2_with fail
  go_ret
  exact ⟨_, rfl, by have := V2.out.cs; exact this, B2.out⟩
/-! Sort of an empty list -/
theorem cs_emp0 {t B : Nat} {v : Value} {w : World} (h : CdsAt t B v [] w) : CsAt w v (srtR []) := h.cs
theorem run_app_none {P : Program} {w : World} (t ty e : TypeId) (i : TypeInfo) (ht : P.underlying t = some (.slice e)) (hi : P.info? e = some i) (g cap c : Nat) :
    (Builtin.append_ #[t, t] ty #[.slice (some ⟨g, 0, none⟩) 0 cap, .slice none 0 c]).run P w = .ok (.slice (some ⟨g, 0, none⟩) 0 cap) w := by
  simp [Builtin.append_, run_underlying ht, sizeOf, typeInfo, hi, Builtin.lenOf, Builtin.firstCells, storeCells]
/-- Nothing appended to an empty list of the call's own. -/
theorem list_app_none {P : Program} {w : World} {ops : Array Oper} {rest : List Oper} {o : Oper} {a : Act} {Q : Exit → Act → World → Prop} (hgd : o.guard = none) (s x : Operand) (t : TypeId)
    (ho : o.op = .call { callee := .builtin .append, args := #[s, x], argTypes := #[t, t] })
    (e : TypeId) (i : TypeInfo) (ht : P.underlying t = some (.slice e)) (hi : P.info? e = some i) (g cap c : Nat) (hs : a.eval s = .slice (some ⟨g, 0, none⟩) 0 cap) (hx : a.eval x = .slice none 0 c)
    (h : wpList P ops Q rest (a.put o.dst (.slice (some ⟨g, 0, none⟩) 0 cap)) w) : wpList P ops Q (o :: rest) a w := by
  refine wpList_plain hgd fun K hK => ?_
  have hrun := run_app_none (P := P) (w := w) t o.type e i ht hi g cap c
  unfold Oper.wp
  simp [execOp, ho, resolve, invoke, builtin, hs, hx, hrun, Result.andThen]
  exact hK _ _ h
theorem p20so_nil (c : Nat) (W : World) : Calls Try.prog 14 #[.slice none 0 c] W (RetC W (srtR [])) := by
  obtain ⟨i0, hi, hz0, hz1, hz2⟩ := info_parts infoCd
  have BA := Lib.hid ((Below.refl W.heap.size W).alloc (Nat.le_refl _) (.cells #[] 29))
  have HM := Lib.hid (World.ownsRow_made (base := W.heap.size) (e := 29) (size := 4) W #[] 0 (Nat.le_refl _) (Nat.zero_le _) rfl)
  go_enter Try.func14, Try.ntmps14
  go_wp2_with (at_builtin; refine list_app_none rfl _ _ 26 rfl 29 i0 Try.underlying26 hi W.heap.size 0 c rfl rfl ?_)
  refine (p20stable W W.heap.size W.heap.size 0 [] (Nat.zero_le _) _ ⟨HM.out, BA.out, BA.out.size⟩).mono ?_
  rintro e w2 ⟨rfl, hd, hb⟩
  have V2 := Lib.hid hd
  have B2 := Lib.hid hb
  clear hd hb
  go_wp2_with fail
  go_ret
  exact ⟨_, rfl, by have := V2.out.cs; exact this, B2.out⟩
theorem p20so_emp (ad : Addr) (c : Nat) (W : World) : Calls Try.prog 14 #[.slice (some ad) 0 c] W (RetC W (srtR [])) := by
  obtain ⟨i0, hi, hz0, hz1, hz2⟩ := info_parts infoCd
  have BA := Lib.hid ((Below.refl W.heap.size W).alloc (Nat.le_refl _) (.cells #[] 29))
  have HM := Lib.hid (World.ownsRow_made (base := W.heap.size) (e := 29) (size := 4) W #[] 0 (Nat.le_refl _) (Nat.zero_le _) rfl)
  go_enter Try.func14, Try.ntmps14
  go_wp2_with (at_builtin; refine wpList_append_own _ rfl _ _ 26 rfl W.heap.size 29 i0 (cdv zcd) 4 40 Try.underlying26 hi hz0 hz1 hz2 rfl (by decide) (.slice (some ⟨W.heap.size, 0, none⟩) 0 0) 0 [] rfl HM.out ad 0 c [] rfl rfl (fun j u h => by simp at h) (fun u h => by simp at h) (by decide) (by omega) (by simp) ?_; intro v' w1 hown hgrow hnn; rw [Nat.zero_add, List.nil_append] at hown; obtain ⟨g, cap, rfl, hg1, hg2⟩ := own_in4 hown (fun e => by have := (hnn.1 e).1; cases this); have B1 := Lib.hid (BA.out.grown hgrow (by simp) (fun k e => by cases e; exact Nat.le_refl _)); have V1 := Lib.hid hown; clear hown hgrow hnn)
  refine (p20stable W W.heap.size g cap [] (Nat.zero_le _) w1 ⟨V1.out, B1.out, B1.out.size⟩).mono ?_
  rintro e w2 ⟨rfl, hd, hb⟩
  have V2 := Lib.hid hd
  have B2 := Lib.hid hb
  clear hd hb
  go_wp2_with fail
  go_ret
  exact ⟨_, rfl, by have := V2.out.cs; exact this, B2.out⟩
theorem p20so_any (v : Value) (l : List Cd) (W : World) (hl : l.length ≤ 1000) (h : CsAt W v l) : Calls Try.prog 14 #[v] W (RetC W (srtR l)) := by
  rcases Nat.eq_zero_or_pos l.length with h0 | h0
  · obtain rfl := List.eq_nil_of_length_eq_zero h0
    obtain ⟨A, c, rfl, _⟩ := h
    cases A with
    | none => exact p20so_nil c W
    | some ad => exact p20so_emp ad c W
  · have h' := h
    obtain ⟨A, c, rfl, _, _, h3⟩ := h
    obtain ⟨b, o, rfl, _⟩ := h3 0 _ (List.getElem?_eq_getElem h0)
    exact p20so_some l b o c W hl h0 h'
/-! First -/
theorem p20hd_at {l : List Cd} (h : 0 < l.length) : (srtR l)[0]? = some (hdR l) := by
  have := srtR_len l
  unfold hdR
  cases e : srtR l with
  | nil => rw [e] at this; simp at this; omega
  | cons x xs => rfl
/-- The place of the first that no other precedes, of the first n. -/
def mnL (l : List Cd) : Nat → Nat
  | 0 => 0
  | k + 1 => if ltl l k (mnL l k) = true then k else mnL l k
theorem mnL_lt {l : List Cd} {n : Nat} (h : 0 < n) : ∀ k, k ≤ n → mnL l k < n
  | 0, _ => h
  | k + 1, hk => by
    rw [mnL]; split
    · omega
    · exact mnL_lt h k (by omega)
theorem mnL_min (l : List Cd) : ∀ k, (∀ j, j < k → ltl l j (mnL l k) = false) ∧ ∀ j, j < mnL l k → ltl l (mnL l k) j = true
  | 0 => ⟨fun j h => by omega, fun j h => by rw [mnL] at h; omega⟩
  | k + 1 => by
    obtain ⟨h1, h2⟩ := mnL_min l k
    have H := ltl_sw l
    have irr : ∀ a, ltl l a a = false := fun a => by
      cases e : ltl l a a
      · rfl
      · have := H.asym a a e; rw [e] at this; exact this
    rw [mnL]
    cases e : ltl l k (mnL l k)
    · rw [if_neg (by decide)]
      refine ⟨fun j hj => ?_, h2⟩
      rcases Nat.lt_or_ge j k with hh | hh
      · exact h1 j hh
      · obtain rfl : j = k := by omega
        exact e
    · rw [if_pos rfl]
      refine ⟨fun j hj => ?_, fun j hj => ?_⟩
      · rcases Nat.lt_or_ge j k with hh | hh
        · exact H.ntr _ _ _ (h1 j hh) (H.asym _ _ e)
        · obtain rfl : j = k := by omega
          exact irr _
      · cases f : ltl l k j
        · rw [H.ntr _ _ _ f (h1 j hj)] at e; cases e
        · rfl
theorem hdR_mn {l : List Cd} (h : 0 < l.length) : hdR l = l.getD (mnL l l.length) zcd := by
  have H := ltl_sw l
  have gs := srtI_gd H l.length
  have hs := srtI_srt H l.length
  obtain ⟨h1, h2⟩ := mnL_min l l.length
  have a := p20hd_at h
  rw [srtR_at gs hs h] at a
  rw [← Option.some.inj a]
  congr 1
  obtain ⟨q, hq, e⟩ := gs.sur _ (mnL_lt h l.length (Nat.le_refl _))
  rcases Nat.eq_zero_or_pos q with rfl | hp
  · exact e
  · exfalso
    have p := hs 0 q (Nat.le_refl _) hp hq
    simp only [e] at p
    have t := gs.lt 0 h
    rcases p with p | ⟨p, p'⟩
    · rw [h1 _ t] at p; cases p
    · rw [h2 _ p'] at p; cases p
theorem p20four {w u : World} {b t : Nat} {o0 o1 o2 o3 x0 x1 x2 x3 : Value} (h : w.heap[b]? = some (.cells #[o0, o1, o2, o3] t (0, 0)))
    (hu : (((w.setCell ⟨b, 0, none⟩ x0).setCell ⟨b, 1, none⟩ x1).setCell ⟨b, 2, none⟩ x2).setCell ⟨b, 3, none⟩ x3 = u) : u.heap[b]? = some (.cells #[x0, x1, x2, x3] t (0, 0)) ∧ Below b w u := by
  subst hu
  have h0 := heap_setCell_same w b 0 _ _ x0 h
  have h1 := heap_setCell_same _ b 1 _ _ x1 h0
  have h2 := heap_setCell_same _ b 2 _ _ x2 h1
  have h3 := heap_setCell_same _ b 3 _ _ x3 h2
  exact ⟨h3, ((((Below.refl b w).setCell (p := ⟨b, 0, none⟩) (Nat.le_refl _) _).setCell (p := ⟨b, 1, none⟩) (Nat.le_refl _) _).setCell (p := ⟨b, 2, none⟩) (Nat.le_refl _) _).setCell (p := ⟨b, 3, none⟩) (Nat.le_refl _) _⟩
theorem p20fi_nil (A : Option Addr) (c : Nat) (W : World) : Calls Try.prog 9 #[.slice A 0 c] W fun e w' => e = .returned (.tuple #[cdv zcd, .bool false]) ∧ Below W.heap.size W w' := by
  go_enter Try.func9, Try.ntmps9
  go_wp2
  exact bodyPost_ret (v := .tuple #[cdv zcd, .bool false]) (by simp [results, Try.results9, go_sem, zcd]) rfl ⟨rfl, (Below.refl _ _).alloc (Nat.le_refl _) _⟩
theorem p20lenA (A : Option Addr) (n cap : Nat) (u : World) : Calls Try.prog 38 #[.slice A n cap] u fun e w' => e = .returned (.int .i64 n) ∧ u = w' := by
  go_enter Try.func38, Try.ntmps38
  go_wp2
  go_ret
  exact ⟨rfl, rfl⟩
theorem CsAt.cd {W : World} {l : List Cd} {c b o : Nat} (h : CsAt W (.slice (some ⟨b, o, none⟩) l.length c) l) {i : Nat} (hi : i < l.length) : CdAt W b (o + i * 4) (l.getD i zcd) := by
  obtain ⟨A, c', e, _, _, h3⟩ := h
  obtain ⟨b', o', e1, e2⟩ := h3 i (l.getD i zcd) (by rw [List.getD_eq_getElem?_getD, List.getElem?_eq_getElem hi]; rfl)
  obtain ⟨rfl, -, -⟩ : some (⟨b, o, none⟩ : Addr) = A ∧ l.length = l.length ∧ c = c' := by simpa using e
  obtain ⟨rfl, rfl⟩ : b = b' ∧ o = o' := by simpa using e1
  exact e2
theorem p20lessC (b o c : Nat) (l : List Cd) (B : World) (i j : Nat) (u : World) (hi : i < l.length) (hj : j < l.length) (h : CsAt u (.slice (some ⟨b, o, none⟩) l.length c) l ∧ Below B.heap.size B u) :
    Calls Try.prog 39 #[.slice (some ⟨b, o, none⟩) l.length c, .int .i64 i, .int .i64 j] u fun e w' => e = .returned (.bool (ltl l i j)) ∧ CsAt w' (.slice (some ⟨b, o, none⟩) l.length c) l ∧ Below B.heap.size B w' :=
  p20lessG b o c l.length i j _ _ (fun u => CsAt u (.slice (some ⟨b, o, none⟩) l.length c) l ∧ Below B.heap.size B u) (fun _ _ h hb => ⟨h.1.on hb, below_on h.2 hb⟩) u hi hj (h.1.cd hi) (h.1.cd hj) h
set_option maxRecDepth 100000 in
theorem p20iol (b o c : Nat) (l : List Cd) (W : World) (hl : l.length ≤ 1000) (h0 : 0 < l.length) (h : CsAt W (.slice (some ⟨b, o, none⟩) l.length c) l) :
    Calls Try.prog 15 #[.iface 41 (.slice (some ⟨b, o, none⟩) l.length c)] W fun e w' => e = .returned (.int .i64 (mnL l l.length)) ∧ Below W.heap.size W w' := by
  have mN : ∀ (j : Nat) (u : World), (method (j + 1) 41 (.slice (some ⟨b, o, none⟩) l.length c) "Len").run Try.prog u = .ok (38, .slice (some ⟨b, o, none⟩) l.length c) u := fun j u => by kernel_rfl
  have mL : ∀ (j : Nat) (u : World), (method (j + 1) 41 (.slice (some ⟨b, o, none⟩) l.length c) "Less").run Try.prog u = .ok (39, .slice (some ⟨b, o, none⟩) l.length c) u := fun j u => by kernel_rfl
  have eN : ∀ (a : Array Value) (u : World), (callFunc 38 a).run Try.prog u = .ok (.enter 38 a) u := fun a u => by kernel_rfl
  have eL : ∀ (a : Array Value) (u : World), (callFunc 39 a).run Try.prog u = .ok (.enter 39 a) u := fun a u => by kernel_rfl
  have HL := Lib.hid (fun i j u hi hj h => p20lessC b o c l W i j u hi hj h)
  have HM := Lib.hid (fun k hk => mnL_lt (l := l) h0 k hk)
  have HS := Lib.hid (⟨h, Below.refl _ _⟩ : CsAt W (.slice (some ⟨b, o, none⟩) l.length c) l ∧ Below W.heap.size W W)
  clear h
  go_enter Try.func15, Try.ntmps15
  go_wp2_with fail
  refine (p20lenA (some ⟨b, o, none⟩) l.length c _).mono ?_
  rintro e w1 ⟨rfl, rfl⟩
  go_wp2_with fail
  go_loopw [3, 7] (fun lv iv wr => ∃ k : Nat, k ≤ l.length ∧ lv = .int .i64 (mnL l k) ∧ iv = .int .i64 k ∧ CsAt wr (.slice (some ⟨b, o, none⟩) l.length c) l ∧ Below W.heap.size W wr) (fun _ iv _ => l.length - (intOf iv).toNat)
  case atStart => exact ⟨0, Nat.zero_le _, rfl, rfl, HS.out.1, HS.out.2⟩
  case round =>
    obtain ⟨k, hk, rfl, rfl, h1, h2⟩ := hrel
    have H1 := Lib.hid h1
    have H2 := Lib.hid h2
    clear h1 h2
    by_cases hlt : k < l.length
    · have HL1 := Lib.hid (HL.out k (mnL l k) _ hlt (HM.out k hk) ⟨H1.out, H2.out⟩)
      cases hc : ltl l k (mnL l k)
      · have X : mnL l (k + 1) = mnL l k := by rw [mnL, hc, if_neg (by decide)]
        rw [hc] at HL1
        go_wp2_with fail
        refine HL1.out.mono ?_
        rintro e w2 ⟨rfl, h1, h2⟩
        have K1 := Lib.hid h1
        have K2 := Lib.hid h2
        clear h1 h2
        go_wp2_with fail
        go_roundw
        case rel => exact ⟨k + 1, by omega, by rw [X], by go_num, K1.out, K2.out⟩
        case measure => simp [intOf]; omega
      · have X : mnL l (k + 1) = k := by rw [mnL, hc, if_pos rfl]
        rw [hc] at HL1
        go_wp2_with fail
        refine HL1.out.mono ?_
        rintro e w2 ⟨rfl, h1, h2⟩
        have K1 := Lib.hid h1
        have K2 := Lib.hid h2
        clear h1 h2
        go_wp2_with fail
        go_roundw
        case rel => exact ⟨k + 1, by omega, by rw [X], by go_num, K1.out, K2.out⟩
        case measure => simp [intOf]; omega
    · obtain rfl : k = l.length := by omega
      go_wp2_with fail
      go_ret
      exact ⟨rfl, H2.out⟩
set_option maxRecDepth 100000 in
theorem p20fi_some (b o c : Nat) (l : List Cd) (W : World) (hl : l.length ≤ 1000) (h0 : 0 < l.length) (h : CsAt W (.slice (some ⟨b, o, none⟩) l.length c) l) : Calls Try.prog 9 #[.slice (some ⟨b, o, none⟩) l.length c] W fun e w' => e = .returned (.tuple #[cdv (hdR l), .bool true]) ∧ Below W.heap.size W w' := by
  have HI := Lib.hid (fun u (q : CsAt u (.slice (some ⟨b, o, none⟩) l.length c) l) => p20iol b o c l u hl h0 q)
  have HC := Lib.hid (fun u (q : CsAt u (.slice (some ⟨b, o, none⟩) l.length c) l) => q.cd (mnL_lt (l := l) h0 l.length (Nat.le_refl _)))
  have hm := mnL_lt (l := l) h0 l.length (Nat.le_refl _)
  rw [hdR_mn h0]
  have G := Lib.hid h
  clear h
  generalize mnL l l.length = m at *
  generalize l.getD m zcd = hd at *
  obtain ⟨h1, h2, h3, h4⟩ := hd
  have k1 : ¬ l.length = 0 := by omega
  have k3 : ¬ l = [] := fun e => by rw [e] at h0; cases h0
  have B0 := Lib.hid ((Below.refl W.heap.size W).alloc (Nat.le_refl _) (.cells #[.int .i64 0, .int .i64 0, .int .i64 0, .string ⟨#[]⟩] 29))
  have R0 := Lib.hid (heap_alloc_new W (.cells #[.int .i64 0, .int .i64 0, .int .i64 0, .string ⟨#[]⟩] 29))
  go_enter Try.func9, Try.ntmps9
  go_wp2_with fail
  refine (HI.out _ (G.out.on B0.out)).mono ?_
  rintro e w1 ⟨rfl, hb⟩
  have B1 := Lib.hid (below_on B0.out hb)
  have R1 := Lib.hid (row_on R0.out hb)
  obtain ⟨q0, q1, q2, q3⟩ := HC.out w1 (G.out.on B1.out)
  have c0 := cell_of_row w1 W.heap.size 0 _ _ _ R1.out
  have c1 := cell_of_row w1 W.heap.size 1 _ _ _ R1.out
  have c2 := cell_of_row w1 W.heap.size 2 _ _ _ R1.out
  have c3 := cell_of_row w1 W.heap.size 3 _ _ _ R1.out
  have f0 := frozen_of_row w1 W.heap.size 0 _ _ R1.out
  have f1 := frozen_of_row w1 W.heap.size 1 _ _ R1.out
  have f2 := frozen_of_row w1 W.heap.size 2 _ _ R1.out
  have f3 := frozen_of_row w1 W.heap.size 3 _ _ R1.out
  clear hb
  dsimp only at *
  simp at c0 c1 c2 c3
  go_wp2_with fail
  generalize hu8 : (((w1.setCell ⟨W.heap.size, 0, none⟩ (.int .i64 h1)).setCell ⟨W.heap.size, 1, none⟩ (.int .i64 h2)).setCell ⟨W.heap.size, 2, none⟩ (.int .i64 h3)).setCell ⟨W.heap.size, 3, none⟩ (.string h4) = u8
  obtain ⟨r8, b8⟩ := p20four R1.out hu8
  have m0 := cell_of_row u8 W.heap.size 0 _ _ _ r8
  have m1 := cell_of_row u8 W.heap.size 1 _ _ _ r8
  have m2 := cell_of_row u8 W.heap.size 2 _ _ _ r8
  have m3 := cell_of_row u8 W.heap.size 3 _ _ _ r8
  simp at m0 m1 m2 m3
  exact bodyPost_ret (v := .tuple #[cdv ⟨h1, h2, h3, h4⟩, .bool true]) (by simp [results, Try.results9, go_sem, m0, m1, m2, m3]) rfl ⟨rfl, B1.out.trans b8⟩
theorem pp20 : PP where
  pr := p20pr_any
  so := fun v l u hl h => p20so_any v l u (by omega) h
  fi := fun v l u hl h => by
    have h' := h
    obtain ⟨A, c, rfl, _, _, h3⟩ := h
    rcases Nat.eq_zero_or_pos l.length with h0 | h0
    · obtain rfl := List.eq_nil_of_length_eq_zero h0
      exact p20fi_nil A c u
    · have e : (!l.isEmpty) = true := by cases l with | nil => cases h0 | cons x xs => rfl
      rw [e]
      obtain ⟨b, o, rfl, _⟩ := h3 0 _ (List.getElem?_eq_getElem h0)
      exact p20fi_some b o c l u (by omega) h0 h'
end Go.Proofs.Ytomoaolomddidaa
