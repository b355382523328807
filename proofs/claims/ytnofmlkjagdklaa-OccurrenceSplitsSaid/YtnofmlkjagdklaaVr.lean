/- Package occurrence: the closure that appends to a list of a result; addTo. -/
import Derived.Test.YtnofmlkjagdklaaVq
namespace Go.Proofs.Ytnofmlkjagdklaa
open Go.RowKit Go.Maps

noncomputable def acO (f : Func) : Array Oper := match f.body with | some (.seq (.region _ ops _) _) => ops | some (.region _ ops _) => ops | _ => #[]
abbrev acA (i : Int) (B rb k : Nat) (x6 x8 x9 x10 : Value) : Act := { tmps := #[.int .i64 i, .pointer (some ⟨B, 0, none⟩), undef, .pointer (some ⟨rb, k, none⟩), .pointer (some ⟨rb, k, none⟩), .pointer (some ⟨rb, k, none⟩), x6, .int .i64 i, x8, x9, x10], defers := [] }
theorem cell_al {w : World} {b k : Nat} {x : Value} (h : w.cell? ⟨b, k, none⟩ = some x) (o : Obj) : (w.alloc o).cell? ⟨b, k, none⟩ = some x := cell_below h ((Below.refl _ _).alloc (Nat.le_refl _) o)
section
variable (Q : Exit → Act → World → Prop) (i : Int) (B rb k T : Nat) (v : Value) (xs : List Int) (w0 : World) (hB : w0.cell? ⟨B, 0, none⟩ = some (.pointer (some ⟨rb, k, none⟩))) (hBr : B ≠ rb) (hBT : B < T) (hc : w0.cell? ⟨rb, k, none⟩ = some v) (hf : w0.frozen? ⟨rb, k, none⟩ = false)
  (hrT : rb < T) (hT : T ≤ w0.heap.size) (hv : IntsAt T v xs w0) (hl : xs.length ≤ 1000)
  (hend : ∀ gg cap w2, w2.ownsRow T 3 1 (.slice (some ⟨gg, 0, none⟩) (xs.length + 1) cap) (xs.length + 1) (xs.map (Value.int .i64) ++ [.int .i64 i]) → (w0.alloc (.cells #[.int .i64 i] 3)).grownBy w2 v.ownBlock → (v.ownBlock = some gg ∨ gg = w0.heap.size + 1) →
    Q .normal (acA i B rb k v (.slice (some ⟨w0.heap.size, 0, none⟩) 1 1) (.slice (some ⟨gg, 0, none⟩) (xs.length + 1) cap) (.pointer (some ⟨rb, k, none⟩))) (w2.setCell ⟨rb, k, none⟩ (.slice (some ⟨gg, 0, none⟩) (xs.length + 1) cap)))
include hB hBr hBT hc hf hrT hT hv hl hend
set_option maxRecDepth 100000 in
theorem ac_tail : wpAnyH Try.prog .any (acO Try.f43) Q (fun u => u.cell? ⟨B, 0, none⟩ = some (.pointer (some ⟨rb, k, none⟩))) 3 #[true, true, true, true, true, true, false, false, false] (acA i B rb k v (.slice (some ⟨w0.heap.size, 0, none⟩) 1 1) undef undef) (w0.drew.alloc (.cells #[.int .i64 i] 3)) := by
  obtain ⟨i0, hi0, hz0, hz1, hz2⟩ := info_parts infoInt
  refine wpAnyH_ready (rs := [6]) (by kernel_rfl) (by simp) ?_
  refine AllReadyH.cons (o := { dst := some 9, op := _, type := _, pos := _, after := _, guard := _ }) rfl (fun K hK => ?_) AllReadyH.nil
  rw [if_pos (by rfl)]
  have hvd : IntsAt T v xs (w0.drew.alloc (.cells #[.int .i64 i] 3)) := IntsAt.al (w := w0.drew) hv _
  refine wp_append_lies _ _ _ 33 rfl T 3 i0 (.int .i64 0) 1 8 Try.underlying33 hi0 hz0 hz1 hz2 rfl (by decide) v xs.length (xs.map (Value.int .i64)) rfl hvd ⟨w0.heap.size, 0, none⟩ 1 1 [.int .i64 i] rfl rfl (cell_one_new w0.drew _ _) (by simp [Value.oneCell']) (by decide) (by unfold maxLen; omega) (by omega) (by simp; omega) (w0.heap.size + 1) (by simp) ?_
  intro gg cap w2 hown hgrow hat hlt
  have hBv : some B ≠ v.ownBlock := fun e => absurd (World.ownsRow.lt hv B e.symm).1 (by omega)
  have hrv : some rb ≠ v.ownBlock := fun e => absurd (World.ownsRow.lt hv rb e.symm).1 (by omega)
  have hbB : w2.heap[B]? = w0.heap[B]? := (hgrow.block B (by simp; omega) hBv).trans (Below.heap_alloc w0.drew _ B (by show B < w0.heap.size; omega))
  have hbr : w2.heap[rb]? = w0.heap[rb]? := (hgrow.block rb (by simp; omega) hrv).trans (Below.heap_alloc w0.drew _ rb (by show rb < w0.heap.size; omega))
  have cB : w2.cell? ⟨B, 0, none⟩ = some (.pointer (some ⟨rb, k, none⟩)) := (World.cell?_of_block (a := ⟨B, 0, none⟩) hbB).trans hB
  have cr : w2.cell? ⟨rb, k, none⟩ = some v := (World.cell?_of_block (a := ⟨rb, k, none⟩) hbr).trans hc
  have fr : w2.frozen? ⟨rb, k, none⟩ = false := (World.frozen?_of_block (a := ⟨rb, k, none⟩) hbr).trans hf
  refine hK.out _ _ cB (fun hHeld => ?_)
  clear hK K
  simp only [Act.put, List.setIfInBounds_toArray, List.set_cons_zero, List.set_cons_succ]
  refine wpAnyH_ready (rs := [7]) (by kernel_rfl) (by simp) ?_
  refine AllReadyH.cons (o := { dst := some 10, op := _, type := _, pos := _, after := _, guard := _ }) rfl (fun K hK => ?_) AllReadyH.nil
  go_simp
  refine hK.out _ _ cB (fun hHeld => ?_)
  clear hK K
  simp only [List.setIfInBounds_toArray, List.set_cons_zero, List.set_cons_succ]
  refine wpAnyH_ready (rs := [8]) (by kernel_rfl) (by simp) ?_
  refine AllReadyH.cons (o := { dst := none, op := _, type := _, pos := _, after := _, guard := _ }) rfl (fun K hK => ?_) AllReadyH.nil
  go_simp
  refine hK.out _ _ ((World.cell?_setCell_other _ _ _ _ (fun e => hBr (congrArg Addr.block e).symm)).trans cB) (fun hHeld => ?_)
  refine wpAnyH_done (by kernel_rfl) ?_ _
  exact hend gg cap w2 hown ⟨hgrow.os, hgrow.tape, hgrow.output, hgrow.size, hgrow.block⟩ hat
variable (hq : ∀ c (a : Act) d v w, Q (.panic c) (a.put d v) w → Q (.panic c) a w)
include hq
set_option maxRecDepth 100000 in
theorem ac_region (id : Nat) : (Code.region id (acO Try.f43) true).wp Try.prog Q { tmps := #[.int .i64 i, .pointer (some ⟨B, 0, none⟩), undef, undef, undef, undef, undef, undef, undef, undef, undef], defers := [] } w0 := by
  have hBd : w0.drew.cell? ⟨B, 0, none⟩ = some (.pointer (some ⟨rb, k, none⟩)) := hB
  refine wp_region_held_drew (S := fun u => u.cell? ⟨B, 0, none⟩ = some (.pointer (some ⟨rb, k, none⟩))) (by kernel_rfl) hB (fun hHeld => ?_)
  refine wpAnyH_take (i := 0) (oi := { dst := some 3, op := _, type := _, pos := _, after := _, guard := _ }) (v := ?v_0) rfl (by kernel_rfl) (by kernel_rfl) (by kernel_rfl) (fun c a w h => hq c a _ _ w h) (Or.inl ⟨by rfl, ?hy_0⟩) hHeld ?_
  case hy_0 => (intro w' hSw; (try dsimp only at hSw); go_simp; try with_reducible rfl)
  simp only [Act.put, List.setIfInBounds_toArray, List.set_cons_zero, List.set_cons_succ]
  refine wpAnyH_take (i := 1) (oi := { dst := some 4, op := _, type := _, pos := _, after := _, guard := _ }) (v := ?v_1) rfl (by kernel_rfl) (by kernel_rfl) (by kernel_rfl) (fun c a w h => hq c a _ _ w h) (Or.inl ⟨by rfl, ?hy_1⟩) hHeld ?_
  case hy_1 => (intro w' hSw; (try dsimp only at hSw); go_simp; try with_reducible rfl)
  simp only [Act.put, List.setIfInBounds_toArray, List.set_cons_zero, List.set_cons_succ]
  refine wpAnyH_take (i := 2) (oi := { dst := some 5, op := _, type := _, pos := _, after := _, guard := _ }) (v := ?v_2) rfl (by kernel_rfl) (by kernel_rfl) (by kernel_rfl) (fun c a w h => hq c a _ _ w h) (Or.inl ⟨by rfl, ?hy_2⟩) hHeld ?_
  case hy_2 => (intro w' hSw; (try dsimp only at hSw); go_simp; try with_reducible rfl)
  simp only [Act.put, List.setIfInBounds_toArray, List.set_cons_zero, List.set_cons_succ]
  refine wpAnyH_take (i := 4) (oi := { dst := some 7, op := _, type := _, pos := _, after := _, guard := _ }) (v := ?v_4) rfl (by kernel_rfl) (by kernel_rfl) (by kernel_rfl) (fun c a w h => hq c a _ _ w h) (Or.inl ⟨by rfl, ?hy_4⟩) hHeld ?_
  case hy_4 => (intro w' hSw; (try dsimp only at hSw); go_simp; try with_reducible rfl)
  simp only [Act.put, List.setIfInBounds_toArray, List.set_cons_zero, List.set_cons_succ]
  refine wpAnyH_ready (rs := [3, 5]) (by kernel_rfl) (by simp) ?_
  refine AllReadyH.cons (o := { dst := some 6, op := _, type := _, pos := _, after := _, guard := _ }) rfl (fun K hK => ?_) (AllReadyH.cons (o := { dst := some 8, op := _, type := _, pos := _, after := _, guard := _ }) rfl (fun K hK => ?_) AllReadyH.nil)
  · go_simp
    refine hK.out _ _ hBd (fun hHeld => ?_)
    clear hK K
    refine wpAnyH_ready (rs := [5]) (by kernel_rfl) (by simp) ?_
    refine AllReadyH.cons (o := { dst := some 8, op := _, type := _, pos := _, after := _, guard := _ }) rfl (fun K hK => ?_) AllReadyH.nil
    go_simp
    refine hK.out _ _ ?_ (fun hHeld => ?_)
    · exact cell_al hBd _
    exact ac_tail Q i B rb k T v xs w0 hB hBr hBT hc hf hrT hT hv hl hend
  · go_simp
    refine hK.out _ _ ?_ (fun hHeld => ?_)
    · exact cell_al hBd _
    have hcd2 : (w0.alloc (.cells #[.int .i64 i] 3)).cell? ⟨rb, k, none⟩ = some v := cell_al hc _
    clear hK K
    refine wpAnyH_ready (rs := [3]) (by kernel_rfl) (by simp) ?_
    refine AllReadyH.cons (o := { dst := some 6, op := _, type := _, pos := _, after := _, guard := _ }) rfl (fun K hK => ?_) AllReadyH.nil
    go_simp
    refine hK.out _ _ (cell_al hBd _) (fun hHeld => ?_)
    exact ac_tail Q i B rb k T v xs w0 hB hBr hBT hc hf hrT hT hv hl hend
end
theorem adc_any (i : Int) (B rb k T : Nat) (v : Value) (xs : List Int) (u : World) (hB : u.heap[B]? = some (adB rb k)) (hBr : B ≠ rb) (hBT : B < T) (hc : u.cell? ⟨rb, k, none⟩ = some v) (hf : u.frozen? ⟨rb, k, none⟩ = false)
    (hrT : rb < T) (hT : T ≤ u.heap.size) (hv : IntsAt T v xs u) (hl : xs.length ≤ 1000) : Calls Try.prog 43 #[.int .i64 i, .pointer (some ⟨B, 0, none⟩)] u fun e w' => e = .returned (.tuple #[]) ∧ ∃ gg cap w2, w2.ownsRow T 3 1 (.slice (some ⟨gg, 0, none⟩) (xs.length + 1) cap) (xs.length + 1) (xs.map (Value.int .i64) ++ [.int .i64 i]) ∧ (u.alloc (.cells #[.int .i64 i] 3)).grownBy w2 v.ownBlock ∧ (v.ownBlock = some gg ∨ gg = u.heap.size + 1) ∧ w' = w2.setCell ⟨rb, k, none⟩ (.slice (some ⟨gg, 0, none⟩) (xs.length + 1) cap) := by
  have hB0 : u.cell? ⟨B, 0, none⟩ = some (.pointer (some ⟨rb, k, none⟩)) := by rw [cell_of_row u B 0 _ _ _ hB]; rfl
  go_enter Try.func43, Try.ntmps43
  go_wp2_with fail
  refine ac_region _ i B rb k T v xs u hB0 hBr hBT hc hf hrT hT hv hl (fun gg cap w2 h1 h2 h3 => ?_) (fun _ a d _ _ h => by cases d <;> exact h) _
  go_wp2_with fail
  go_end0
  exact ⟨rfl, gg, cap, w2, h1, h2, h3, rfl⟩
/-- What stays where an adder has run: every block but that of the result and those of its lists. -/
structure Kx (rb : Nat) (a b c : Value) (w w' : World) : Prop where
  os : w'.os = w.os
  tape : w'.tape = w.tape
  output : w'.output = w.output
  size : w.heap.size ≤ w'.heap.size
  block : ∀ k, k < w.heap.size → k ≠ rb → a.ownBlock ≠ some k → b.ownBlock ≠ some k → c.ownBlock ≠ some k → w'.heap[k]? = w.heap[k]?
/-- What stays below T but for the block of the result. -/
structure Kp (T rb : Nat) (w w' : World) : Prop where
  os : w'.os = w.os
  tape : w'.tape = w.tape
  output : w'.output = w.output
  size : w.heap.size ≤ w'.heap.size
  block : ∀ k, k < T → k ≠ rb → w'.heap[k]? = w.heap[k]?
theorem Kp.refl (T rb : Nat) (w : World) : Kp T rb w w := ⟨rfl, rfl, rfl, Nat.le_refl _, fun _ _ _ => rfl⟩
theorem Kp.trans {T rb : Nat} {w w' w'' : World} (h : Kp T rb w w') (h' : Kp T rb w' w'') : Kp T rb w w'' := ⟨h'.os.trans h.os, h'.tape.trans h.tape, h'.output.trans h.output, Nat.le_trans h.size h'.size, fun k h1 h2 => (h'.block k h1 h2).trans (h.block k h1 h2)⟩
theorem Kp.of_below {T rb : Nat} {w w' : World} (h : Below T w w') : Kp T rb w w' := ⟨h.os, h.tape, h.output, h.size, fun k h1 _ => h.block k h1⟩
theorem Kp.below {T rb : Nat} {w w' : World} (h : Kp T rb w w') (hT : rb < T) : Below rb w w' := ⟨h.os, h.tape, h.output, h.size, fun k h1 => h.block k (by omega) (by omega)⟩
theorem Kp.set {T rb : Nat} {w w' : World} (h : Kp T rb w w') (k : Nat) (v : Value) : Kp T rb w (w'.setCell ⟨rb, k, none⟩ v) := ⟨h.os, h.tape, h.output, by simp; exact h.size, fun j h1 h2 => (Below.heap_setCell _ _ _ _ h2).trans (h.block j h1 h2)⟩
theorem Kp.grown {T rb : Nat} {w w' w'' : World} {row : Option Nat} (h : Kp T rb w w') (hg : w'.grownBy w'' row) (hT : T ≤ w'.heap.size) (hr : ∀ k, row = some k → T ≤ k) : Kp T rb w w'' := ⟨hg.os.trans h.os, hg.tape.trans h.tape, hg.output.trans h.output, Nat.le_trans h.size hg.size, fun j h1 h2 => (hg.block j (by omega) (fun e => by have := hr j e.symm; omega)).trans (h.block j h1 h2)⟩
theorem Kx.kp {T rb : Nat} {a b c : Value} {xs ys zs : List Int} {w w' : World} (h : Kx rb a b c w w') (h3 : R3 T a b c xs ys zs w) (hT : T ≤ w.heap.size) : Kp T rb w w' :=
  ⟨h.os, h.tape, h.output, h.size, fun k h1 h2 => h.block k (by omega) h2 (fun e => absurd (World.ownsRow.lt h3.fa k e).1 (by omega)) (fun e => absurd (World.ownsRow.lt h3.fb k e).1 (by omega)) (fun e => absurd (World.ownsRow.lt h3.fc k e).1 (by omega))⟩
theorem Kp.cell {T rb b k : Nat} {w w' : World} {v : Value} (h : Kp T rb w w') (hb : b < T) (hr : b ≠ rb) (hc : w.cell? ⟨b, k, none⟩ = some v) : w'.cell? ⟨b, k, none⟩ = some v := (World.cell?_of_block (a := ⟨b, k, none⟩) (h.block b hb hr)).trans hc
theorem Kp.row {T rb b t : Nat} {cs : Array Value} {w w' : World} (h : Kp T rb w w') (hb : b < T) (hr : b ≠ rb) (hc : w.heap[b]? = some (.cells cs t (0, 0))) : w'.heap[b]? = some (.cells cs t (0, 0)) := (h.block b hb hr).trans hc
theorem Adders.kp {H T rb gm : Nat} {w w' : World} (h : Adders H T rb gm w) (hk : Kp T rb w w') (hr : rb < H) : Adders H T rb gm w' := h.keep fun k h1 h2 => hk.block k h2 (by omega)
theorem ad_stepa {wr w2 : World} {t rb T g cap : Nat} {p0 p1 p2 p3 a b c : Value} {xs ys zs : List Int} {k : Int} {o : Obj} (hT : rb < T) (hz : T ≤ wr.heap.size)
    (HR : wr.heap[rb]? = some (.cells #[p0, p1, p2, p3, a, b, c] t (0, 0))) (h : R3 T a b c xs ys zs wr)
    (hown : w2.ownsRow T 3 1 (.slice (some ⟨g, 0, none⟩) (xs.length + 1) cap) (xs.length + 1) (xs.map (Value.int .i64) ++ [.int .i64 k])) (hgrow : (wr.alloc o).grownBy w2 a.ownBlock) (hat : a.ownBlock = some g ∨ g = wr.heap.size + 1) :
    ∃ a', (w2.setCell ⟨rb, 4, none⟩ (.slice (some ⟨g, 0, none⟩) (xs.length + 1) cap)).heap[rb]? = some (.cells #[p0, p1, p2, p3, a', b, c] t (0, 0)) ∧ R3 T a' b c (xs ++ [k]) ys zs (w2.setCell ⟨rb, 4, none⟩ (.slice (some ⟨g, 0, none⟩) (xs.length + 1) cap)) ∧ Kx rb a b c wr (w2.setCell ⟨rb, 4, none⟩ (.slice (some ⟨g, 0, none⟩) (xs.length + 1) cap)) := by
  have hne : some rb ≠ a.ownBlock := fun e => absurd (World.ownsRow.lt h.fa rb e.symm).1 (by omega)
  have hr : w2.heap[rb]? = some (.cells #[p0, p1, p2, p3, a, b, c] t (0, 0)) := (hgrow.block rb (by simp; omega) hne).trans (row_al HR o)
  have hg : T ≤ g := (World.ownsRow.lt hown g rfl).1
  have hN : IntsAt T (.slice (some ⟨g, 0, none⟩) (xs.length + 1) cap) (xs ++ [k]) w2 := by unfold IntsAt; rw [List.length_append, List.map_append]; exact hown
  have hgb : g ≠ rb := by omega
  have hs : wr.heap.size ≤ w2.heap.size := by have := hgrow.size; simp at this; omega
  refine ⟨_, heap_setCell_same _ rb 4 _ _ _ hr, ⟨?_, ?_, ?_, ?_, ?_, ?_⟩, ⟨hgrow.os, hgrow.tape, hgrow.output, by simp; exact hs, fun j h1 h2 ha hb hc => (Below.heap_setCell _ _ _ _ h2).trans ((hgrow.block j (by simp; omega) (fun e => ha e.symm)).trans (Below.heap_alloc _ _ _ h1))⟩⟩
  · exact setc_ints hN (by simp [Value.ownBlock]; omega) _
  · exact setc_ints (oth_kept h.fb h.ab hgrow) (by intro e; have := (World.ownsRow.lt h.fb rb e).1; omega) _
  · exact setc_ints (oth_kept h.fc h.ac hgrow) (by intro e; have := (World.ownsRow.lt h.fc rb e).1; omega) _
  · exact oth_apart h.fb h.ab hat
  · exact oth_apart h.fc h.ac hat
  · exact h.bc
theorem ad_stepb {wr w2 : World} {t rb T g cap : Nat} {p0 p1 p2 p3 a b c : Value} {xs ys zs : List Int} {k : Int} {o : Obj} (hT : rb < T) (hz : T ≤ wr.heap.size)
    (HR : wr.heap[rb]? = some (.cells #[p0, p1, p2, p3, a, b, c] t (0, 0))) (h : R3 T a b c xs ys zs wr)
    (hown : w2.ownsRow T 3 1 (.slice (some ⟨g, 0, none⟩) (ys.length + 1) cap) (ys.length + 1) (ys.map (Value.int .i64) ++ [.int .i64 k])) (hgrow : (wr.alloc o).grownBy w2 b.ownBlock) (hat : b.ownBlock = some g ∨ g = wr.heap.size + 1) :
    ∃ a', (w2.setCell ⟨rb, 5, none⟩ (.slice (some ⟨g, 0, none⟩) (ys.length + 1) cap)).heap[rb]? = some (.cells #[p0, p1, p2, p3, a, a', c] t (0, 0)) ∧ R3 T a a' c xs (ys ++ [k]) zs (w2.setCell ⟨rb, 5, none⟩ (.slice (some ⟨g, 0, none⟩) (ys.length + 1) cap)) ∧ Kx rb a b c wr (w2.setCell ⟨rb, 5, none⟩ (.slice (some ⟨g, 0, none⟩) (ys.length + 1) cap)) := by
  have hne : some rb ≠ b.ownBlock := fun e => absurd (World.ownsRow.lt h.fb rb e.symm).1 (by omega)
  have hr : w2.heap[rb]? = some (.cells #[p0, p1, p2, p3, a, b, c] t (0, 0)) := (hgrow.block rb (by simp; omega) hne).trans (row_al HR o)
  have hg : T ≤ g := (World.ownsRow.lt hown g rfl).1
  have hN : IntsAt T (.slice (some ⟨g, 0, none⟩) (ys.length + 1) cap) (ys ++ [k]) w2 := by unfold IntsAt; rw [List.length_append, List.map_append]; exact hown
  have hgb : g ≠ rb := by omega
  have hs : wr.heap.size ≤ w2.heap.size := by have := hgrow.size; simp at this; omega
  refine ⟨_, heap_setCell_same _ rb 5 _ _ _ hr, ⟨?_, ?_, ?_, ?_, ?_, ?_⟩, ⟨hgrow.os, hgrow.tape, hgrow.output, by simp; exact hs, fun j h1 h2 ha hb hc => (Below.heap_setCell _ _ _ _ h2).trans ((hgrow.block j (by simp; omega) (fun e => hb e.symm)).trans (Below.heap_alloc _ _ _ h1))⟩⟩
  · exact setc_ints (oth_kept h.fa (apart_symm h.ab) hgrow) (by intro e; have := (World.ownsRow.lt h.fa rb e).1; omega) _
  · exact setc_ints hN (by simp [Value.ownBlock]; omega) _
  · exact setc_ints (oth_kept h.fc h.bc hgrow) (by intro e; have := (World.ownsRow.lt h.fc rb e).1; omega) _
  · exact apart_symm (oth_apart h.fa (apart_symm h.ab) hat)
  · exact h.ac
  · exact oth_apart h.fc h.bc hat
theorem ad_stepc {wr w2 : World} {t rb T g cap : Nat} {p0 p1 p2 p3 a b c : Value} {xs ys zs : List Int} {k : Int} {o : Obj} (hT : rb < T) (hz : T ≤ wr.heap.size)
    (HR : wr.heap[rb]? = some (.cells #[p0, p1, p2, p3, a, b, c] t (0, 0))) (h : R3 T a b c xs ys zs wr)
    (hown : w2.ownsRow T 3 1 (.slice (some ⟨g, 0, none⟩) (zs.length + 1) cap) (zs.length + 1) (zs.map (Value.int .i64) ++ [.int .i64 k])) (hgrow : (wr.alloc o).grownBy w2 c.ownBlock) (hat : c.ownBlock = some g ∨ g = wr.heap.size + 1) :
    ∃ a', (w2.setCell ⟨rb, 6, none⟩ (.slice (some ⟨g, 0, none⟩) (zs.length + 1) cap)).heap[rb]? = some (.cells #[p0, p1, p2, p3, a, b, a'] t (0, 0)) ∧ R3 T a b a' xs ys (zs ++ [k]) (w2.setCell ⟨rb, 6, none⟩ (.slice (some ⟨g, 0, none⟩) (zs.length + 1) cap)) ∧ Kx rb a b c wr (w2.setCell ⟨rb, 6, none⟩ (.slice (some ⟨g, 0, none⟩) (zs.length + 1) cap)) := by
  have hne : some rb ≠ c.ownBlock := fun e => absurd (World.ownsRow.lt h.fc rb e.symm).1 (by omega)
  have hr : w2.heap[rb]? = some (.cells #[p0, p1, p2, p3, a, b, c] t (0, 0)) := (hgrow.block rb (by simp; omega) hne).trans (row_al HR o)
  have hg : T ≤ g := (World.ownsRow.lt hown g rfl).1
  have hN : IntsAt T (.slice (some ⟨g, 0, none⟩) (zs.length + 1) cap) (zs ++ [k]) w2 := by unfold IntsAt; rw [List.length_append, List.map_append]; exact hown
  have hgb : g ≠ rb := by omega
  have hs : wr.heap.size ≤ w2.heap.size := by have := hgrow.size; simp at this; omega
  refine ⟨_, heap_setCell_same _ rb 6 _ _ _ hr, ⟨?_, ?_, ?_, ?_, ?_, ?_⟩, ⟨hgrow.os, hgrow.tape, hgrow.output, by simp; exact hs, fun j h1 h2 ha hb hc => (Below.heap_setCell _ _ _ _ h2).trans ((hgrow.block j (by simp; omega) (fun e => hc e.symm)).trans (Below.heap_alloc _ _ _ h1))⟩⟩
  · exact setc_ints (oth_kept h.fa (apart_symm h.ac) hgrow) (by intro e; have := (World.ownsRow.lt h.fa rb e).1; omega) _
  · exact setc_ints (oth_kept h.fb (apart_symm h.bc) hgrow) (by intro e; have := (World.ownsRow.lt h.fb rb e).1; omega) _
  · exact setc_ints hN (by simp [Value.ownBlock]; omega) _
  · exact h.ab
  · exact apart_symm (oth_apart h.fa (apart_symm h.ac) hat)
  · exact apart_symm (oth_apart h.fb (apart_symm h.bc) hat)
/-- What addTo leaves. -/
def AtRes (T rb t : Nat) (p0 p1 p2 p3 a b c : Value) (xs ys zs : List Int) (u : World) (e : Ending) (w' : World) : Prop :=
  e = .returned (.tuple #[]) ∧ ∃ a' b' c', w'.heap[rb]? = some (.cells #[p0, p1, p2, p3, a', b', c'] t (0, 0)) ∧ R3 T a' b' c' xs ys zs w' ∧ Kx rb a b c u w'
section
variable {H T rb gm t : Nat} {p0 p1 p2 p3 a b c : Value} {xs ys zs : List Int} {u : World} (hA : Adders H T rb gm u) (hH : rb < H) (hT : T ≤ u.heap.size) (HR : u.heap[rb]? = some (.cells #[p0, p1, p2, p3, a, b, c] t (0, 0))) (h : R3 T a b c xs ys zs u) (hl : xs.length ≤ 1000 ∧ ys.length ≤ 1000 ∧ zs.length ≤ 1000)
include hA hH hT HR h hl
set_option maxRecDepth 100000 in
theorem at_2 (i : Int) : Calls Try.prog 32 #[.map (some gm), .int .i64 2, .int .i64 i] u (AtRes T rb t p0 p1 p2 p3 a b c (xs ++ [i]) ys zs u) := by
  obtain ⟨b1, b2, b3, D, hown, hD, r2, r3, r1, hg, g1, g2, g3⟩ := hA
  have kk : keyOf Try.prog 3 (.int .i64 2) = some (kAd 2) := keyOf_int_mk Try.underlying3 (by decide)
  obtain ⟨ha, hh⟩ := hD.a2 rfl
  go_enter Try.func32, Try.ntmps32
  go_wp2_with (at_lookup; refine wpList_lookup_own_ok _ rfl _ _ 64 rfl 3 79 lawAd Try.underlying64 adElem (zeroAd _) (.lit (.int .i64 (-1))) [] adElem_nil gm 3 D rfl hown _ _ rfl kk ?_; intro v ps hv; rw [ha] at hv; obtain rfl := adElem_inv hv; rw [hh])
  refine (adc_any i b2 rb 4 T a xs u r2 (by omega) (by omega) (by rw [cell_of_row u rb 4 _ _ _ HR]; rfl) (by simp [World.frozen?, HR]) (by omega) hT h.fa hl.1).mono ?_
  rintro e w' ⟨rfl, gg, cap, w2, q1, q2, q3, rfl⟩
  obtain ⟨a', s1, s2, s3⟩ := ad_stepa (by omega) hT HR h q1 q2 q3
  go_wp2_with fail
  go_end0
  exact ⟨rfl, a', b, c, s1, s2, s3⟩
set_option maxRecDepth 100000 in
theorem at_3 (i : Int) : Calls Try.prog 32 #[.map (some gm), .int .i64 3, .int .i64 i] u (AtRes T rb t p0 p1 p2 p3 a b c xs (ys ++ [i]) zs u) := by
  obtain ⟨b1, b2, b3, D, hown, hD, r2, r3, r1, hg, g1, g2, g3⟩ := hA
  have kk : keyOf Try.prog 3 (.int .i64 3) = some (kAd 3) := keyOf_int_mk Try.underlying3 (by decide)
  obtain ⟨ha, hh⟩ := hD.a3 rfl
  go_enter Try.func32, Try.ntmps32
  go_wp2_with (at_lookup; refine wpList_lookup_own_ok _ rfl _ _ 64 rfl 3 79 lawAd Try.underlying64 adElem (zeroAd _) (.lit (.int .i64 (-1))) [] adElem_nil gm 3 D rfl hown _ _ rfl kk ?_; intro v ps hv; rw [ha] at hv; obtain rfl := adElem_inv hv; rw [hh])
  refine (adc_any i b3 rb 5 T b ys u r3 (by omega) (by omega) (by rw [cell_of_row u rb 5 _ _ _ HR]; rfl) (by simp [World.frozen?, HR]) (by omega) hT h.fb hl.2.1).mono ?_
  rintro e w' ⟨rfl, gg, cap, w2, q1, q2, q3, rfl⟩
  obtain ⟨a', s1, s2, s3⟩ := ad_stepb (by omega) hT HR h q1 q2 q3
  go_wp2_with fail
  go_end0
  exact ⟨rfl, a, a', c, s1, s2, s3⟩
set_option maxRecDepth 100000 in
theorem at_1 (i : Int) : Calls Try.prog 32 #[.map (some gm), .int .i64 1, .int .i64 i] u (AtRes T rb t p0 p1 p2 p3 a b c xs ys (zs ++ [i]) u) := by
  obtain ⟨b1, b2, b3, D, hown, hD, r2, r3, r1, hg, g1, g2, g3⟩ := hA
  have kk : keyOf Try.prog 3 (.int .i64 1) = some (kAd 1) := keyOf_int_mk Try.underlying3 (by decide)
  obtain ⟨ha, hh⟩ := hD.a1 rfl
  go_enter Try.func32, Try.ntmps32
  go_wp2_with (at_lookup; refine wpList_lookup_own_ok _ rfl _ _ 64 rfl 3 79 lawAd Try.underlying64 adElem (zeroAd _) (.lit (.int .i64 (-1))) [] adElem_nil gm 3 D rfl hown _ _ rfl kk ?_; intro v ps hv; rw [ha] at hv; obtain rfl := adElem_inv hv; rw [hh])
  refine (adc_any i b1 rb 6 T c zs u r1 (by omega) (by omega) (by rw [cell_of_row u rb 6 _ _ _ HR]; rfl) (by simp [World.frozen?, HR]) (by omega) hT h.fc hl.2.2).mono ?_
  rintro e w' ⟨rfl, gg, cap, w2, q1, q2, q3, rfl⟩
  obtain ⟨a', s1, s2, s3⟩ := ad_stepc (by omega) hT HR h q1 q2 q3
  go_wp2_with fail
  go_end0
  exact ⟨rfl, a, b, a', s1, s2, s3⟩
end
end Go.Proofs.Ytnofmlkjagdklaa
