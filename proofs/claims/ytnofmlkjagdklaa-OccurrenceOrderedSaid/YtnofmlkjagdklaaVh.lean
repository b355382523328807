/- The reference's Displace: a region with four floating makers (three []int{} and a struct), by a relation that every step keeps. -/
import Derived.Test.YtnofmlkjagdklaaVc
import Derived.OrdersHeld
import Derived.Deep.RegionHeld3
namespace Go.Proofs.Ytnofmlkjagdklaa
open Go.RowKit

theorem row7_set {u : World} {pb t : Nat} {a0 a1 a2 a3 a4 a5 a6 : Value} (h : u.heap[pb]? = some (.cells #[a0, a1, a2, a3, a4, a5, a6] t (0, 0))) (v0 v1 v2 v3 v4 v5 v6 : Value) : (((((((u.setCell ⟨pb, 0, none⟩ v0).setCell ⟨pb, 1, none⟩ v1).setCell ⟨pb, 2, none⟩ v2).setCell ⟨pb, 3, none⟩ v3).setCell ⟨pb, 4, none⟩ v4).setCell ⟨pb, 5, none⟩ v5).setCell ⟨pb, 6, none⟩ v6).heap[pb]? = some (.cells #[v0, v1, v2, v3, v4, v5, v6] t (0, 0)) := by
  have r0 : (u.setCell ⟨pb, 0, none⟩ v0).heap[pb]? = some (.cells #[v0, a1, a2, a3, a4, a5, a6] t (0, 0)) := heap_setCell_same _ pb 0 _ _ v0 h
  have r1 : ((u.setCell ⟨pb, 0, none⟩ v0).setCell ⟨pb, 1, none⟩ v1).heap[pb]? = some (.cells #[v0, v1, a2, a3, a4, a5, a6] t (0, 0)) := heap_setCell_same _ pb 1 _ _ v1 r0
  have r2 : (((u.setCell ⟨pb, 0, none⟩ v0).setCell ⟨pb, 1, none⟩ v1).setCell ⟨pb, 2, none⟩ v2).heap[pb]? = some (.cells #[v0, v1, v2, a3, a4, a5, a6] t (0, 0)) := heap_setCell_same _ pb 2 _ _ v2 r1
  have r3 : ((((u.setCell ⟨pb, 0, none⟩ v0).setCell ⟨pb, 1, none⟩ v1).setCell ⟨pb, 2, none⟩ v2).setCell ⟨pb, 3, none⟩ v3).heap[pb]? = some (.cells #[v0, v1, v2, v3, a4, a5, a6] t (0, 0)) := heap_setCell_same _ pb 3 _ _ v3 r2
  have r4 : (((((u.setCell ⟨pb, 0, none⟩ v0).setCell ⟨pb, 1, none⟩ v1).setCell ⟨pb, 2, none⟩ v2).setCell ⟨pb, 3, none⟩ v3).setCell ⟨pb, 4, none⟩ v4).heap[pb]? = some (.cells #[v0, v1, v2, v3, v4, a5, a6] t (0, 0)) := heap_setCell_same _ pb 4 _ _ v4 r3
  have r5 : ((((((u.setCell ⟨pb, 0, none⟩ v0).setCell ⟨pb, 1, none⟩ v1).setCell ⟨pb, 2, none⟩ v2).setCell ⟨pb, 3, none⟩ v3).setCell ⟨pb, 4, none⟩ v4).setCell ⟨pb, 5, none⟩ v5).heap[pb]? = some (.cells #[v0, v1, v2, v3, v4, v5, a6] t (0, 0)) := heap_setCell_same _ pb 5 _ _ v5 r4
  have r6 : (((((((u.setCell ⟨pb, 0, none⟩ v0).setCell ⟨pb, 1, none⟩ v1).setCell ⟨pb, 2, none⟩ v2).setCell ⟨pb, 3, none⟩ v3).setCell ⟨pb, 4, none⟩ v4).setCell ⟨pb, 5, none⟩ v5).setCell ⟨pb, 6, none⟩ v6).heap[pb]? = some (.cells #[v0, v1, v2, v3, v4, v5, v6] t (0, 0)) := heap_setCell_same _ pb 6 _ _ v6 r5
  exact r6
theorem ints_sets {B pb : Nat} {v : Value} {xs : List Int} {u : World} (h : IntsAt B v xs u) (hn : v.ownBlock ≠ some pb) (v0 v1 v2 v3 v4 v5 v6 : Value) : IntsAt B v xs (((((((u.setCell ⟨pb, 0, none⟩ v0).setCell ⟨pb, 1, none⟩ v1).setCell ⟨pb, 2, none⟩ v2).setCell ⟨pb, 3, none⟩ v3).setCell ⟨pb, 4, none⟩ v4).setCell ⟨pb, 5, none⟩ v5).setCell ⟨pb, 6, none⟩ v6) :=
  setc_ints (setc_ints (setc_ints (setc_ints (setc_ints (setc_ints (setc_ints h hn _) hn _) hn _) hn _) hn _) hn _) hn _
theorem R3.rot {B : Nat} {a b c : Value} {xs ys zs : List Int} {w : World} (h : R3 B a b c xs ys zs w) : R3 B b c a ys zs xs w := ⟨h.fb, h.fc, h.fa, h.bc, apart_symm h.ab, apart_symm h.ac⟩
theorem IntsAt.made0 {B : Nat} (w : World) (hB : B ≤ w.heap.size) : IntsAt B (.slice (some ⟨w.heap.size, 0, none⟩) 0 0) [] (w.alloc (.cells #[] 3)) :=
  ⟨by simp, .inr ⟨w.heap.size, 0, #[], rfl, hB, heap_alloc_new w _, Nat.le_refl _, by unfold maxLen; omega, rfl, rfl⟩⟩
theorem new_apart {B : Nat} {u : Value} {xs : List Int} {w : World} (h : IntsAt B u xs w) (n cap : Nat) : ∀ k, (Value.slice (some ⟨w.heap.size, 0, none⟩) n cap).ownBlock = some k → u.ownBlock ≠ some k := by
  intro k e e'
  have : w.heap.size = k := by simpa [Value.ownBlock] using e
  have := (World.ownsRow.lt h _ e').2
  omega
theorem R3.new {B : Nat} {a b c : Value} {xs ys zs : List Int} {w : World} (h : R3 B a b c xs ys zs w) (hB : B ≤ w.heap.size) : R3 B (.slice (some ⟨w.heap.size, 0, none⟩) 0 0) b c [] ys zs (w.alloc (.cells #[] 3)) :=
  ⟨IntsAt.made0 w hB, h.fb.al _, h.fc.al _, new_apart h.fb 0 0, new_apart h.fc 0 0, h.bc⟩
theorem R3.al {B : Nat} {a b c : Value} {xs ys zs : List Int} {w : World} (h : R3 B a b c xs ys zs w) (o : Obj) : R3 B a b c xs ys zs (w.alloc o) := h.on ((Below.refl _ _).alloc (Nat.le_refl _) o)
theorem oth_grown {B : Nat} {v u : Value} {xs : List Int} {w w' : World} (hu : IntsAt B u xs w) (hap : ∀ k, v.ownBlock = some k → u.ownBlock ≠ some k) (hg : w.grownBy w' v.ownBlock) : IntsAt B u xs w' :=
  World.ownsRow.kept hu hg (by
    cases e : u.ownBlock with
    | none => exact .inl rfl
    | some k => exact .inr fun e' => hap k e'.symm e)
theorem oth_ap {B : Nat} {v v' u : Value} {xs : List Int} {w : World} (hu : IntsAt B u xs w) (hap : ∀ k, v.ownBlock = some k → u.ownBlock ≠ some k) (ho : v'.ownBlock = v.ownBlock ∨ v'.ownBlock = some w.heap.size) : ∀ k, v'.ownBlock = some k → u.ownBlock ≠ some k := by
  intro k e e'
  rcases ho with h | h
  · exact hap k (h ▸ e) e'
  · have : w.heap.size = k := by rw [h] at e; injection e
    have := (World.ownsRow.lt hu _ e').2
    omega
theorem R3.app {B : Nat} {a a' b c : Value} {xs xs' ys zs : List Int} {w w' : World} (h : R3 B a b c xs ys zs w) (hi : IntsAt B a' xs' w') (hg : w.grownBy w' a.ownBlock) (ho : a'.ownBlock = a.ownBlock ∨ a'.ownBlock = some w.heap.size) : R3 B a' b c xs' ys zs w' :=
  ⟨hi, oth_grown h.fb h.ab hg, oth_grown h.fc h.ac hg, oth_ap h.fb h.ab ho, oth_ap h.fc h.ac ho, h.bc⟩
theorem kb_grown {B kb : Nat} {a : Value} {xs : List Int} {w w' : World} {cs : Array Value} (h : IntsAt B a xs w) (hk : w.heap[kb]? = some (.cells cs 41 (0, 0))) (hg : w.grownBy w' a.ownBlock) : w'.heap[kb]? = some (.cells cs 41 (0, 0)) := by
  rw [hg.block kb (Array.getElem?_eq_some_iff.1 hk).1 (fun e => ?_)]; exact hk
  rcases h.2 with ⟨rfl, _⟩ | ⟨g, cap, cur, rfl, _, hg', _⟩
  · cases e
  · obtain rfl : kb = g := by simpa [Value.ownBlock] using e
    rw [hk] at hg'
    injection hg' with hg'
    injection hg' with _ h2
    exact absurd h2 (by decide)
theorem bl_grown {B : Nat} {a : Value} {xs : List Int} {w0 w w' : World} (hb : Below B w0 w) (h : IntsAt B a xs w) (hs : B ≤ w.heap.size) (hg : w.grownBy w' a.ownBlock) : Below B w0 w' :=
  hb.grown hg hs fun k e => (World.ownsRow.lt h k e).1
noncomputable def floO (f : Func) : Array Oper := match f.body with | some (.seq _ (.seq (.region _ ops _) _)) => ops | _ => #[]
set_option maxRecDepth 100000
theorem flo_app (ty : TypeId) (B : Nat) (v xv : Value) (L : List Int) (w : World) (hv : IntsAt B v [] w) (hx : SlI xv L w) (hB : B ≤ w.heap.size) (hl : L.length ≤ 1000) :
    ∃ v' w', (Builtin.append_ #[33, 33] ty #[v, xv]).run Try.prog w = .ok v' w' ∧ IntsAt B v' L w' ∧ w.grownBy w' v.ownBlock ∧ (v'.ownBlock = v.ownBlock ∨ v'.ownBlock = some w.heap.size) := by
  obtain ⟨i0, hi0, hz0, hz1, hz2⟩ := info_parts infoInt
  rcases hx with ⟨rfl, rfl⟩ | ⟨g, cap, rfl, hI⟩
  · exact ⟨v, w, run_append_owned_none w B 33 ty 3 i0 1 Try.underlying33 hi0 v 0 [] hv, hv, grown_of_below (Below.refl _ _) _, .inl rfl⟩
  · obtain ⟨v', w', hr, h2, h3, _, h5⟩ := run_append_own_at (P := Try.prog) w B 33 ty 3 i0 (.int .i64 0) 1 8 Try.underlying33 hi0 hz0 hz1 hz2 rfl (by decide) v 0 [] hv ⟨g, 0, none⟩ L.length cap (L.map (Value.int .i64)) (by rw [List.length_map, Nat.mul_one]) (fun j u hj => by
      rw [show (⟨g, 0, none⟩ : Addr).add j = ⟨g, j, none⟩ by unfold Addr.add; split <;> simp_all]
      have hjl : j < L.length := by have := (List.getElem?_eq_some_iff.1 hj).1; rwa [List.length_map] at this
      rw [List.getElem?_map, List.getElem?_eq_getElem hjl] at hj
      rw [hI.cell j hjl, List.getD_eq_getElem?_getD, List.getElem?_eq_getElem hjl]
      exact hj) (fun u hu => by obtain ⟨n, _, rfl⟩ := List.mem_map.1 hu; rfl) (by unfold maxLen; omega) (by omega) hB
    refine ⟨v', w', hr, ?_, h3, h5⟩
    unfold IntsAt
    rwa [Nat.zero_add, List.nil_append] at h2
abbrev floA (y0 y1 p2 p3 p4 x5 x7 q8 vC x10 x11 q12 vO x14 x15 q16 vI x18 x19 : Value) : Act := { tmps := #[y0, y1, p2, p3, p4, x5, undef, x7, q8, vC, x10, x11, q12, vO, x14, x15, q16, vI, x18, x19, undef, undef, undef, undef, undef, undef, undef, undef, undef, undef, undef, undef, undef, undef, undef, undef, undef, undef, undef, undef, undef, undef, undef, undef, undef, undef, undef], defers := [] }
variable (Q : Exit → Act → World → Prop) (y0 y1 p2 p3 p4 x5 x7 q8 vC x10 x11 q12 vO x14 x15 q16 vI x18 x19 : Value)
theorem flo_arm0 (K : Act → World → Prop) (w : World) (h : K (floA y0 y1 p2 p3 p4 x5 (.slice (some ⟨w.heap.size, 0, none⟩) 0 0) q8 vC x10 x11 q12 vO x14 x15 q16 vI x18 x19) (w.alloc (.cells #[] 3))) : wpOp Try.prog (floO Try.f17) Q 0 K (floA y0 y1 p2 p3 p4 x5 x7 q8 vC x10 x11 q12 vO x14 x15 q16 vI x18 x19) w := by
  refine wpOp_step (o := { dst := some 7, op := _, type := _, pos := _, after := _, guard := _ }) rfl (fun K' hK => ?_)
  go_simp
  exact hK _ _ h
theorem flo_arm4 (K : Act → World → Prop) (w : World) (h : K (floA y0 y1 p2 p3 p4 x5 x7 q8 vC x10 (.slice (some ⟨w.heap.size, 0, none⟩) 0 0) q12 vO x14 x15 q16 vI x18 x19) (w.alloc (.cells #[] 3))) : wpOp Try.prog (floO Try.f17) Q 4 K (floA y0 y1 p2 p3 p4 x5 x7 q8 vC x10 x11 q12 vO x14 x15 q16 vI x18 x19) w := by
  refine wpOp_step (o := { dst := some 11, op := _, type := _, pos := _, after := _, guard := _ }) rfl (fun K' hK => ?_)
  go_simp
  exact hK _ _ h
theorem flo_arm8 (K : Act → World → Prop) (w : World) (h : K (floA y0 y1 p2 p3 p4 x5 x7 q8 vC x10 x11 q12 vO x14 (.slice (some ⟨w.heap.size, 0, none⟩) 0 0) q16 vI x18 x19) (w.alloc (.cells #[] 3))) : wpOp Try.prog (floO Try.f17) Q 8 K (floA y0 y1 p2 p3 p4 x5 x7 q8 vC x10 x11 q12 vO x14 x15 q16 vI x18 x19) w := by
  refine wpOp_step (o := { dst := some 15, op := _, type := _, pos := _, after := _, guard := _ }) rfl (fun K' hK => ?_)
  go_simp
  exact hK _ _ h
theorem flo_arm3 (K : Act → World → Prop) (w : World) (B : Nat) (L : List Int) (hv : IntsAt B x7 [] w) (hx : SlI vC L w) (hB : B ≤ w.heap.size) (hl : L.length ≤ 1000)
    (h : ∀ v' w', IntsAt B v' L w' → w.grownBy w' x7.ownBlock → (v'.ownBlock = x7.ownBlock ∨ v'.ownBlock = some w.heap.size) → K (floA y0 y1 p2 p3 p4 x5 x7 q8 vC v' x11 q12 vO x14 x15 q16 vI x18 x19) w') : wpOp Try.prog (floO Try.f17) Q 3 K (floA y0 y1 p2 p3 p4 x5 x7 q8 vC x10 x11 q12 vO x14 x15 q16 vI x18 x19) w := by
  obtain ⟨v', w', hr, h1, h2, h3⟩ := flo_app 33 B x7 vC L w hv hx hB hl
  refine wpOp_step (o := { dst := some 10, op := _, type := _, pos := _, after := _, guard := _ }) rfl (fun K' hK => ?_)
  rw [if_pos (by rfl)]
  unfold Oper.wp execOp
  simp only [resolve, invoke, builtin, Sem.run_bind, Sem.run_pure, Result.andThen_ok, List.map_toArray, List.map_cons, List.map_nil]
  rw [show Sem.run Try.prog (Builtin.append_ #[33, 33] 33 #[(floA y0 y1 p2 p3 p4 x5 x7 q8 vC x10 x11 q12 vO x14 x15 q16 vI x18 x19).eval (Operand.tmp 7), (floA y0 y1 p2 p3 p4 x5 x7 q8 vC x10 x11 q12 vO x14 x15 q16 vI x18 x19).eval (Operand.tmp 9)]) w = Result.ok v' w' from hr]
  exact hK _ _ (h v' w' h1 h2 h3)
theorem flo_arm7 (K : Act → World → Prop) (w : World) (B : Nat) (L : List Int) (hv : IntsAt B x11 [] w) (hx : SlI vO L w) (hB : B ≤ w.heap.size) (hl : L.length ≤ 1000)
    (h : ∀ v' w', IntsAt B v' L w' → w.grownBy w' x11.ownBlock → (v'.ownBlock = x11.ownBlock ∨ v'.ownBlock = some w.heap.size) → K (floA y0 y1 p2 p3 p4 x5 x7 q8 vC x10 x11 q12 vO v' x15 q16 vI x18 x19) w') : wpOp Try.prog (floO Try.f17) Q 7 K (floA y0 y1 p2 p3 p4 x5 x7 q8 vC x10 x11 q12 vO x14 x15 q16 vI x18 x19) w := by
  obtain ⟨v', w', hr, h1, h2, h3⟩ := flo_app 33 B x11 vO L w hv hx hB hl
  refine wpOp_step (o := { dst := some 14, op := _, type := _, pos := _, after := _, guard := _ }) rfl (fun K' hK => ?_)
  rw [if_pos (by rfl)]
  unfold Oper.wp execOp
  simp only [resolve, invoke, builtin, Sem.run_bind, Sem.run_pure, Result.andThen_ok, List.map_toArray, List.map_cons, List.map_nil]
  rw [show Sem.run Try.prog (Builtin.append_ #[33, 33] 33 #[(floA y0 y1 p2 p3 p4 x5 x7 q8 vC x10 x11 q12 vO x14 x15 q16 vI x18 x19).eval (Operand.tmp 11), (floA y0 y1 p2 p3 p4 x5 x7 q8 vC x10 x11 q12 vO x14 x15 q16 vI x18 x19).eval (Operand.tmp 13)]) w = Result.ok v' w' from hr]
  exact hK _ _ (h v' w' h1 h2 h3)
theorem flo_arm11 (K : Act → World → Prop) (w : World) (B : Nat) (L : List Int) (hv : IntsAt B x15 [] w) (hx : SlI vI L w) (hB : B ≤ w.heap.size) (hl : L.length ≤ 1000)
    (h : ∀ v' w', IntsAt B v' L w' → w.grownBy w' x15.ownBlock → (v'.ownBlock = x15.ownBlock ∨ v'.ownBlock = some w.heap.size) → K (floA y0 y1 p2 p3 p4 x5 x7 q8 vC x10 x11 q12 vO x14 x15 q16 vI v' x19) w') : wpOp Try.prog (floO Try.f17) Q 11 K (floA y0 y1 p2 p3 p4 x5 x7 q8 vC x10 x11 q12 vO x14 x15 q16 vI x18 x19) w := by
  obtain ⟨v', w', hr, h1, h2, h3⟩ := flo_app 33 B x15 vI L w hv hx hB hl
  refine wpOp_step (o := { dst := some 18, op := _, type := _, pos := _, after := _, guard := _ }) rfl (fun K' hK => ?_)
  rw [if_pos (by rfl)]
  unfold Oper.wp execOp
  simp only [resolve, invoke, builtin, Sem.run_bind, Sem.run_pure, Result.andThen_ok, List.map_toArray, List.map_cons, List.map_nil]
  rw [show Sem.run Try.prog (Builtin.append_ #[33, 33] 33 #[(floA y0 y1 p2 p3 p4 x5 x7 q8 vC x10 x11 q12 vO x14 x15 q16 vI x18 x19).eval (Operand.tmp 15), (floA y0 y1 p2 p3 p4 x5 x7 q8 vC x10 x11 q12 vO x14 x15 q16 vI x18 x19).eval (Operand.tmp 17)]) w = Result.ok v' w' from hr]
  exact hK _ _ (h v' w' h1 h2 h3)
theorem flo_arm12 (K : Act → World → Prop) (w : World) (h : K (floA y0 y1 p2 p3 p4 x5 x7 q8 vC x10 x11 q12 vO x14 x15 q16 vI x18 (.agg #[.int .i64 0, .int .i64 0, .int .i64 0, .string ⟨#[]⟩, x10, x14, x18])) w)
    {B1 B2 B3 : Nat} {l1 l2 l3 : List Int} (f1 : IntsAt B1 x10 l1 w) (f2 : IntsAt B2 x14 l2 w) (f3 : IntsAt B3 x18 l3 w) : wpOp Try.prog (floO Try.f17) Q 12 K (floA y0 y1 p2 p3 p4 x5 x7 q8 vC x10 x11 q12 vO x14 x15 q16 vI x18 x19) w := by
  obtain ⟨A1, c1, rfl⟩ := ints_form f1
  obtain ⟨A2, c2, rfl⟩ := ints_form f2
  obtain ⟨A3, c3, rfl⟩ := ints_form f3
  refine wpOp_step (o := { dst := some 19, op := _, type := _, pos := _, after := _, guard := _ }) rfl (fun K' hK => ?_)
  go_simp
  exact hK _ _ h
theorem flo_arm13 (K : Act → World → Prop) (w : World) (h : K (floA y0 y1 p2 p3 p4 (.pointer (some ⟨w.heap.size, 0, none⟩)) x7 q8 vC x10 x11 q12 vO x14 x15 q16 vI x18 x19) (w.alloc (.cells #[.int .i64 0, .int .i64 0, .int .i64 0, .string ⟨#[]⟩, .slice none 0 0, .slice none 0 0, .slice none 0 0] 41))) : wpOp Try.prog (floO Try.f17) Q 13 K (floA y0 y1 p2 p3 p4 x5 x7 q8 vC x10 x11 q12 vO x14 x15 q16 vI x18 x19) w := by
  refine wpOp_step (o := { dst := some 5, op := _, type := _, pos := _, after := _, guard := _ }) rfl (fun K' hK => ?_)
  go_simp
  exact hK _ _ h
theorem flo_arm14 (K : Act → World → Prop) (w : World) (kb : Nat) (a b c : Value) (h5 : x5 = .pointer (some ⟨kb, 0, none⟩)) (h19 : x19 = .agg #[.int .i64 0, .int .i64 0, .int .i64 0, .string ⟨#[]⟩, a, b, c]) (hk : w.heap[kb]? = some (.cells #[.int .i64 0, .int .i64 0, .int .i64 0, .string ⟨#[]⟩, .slice none 0 0, .slice none 0 0, .slice none 0 0] 41))
    {B1 B2 B3 : Nat} {l1 l2 l3 : List Int} (f1 : IntsAt B1 a l1 w) (f2 : IntsAt B2 b l2 w) (f3 : IntsAt B3 c l3 w)
    (h : K (floA y0 y1 p2 p3 p4 x5 x7 q8 vC x10 x11 q12 vO x14 x15 q16 vI x18 x19) (((((((w.setCell ⟨kb, 0, none⟩ (.int .i64 0)).setCell ⟨kb, 1, none⟩ (.int .i64 0)).setCell ⟨kb, 2, none⟩ (.int .i64 0)).setCell ⟨kb, 3, none⟩ (.string ⟨#[]⟩)).setCell ⟨kb, 4, none⟩ a).setCell ⟨kb, 5, none⟩ b).setCell ⟨kb, 6, none⟩ c)) : wpOp Try.prog (floO Try.f17) Q 14 K (floA y0 y1 p2 p3 p4 x5 x7 q8 vC x10 x11 q12 vO x14 x15 q16 vI x18 x19) w := by
  obtain ⟨A1, c1, rfl⟩ := ints_form f1
  obtain ⟨A2, c2, rfl⟩ := ints_form f2
  obtain ⟨A3, c3, rfl⟩ := ints_form f3
  subst h5 h19
  have hc : ∀ j v, (#[Value.int .i64 0, .int .i64 0, .int .i64 0, .string ⟨#[]⟩, .slice none 0 0, .slice none 0 0, .slice none 0 0] : Array Value)[j]? = some v → w.cell? ⟨kb, j, none⟩ = some v := fun j v h => by simp [World.cell?, hk, h]
  have hf : ∀ j, w.frozen? ⟨kb, j, none⟩ = false := fun j => by simp [World.frozen?, hk]
  have hc0 := hc 0 _ rfl
  have hc1 := hc 1 _ rfl
  have hc2 := hc 2 _ rfl
  have hc3 := hc 3 _ rfl
  have hc4 := hc 4 _ rfl
  have hc5 := hc 5 _ rfl
  have hc6 := hc 6 _ rfl
  have hf0 := hf 0
  have hf1 := hf 1
  have hf2 := hf 2
  have hf3 := hf 3
  have hf4 := hf 4
  have hf5 := hf 5
  have hf6 := hf 6
  refine wpOp_step (o := { dst := none, op := _, type := _, pos := _, after := _, guard := _ }) rfl (fun K' hK => ?_)
  go_simp
  exact hK _ _ h
def floL (n1 n2 n3 : Nat) (b : Bool) (p : Nat) : Array Bool := #[decide (1 ≤ n1), true, true, decide (2 ≤ n1), decide (1 ≤ n2), true, true, decide (2 ≤ n2), decide (1 ≤ n3), true, true, decide (2 ≤ n3), decide (1 ≤ p), b, decide (2 ≤ p)]
def floK (n1 n2 n3 p : Nat) : Bool := decide (n1 ≤ 2 ∧ n2 ≤ 2 ∧ n3 ≤ 2 ∧ p ≤ 2) && (decide (n2 ≤ 1) || decide (n1 = 2)) && (decide (n3 ≤ 1) || decide (n2 = 2)) && (decide (p = 0) || decide (n3 = 2))
def floR (n1 n2 n3 : Nat) (b : Bool) (p : Nat) : List Nat := (if n1 = 0 then [0] else if n1 = 1 then [3] else []) ++ (if n2 = 0 then [4] else if n2 = 1 ∧ n1 = 2 then [7] else []) ++ (if n3 = 0 then [8] else if n3 = 1 ∧ n2 = 2 then [11] else []) ++ (if n3 = 2 ∧ p = 0 then [12] else []) ++ (if b = false then [13] else []) ++ (if b = true ∧ p = 1 then [14] else [])
def floT : List Nat := [0, 1, 2]
theorem flo_all : (floT.all fun n1 => floT.all fun n2 => floT.all fun n3 => floT.all fun p => [false, true].all fun b => !floK n1 n2 n3 p || (p == 2 && !b) || (Region.ready .any (floO Try.f17) (floL n1 n2 n3 b p) == floR n1 n2 n3 b p)) = true := by kernel_rfl
/-- A drawn region by a relation between what has come up, the state and the world: whatever comes up next keeps it. -/
theorem any_keeps {P : Program} {ops : Array Oper} {Q : Exit → Act → World → Prop} {md : Region.Mode} {S : World → Prop} (I : Nat → Array Bool → Act → World → Prop) (he : ∀ n L a w, I n L a w → Region.ready md ops L = [] → Q .normal a w) (hz : ∀ L a w, I 0 L a w → Region.ready md ops L = [])
    (hs : ∀ n L a w, I (n + 1) L a w → ∀ i ∈ Region.ready md ops L, wpOp P ops Q i (fun a' w' => S w' ∧ I n (L.setIfInBounds i true) a' w') a w) : ∀ n L a w, I n L a w → wpAnyH P md ops Q S n L a w
  | 0, L, a, w, h => ⟨hz L a w h, he 0 L a w h (hz L a w h)⟩
  | n + 1, L, a, w, h => ⟨he _ L a w h, fun i hi => wpOp_mono (fun a' w' h' => ⟨h'.1, any_keeps I he hz hs n _ a' w' h'.2⟩) (hs n L a w h i hi)⟩
theorem flo_eq {n1 n2 n3 p : Nat} {b : Bool} (h : floK n1 n2 n3 p = true) (hp : p = 2 → b = true) : Region.ready .any (floO Try.f17) (floL n1 n2 n3 b p) = floR n1 n2 n3 b p := by
  have hh := h
  simp only [floK, Bool.and_eq_true, decide_eq_true_eq] at hh
  obtain ⟨⟨⟨⟨l1, l2, l3, l4⟩, -⟩, -⟩, -⟩ := hh
  have m : ∀ n, n ≤ 2 → n ∈ floT := fun n hn => by unfold floT; match n, hn with | 0, _ => simp | 1, _ => simp | 2, _ => simp
  have := List.all_eq_true.1 (List.all_eq_true.1 (List.all_eq_true.1 (List.all_eq_true.1 (List.all_eq_true.1 flo_all n1 (m _ l1)) n2 (m _ l2)) n3 (m _ l3)) p (m _ l4)) b (by cases b <;> simp)
  rw [h] at this
  have h2 : (p == 2 && !b) = false := by
    by_cases e : p = 2
    · rw [hp e]; simp
    · simp [e]
  rw [h2] at this
  simpa using this
theorem flo_mem {n1 n2 n3 p i : Nat} {b : Bool} (h : i ∈ floR n1 n2 n3 b p) : (i = 0 ∧ n1 = 0) ∨ (i = 3 ∧ n1 = 1) ∨ (i = 4 ∧ n2 = 0) ∨ (i = 7 ∧ n2 = 1 ∧ n1 = 2) ∨ (i = 8 ∧ n3 = 0) ∨ (i = 11 ∧ n3 = 1 ∧ n2 = 2) ∨ (i = 12 ∧ n3 = 2 ∧ p = 0) ∨ (i = 13 ∧ b = false) ∨ (i = 14 ∧ b = true ∧ p = 1) := by
  simp only [floR, List.mem_append] at h
  rcases h with ((((h | h) | h) | h) | h) | h
  all_goals (repeat' split at h) <;> simp_all
theorem flo_nil {n1 n2 n3 p : Nat} {b : Bool} (h : floR n1 n2 n3 b p = []) (ho : floK n1 n2 n3 p = true) : n1 = 2 ∧ n2 = 2 ∧ n3 = 2 ∧ p = 2 ∧ b = true := by
  simp only [floK, Bool.and_eq_true, Bool.or_eq_true, decide_eq_true_eq] at ho
  simp only [floR, List.append_eq_nil_iff] at h
  obtain ⟨⟨⟨⟨⟨h1, h2⟩, h3⟩, h4⟩, h5⟩, h6⟩ := h
  have e1 : n1 = 2 := by (repeat' split at h1) <;> first | omega | (exact absurd h1 (by simp))
  have e2 : n2 = 2 := by (repeat' split at h2) <;> first | omega | (exact absurd h2 (by simp))
  have e3 : n3 = 2 := by (repeat' split at h3) <;> first | omega | (exact absurd h3 (by simp))
  have e4 : p ≠ 0 := by (repeat' split at h4) <;> first | omega | (exact absurd h4 (by simp))
  have e5 : b = true := by cases b <;> simp_all
  have e6 : p ≠ 1 := by subst e5; intro e; simp [e] at h6
  exact ⟨e1, e2, e3, by omega, e5⟩
def floP (n : Nat) (L : List Int) : List Int := if n = 2 then L else []
abbrev floZ : Array Value := #[.int .i64 0, .int .i64 0, .int .i64 0, .string ⟨#[]⟩, .slice none 0 0, .slice none 0 0, .slice none 0 0]
abbrev floV (a b c : Value) : Array Value := #[.int .i64 0, .int .i64 0, .int .i64 0, .string ⟨#[]⟩, a, b, c]
/-- Where the region stands: how far each list is, whether the struct is made, whether it is filled. -/
structure DspI (w0 : World) (H : Nat) (L1 L2 L3 : List Int) (n1 n2 n3 : Nat) (b : Bool) (p : Nat) (x5 x7 x10 x11 x14 x15 x18 x19 u1 u2 u3 : Value) (w : World) : Prop where
  bl : Below H w0 w
  hs : H ≤ w.heap.size
  r3 : R3 H u1 u2 u3 (floP n1 L1) (floP n2 L2) (floP n3 L3) w
  a1 : n1 = 1 → x7 = u1
  a2 : n2 = 1 → x11 = u2
  a3 : n3 = 1 → x15 = u3
  c1 : n1 = 2 → x10 = u1
  c2 : n2 = 2 → x14 = u2
  c3 : n3 = 2 → x18 = u3
  hb : b = true → ∃ kb, x5 = .pointer (some ⟨kb, 0, none⟩) ∧ H ≤ kb ∧ w.heap[kb]? = some (.cells (if p = 2 then floV u1 u2 u3 else floZ) 41 (0, 0))
  hp : 1 ≤ p → x19 = .agg (floV u1 u2 u3)
/-- The region's own relation. -/
def DspS (y0 y1 p2 p3 p4 q8 vC q12 vO q16 vI : Value) (w0 : World) (H : Nat) (L1 L2 L3 : List Int) (m : Nat) (L : Array Bool) (a : Act) (w : World) : Prop :=
  ∃ (n1 n2 n3 : Nat) (b : Bool) (p : Nat) (x5 x7 x10 x11 x14 x15 x18 x19 u1 u2 u3 : Value), floK n1 n2 n3 p = true ∧ (p = 2 → b = true) ∧ m + n1 + n2 + n3 + p + b.toNat = 9 ∧ L = floL n1 n2 n3 b p ∧ a = floA y0 y1 p2 p3 p4 x5 x7 q8 vC x10 x11 q12 vO x14 x15 q16 vI x18 x19 ∧ DspI w0 H L1 L2 L3 n1 n2 n3 b p x5 x7 x10 x11 x14 x15 x18 x19 u1 u2 u3 w
theorem DspI.grow {w0 w w' : World} {H : Nat} {L1 L2 L3 : List Int} {n1 n2 n3 p : Nat} {b : Bool} {x5 x7 x10 x11 x14 x15 x18 x19 u1 u2 u3 u : Value} {xs : List Int} (h : DspI w0 H L1 L2 L3 n1 n2 n3 b p x5 x7 x10 x11 x14 x15 x18 x19 u1 u2 u3 w) (hu : IntsAt H u xs w) (hg : w.grownBy w' u.ownBlock) :
    Below H w0 w' ∧ H ≤ w'.heap.size ∧ (b = true → ∃ kb, x5 = .pointer (some ⟨kb, 0, none⟩) ∧ H ≤ kb ∧ w'.heap[kb]? = some (.cells (if p = 2 then floV u1 u2 u3 else floZ) 41 (0, 0))) :=
  ⟨bl_grown h.bl hu h.hs hg, Nat.le_trans h.hs hg.size, fun e => by
    obtain ⟨kb, e1, e2, e3⟩ := h.hb e
    exact ⟨kb, e1, e2, kb_grown hu e3 hg⟩⟩
theorem DspI.al {w0 w : World} {H : Nat} {L1 L2 L3 : List Int} {n1 n2 n3 p : Nat} {b : Bool} {x5 x7 x10 x11 x14 x15 x18 x19 u1 u2 u3 : Value} (h : DspI w0 H L1 L2 L3 n1 n2 n3 b p x5 x7 x10 x11 x14 x15 x18 x19 u1 u2 u3 w) (o : Obj) :
    Below H w0 (w.alloc o) ∧ H ≤ (w.alloc o).heap.size ∧ (b = true → ∃ kb, x5 = .pointer (some ⟨kb, 0, none⟩) ∧ H ≤ kb ∧ (w.alloc o).heap[kb]? = some (.cells (if p = 2 then floV u1 u2 u3 else floZ) 41 (0, 0))) :=
  h.grow (u := .slice none 0 0) (xs := []) (IntsAt.nil _ _) (grown_of_below ((Below.refl _ _).alloc (Nat.le_refl _) o) _)
set_option maxRecDepth 100000 in
theorem flo_step (Q : Exit → Act → World → Prop) (y0 y1 p2 p3 p4 q8 vC q12 vO q16 vI : Value) (w0 : World) (H : Nat) (L1 L2 L3 : List Int) (hl : L1.length ≤ 1000 ∧ L2.length ≤ 1000 ∧ L3.length ≤ 1000)
    (HC : ∀ u, Below H w0 u → SlI vC L1 u) (HO : ∀ u, Below H w0 u → SlI vO L2 u) (HI : ∀ u, Below H w0 u → SlI vI L3 u) (m : Nat) (L : Array Bool) (a : Act) (w : World)
    (h : DspS y0 y1 p2 p3 p4 q8 vC q12 vO q16 vI w0 H L1 L2 L3 (m + 1) L a w) (i : Nat) (hi : i ∈ Region.ready .any (floO Try.f17) L) :
    wpOp Try.prog (floO Try.f17) Q i (fun a' w' => (Below H w0 w') ∧ DspS y0 y1 p2 p3 p4 q8 vC q12 vO q16 vI w0 H L1 L2 L3 m (L.setIfInBounds i true) a' w') a w := by
  obtain ⟨n1, n2, n3, b, p, x5, x7, x10, x11, x14, x15, x18, x19, u1, u2, u3, ho, hpb, hm, rfl, rfl, V⟩ := h
  rw [flo_eq ho hpb] at hi
  have hoo := ho
  simp only [floK, Bool.and_eq_true, Bool.or_eq_true, decide_eq_true_eq] at hoo
  rcases flo_mem hi with ⟨rfl, rfl⟩ | ⟨rfl, rfl⟩ | ⟨rfl, rfl⟩ | ⟨rfl, rfl, rfl⟩ | ⟨rfl, rfl⟩ | ⟨rfl, rfl, rfl⟩ | ⟨rfl, rfl, rfl⟩ | ⟨rfl, rfl⟩ | ⟨rfl, rfl, rfl⟩
  · obtain ⟨g1, g2, g3⟩ := V.al (.cells #[] 3)
    obtain rfl : p = 0 := by omega
    refine flo_arm0 _ _ _ _ _ _ _ _ _ _ _ _ _ _ _ _ _ _ _ _ _ _ ⟨g1, 1, n2, n3, b, 0, x5, _, x10, x11, x14, x15, x18, x19, _, u2, u3, by (simp [floK] <;> omega), hpb, by omega, by simp [floL], rfl, g1, g2, (V.r3.new V.hs), fun _ => rfl, V.a2, V.a3, fun e => absurd e (by decide), V.c2, V.c3, ?_, fun e => absurd e (by decide)⟩
    simpa using g3
  · obtain rfl := V.a1 rfl
    obtain rfl : p = 0 := by omega
    refine flo_arm3 _ _ _ _ _ _ _ _ _ _ _ _ _ _ _ _ _ _ _ _ _ _ H L1 V.r3.fa (HC _ V.bl) V.hs hl.1 (fun v' w' h1 h2 h3 => ?_)
    obtain ⟨g1, g2, g3⟩ := V.grow V.r3.fa h2
    refine ⟨g1, 2, n2, n3, b, 0, x5, x7, v', x11, x14, x15, x18, x19, v', u2, u3, by (simp [floK] <;> omega), hpb, by omega, by simp [floL], rfl, g1, g2, (V.r3.app h1 h2 h3), fun e => absurd e (by decide), V.a2, V.a3, fun _ => rfl, V.c2, V.c3, ?_, fun e => absurd e (by decide)⟩
    simpa using g3
  · obtain ⟨g1, g2, g3⟩ := V.al (.cells #[] 3)
    obtain rfl : p = 0 := by omega
    refine flo_arm4 _ _ _ _ _ _ _ _ _ _ _ _ _ _ _ _ _ _ _ _ _ _ ⟨g1, n1, 1, n3, b, 0, x5, x7, x10, _, x14, x15, x18, x19, u1, _, u3, by (simp [floK] <;> omega), hpb, by omega, by simp [floL], rfl, g1, g2, ((V.r3.rot.new V.hs).rot.rot), V.a1, fun _ => rfl, V.a3, V.c1, fun e => absurd e (by decide), V.c3, ?_, fun e => absurd e (by decide)⟩
    simpa using g3
  · obtain rfl := V.a2 rfl
    obtain rfl : p = 0 := by omega
    refine flo_arm7 _ _ _ _ _ _ _ _ _ _ _ _ _ _ _ _ _ _ _ _ _ _ H L2 V.r3.fb (HO _ V.bl) V.hs hl.2.1 (fun v' w' h1 h2 h3 => ?_)
    obtain ⟨g1, g2, g3⟩ := V.grow V.r3.fb h2
    refine ⟨g1, 2, 2, n3, b, 0, x5, x7, x10, x11, v', x15, x18, x19, u1, v', u3, by (simp [floK] <;> omega), hpb, by omega, by simp [floL], rfl, g1, g2, ((V.r3.rot.app h1 h2 h3).rot.rot), V.a1, fun e => absurd e (by decide), V.a3, V.c1, fun _ => rfl, V.c3, ?_, fun e => absurd e (by decide)⟩
    simpa using g3
  · obtain ⟨g1, g2, g3⟩ := V.al (.cells #[] 3)
    obtain rfl : p = 0 := by omega
    refine flo_arm8 _ _ _ _ _ _ _ _ _ _ _ _ _ _ _ _ _ _ _ _ _ _ ⟨g1, n1, n2, 1, b, 0, x5, x7, x10, x11, x14, _, x18, x19, u1, u2, _, by (simp [floK] <;> omega), hpb, by omega, by simp [floL], rfl, g1, g2, ((V.r3.rot.rot.new V.hs).rot), V.a1, V.a2, fun _ => rfl, V.c1, V.c2, fun e => absurd e (by decide), ?_, fun e => absurd e (by decide)⟩
    simpa using g3
  · obtain rfl := V.a3 rfl
    obtain rfl : p = 0 := by omega
    refine flo_arm11 _ _ _ _ _ _ _ _ _ _ _ _ _ _ _ _ _ _ _ _ _ _ H L3 V.r3.fc (HI _ V.bl) V.hs hl.2.2 (fun v' w' h1 h2 h3 => ?_)
    obtain ⟨g1, g2, g3⟩ := V.grow V.r3.fc h2
    refine ⟨g1, n1, 2, 2, b, 0, x5, x7, x10, x11, x14, x15, v', x19, u1, u2, v', by (simp [floK] <;> omega), hpb, by omega, by simp [floL], rfl, g1, g2, ((V.r3.rot.rot.app h1 h2 h3).rot), V.a1, V.a2, fun e => absurd e (by decide), V.c1, V.c2, fun _ => rfl, ?_, fun e => absurd e (by decide)⟩
    simpa using g3
  · obtain ⟨rfl, rfl⟩ : n1 = 2 ∧ n2 = 2 := by omega
    obtain rfl := V.c1 rfl
    obtain rfl := V.c2 rfl
    obtain rfl := V.c3 rfl
    refine flo_arm12 _ _ _ _ _ _ _ _ _ _ _ _ _ _ _ _ _ _ _ _ _ _ ⟨V.bl, 2, 2, 2, b, 1, x5, x7, x10, x11, x14, x15, x18, _, _, _, _, by (simp [floK] <;> omega), fun e => absurd e (by decide), by omega, by simp [floL], rfl, V.bl, V.hs, V.r3, V.a1, V.a2, V.a3, V.c1, V.c2, V.c3, ?_, fun _ => rfl⟩ V.r3.fa V.r3.fb V.r3.fc
    simpa using V.hb
  · obtain ⟨g1, g2, -⟩ := V.al (.cells floZ 41)
    have hp2 : p ≠ 2 := fun e => absurd (hpb e) (by decide)
    refine flo_arm13 _ _ _ _ _ _ _ _ _ _ _ _ _ _ _ _ _ _ _ _ _ _ ⟨g1, n1, n2, n3, true, p, _, x7, x10, x11, x14, x15, x18, x19, u1, u2, u3, by (simp [floK] <;> omega), fun _ => rfl, by simp at hm ⊢; omega, by simp [floL], rfl, g1, g2, V.r3.al _, V.a1, V.a2, V.a3, V.c1, V.c2, V.c3, fun _ => ⟨w.heap.size, rfl, V.hs, ?_⟩, V.hp⟩
    rw [if_neg hp2]; exact heap_alloc_new w _
  · obtain ⟨kb, e1, e2, e3⟩ := V.hb rfl
    rw [if_neg (by decide)] at e3
    obtain rfl : n3 = 2 := by omega
    obtain ⟨rfl, rfl⟩ : n1 = 2 ∧ n2 = 2 := by omega
    have nk : ∀ {u : Value} {xs : List Int}, IntsAt H u xs w → u.ownBlock ≠ some kb := fun {u xs} hu e => by
      rcases hu.2 with ⟨rfl, _⟩ | ⟨g, cap, cur, rfl, _, hg', _⟩
      · cases e
      · obtain rfl : g = kb := by simpa [Value.ownBlock] using e
        rw [e3] at hg'
        injection hg' with hg'
        injection hg' with _ h2
        exact absurd h2 (by decide)
    refine flo_arm14 _ _ _ _ _ _ _ _ _ _ _ _ _ _ _ _ _ _ _ _ _ _ kb u1 u2 u3 e1 (V.hp (by decide)) e3 V.r3.fa V.r3.fb V.r3.fc ?_
    have g1 := ((((((V.bl.setCell (p := ⟨kb, 0, none⟩) e2 (.int .i64 0)).setCell (p := ⟨kb, 1, none⟩) e2 (.int .i64 0)).setCell (p := ⟨kb, 2, none⟩) e2 (.int .i64 0)).setCell (p := ⟨kb, 3, none⟩) e2 (.string ⟨#[]⟩)).setCell (p := ⟨kb, 4, none⟩) e2 u1).setCell (p := ⟨kb, 5, none⟩) e2 u2).setCell (p := ⟨kb, 6, none⟩) e2 u3
    refine ⟨g1, 2, 2, 2, true, 2, x5, x7, x10, x11, x14, x15, x18, x19, u1, u2, u3, by (simp [floK] <;> omega), fun _ => rfl, by simp at hm ⊢; omega, by simp [floL], rfl, g1, ?_, ⟨ints_sets V.r3.fa (nk V.r3.fa) _ _ _ _ _ _ _, ints_sets V.r3.fb (nk V.r3.fb) _ _ _ _ _ _ _, ints_sets V.r3.fc (nk V.r3.fc) _ _ _ _ _ _ _, V.r3.ab, V.r3.ac, V.r3.bc⟩, V.a1, V.a2, V.a3, V.c1, V.c2, V.c3, fun _ => ⟨kb, e1, e2, ?_⟩, fun _ => V.hp (by decide)⟩
    · simp; exact V.hs
    · rw [if_pos rfl]; exact row7_set e3 _ _ _ _ _ _ _
set_option maxRecDepth 100000 in
theorem disp_region (Q : Exit → Act → World → Prop) (id : Nat) (y0 y1 p2 p4 vC vO vI : Value) (w : World) (pb : Nat) (L1 L2 L3 : List Int) (hl : L1.length ≤ 1000 ∧ L2.length ≤ 1000 ∧ L3.length ≤ 1000) (hpb : pb < w.heap.size)
    (k4 : w.cell? ⟨pb, 4, none⟩ = some vC) (k5 : w.cell? ⟨pb, 5, none⟩ = some vO) (k6 : w.cell? ⟨pb, 6, none⟩ = some vI)
    (HC : ∀ u, Below w.heap.size w u → SlI vC L1 u) (HO : ∀ u, Below w.heap.size w u → SlI vO L2 u) (HI : ∀ u, Below w.heap.size w u → SlI vI L3 u)
    (hq : ∀ c (a : Act) d v w, Q (.panic c) (a.put d v) w → Q (.panic c) a w)
    (hend : ∀ x5 x7 x11 x15 x19 u1 u2 u3 kb w', Below w.heap.size w w' → R3 w.heap.size u1 u2 u3 L1 L2 L3 w' → x5 = .pointer (some ⟨kb, 0, none⟩) → w.heap.size ≤ kb → w'.heap[kb]? = some (.cells (floV u1 u2 u3) 41 (0, 0)) → Q .normal (floA y0 y1 p2 (.pointer (some ⟨pb, 0, none⟩)) p4 x5 x7 (.pointer (some ⟨pb, 4, none⟩)) vC u1 x11 (.pointer (some ⟨pb, 5, none⟩)) vO u2 x15 (.pointer (some ⟨pb, 6, none⟩)) vI u3 x19) w') :
    (Code.region id (floO Try.f17) true).wp Try.prog Q { tmps := #[y0, y1, p2, .pointer (some ⟨pb, 0, none⟩), p4, undef, undef, undef, undef, undef, undef, undef, undef, undef, undef, undef, undef, undef, undef, undef, undef, undef, undef, undef, undef, undef, undef, undef, undef, undef, undef, undef, undef, undef, undef, undef, undef, undef, undef, undef, undef, undef, undef, undef, undef, undef, undef], defers := [] } w := by
  refine wp_region_held_drew (S := fun u => Below w.heap.size w u) (by kernel_rfl) ((Below.refl _ _).drew) (fun hHeld => ?_)
  refine wpAnyH_take (i := 1) (oi := { dst := some 8, op := _, type := _, pos := _, after := _, guard := _ }) (v := ?v_1) rfl (by kernel_rfl) (by kernel_rfl) (by kernel_rfl) (fun c a w h => hq c a _ _ w h) (Or.inl ⟨by rfl, ?hy_1⟩) hHeld ?_
  case hy_1 => (intro w' hSw; (try dsimp only at hSw); go_simp; try with_reducible rfl)
  simp only [Act.put, List.setIfInBounds_toArray, List.set_cons_zero, List.set_cons_succ]
  refine wpAnyH_take (i := 2) (oi := { dst := some 9, op := _, type := _, pos := _, after := _, guard := _ }) (v := ?v_2) rfl (by kernel_rfl) (by kernel_rfl) (by kernel_rfl) (fun c a w h => hq c a _ _ w h) (Or.inl ⟨by rfl, ?hy_2⟩) hHeld ?_
  case hy_2 => (intro w' hSw; (try dsimp only at hSw); have q := (hSw.cell (p := ⟨pb, 4, none⟩) hpb).trans k4; go_simp; try with_reducible rfl)
  simp only [Act.put, List.setIfInBounds_toArray, List.set_cons_zero, List.set_cons_succ]
  refine wpAnyH_take (i := 5) (oi := { dst := some 12, op := _, type := _, pos := _, after := _, guard := _ }) (v := ?v_5) rfl (by kernel_rfl) (by kernel_rfl) (by kernel_rfl) (fun c a w h => hq c a _ _ w h) (Or.inl ⟨by rfl, ?hy_5⟩) hHeld ?_
  case hy_5 => (intro w' hSw; (try dsimp only at hSw); go_simp; try with_reducible rfl)
  simp only [Act.put, List.setIfInBounds_toArray, List.set_cons_zero, List.set_cons_succ]
  refine wpAnyH_take (i := 6) (oi := { dst := some 13, op := _, type := _, pos := _, after := _, guard := _ }) (v := ?v_6) rfl (by kernel_rfl) (by kernel_rfl) (by kernel_rfl) (fun c a w h => hq c a _ _ w h) (Or.inl ⟨by rfl, ?hy_6⟩) hHeld ?_
  case hy_6 => (intro w' hSw; (try dsimp only at hSw); have q := (hSw.cell (p := ⟨pb, 5, none⟩) hpb).trans k5; go_simp; try with_reducible rfl)
  simp only [Act.put, List.setIfInBounds_toArray, List.set_cons_zero, List.set_cons_succ]
  refine wpAnyH_take (i := 9) (oi := { dst := some 16, op := _, type := _, pos := _, after := _, guard := _ }) (v := ?v_9) rfl (by kernel_rfl) (by kernel_rfl) (by kernel_rfl) (fun c a w h => hq c a _ _ w h) (Or.inl ⟨by rfl, ?hy_9⟩) hHeld ?_
  case hy_9 => (intro w' hSw; (try dsimp only at hSw); go_simp; try with_reducible rfl)
  simp only [Act.put, List.setIfInBounds_toArray, List.set_cons_zero, List.set_cons_succ]
  refine wpAnyH_take (i := 10) (oi := { dst := some 17, op := _, type := _, pos := _, after := _, guard := _ }) (v := ?v_10) rfl (by kernel_rfl) (by kernel_rfl) (by kernel_rfl) (fun c a w h => hq c a _ _ w h) (Or.inl ⟨by rfl, ?hy_10⟩) hHeld ?_
  case hy_10 => (intro w' hSw; (try dsimp only at hSw); have q := (hSw.cell (p := ⟨pb, 6, none⟩) hpb).trans k6; go_simp; try with_reducible rfl)
  simp only [Act.put, List.setIfInBounds_toArray, List.set_cons_zero, List.set_cons_succ]
  refine any_keeps (DspS y0 y1 p2 (.pointer (some ⟨pb, 0, none⟩)) p4 (.pointer (some ⟨pb, 4, none⟩)) vC (.pointer (some ⟨pb, 5, none⟩)) vO (.pointer (some ⟨pb, 6, none⟩)) vI w w.heap.size L1 L2 L3) ?_ ?_ ?_ 9 _ _ _ ?_
  · rintro n L a w' ⟨n1, n2, n3, b, p, x5, x7, x10, x11, x14, x15, x18, x19, u1, u2, u3, ho, hpb, hm, rfl, rfl, V⟩ hr
    rw [flo_eq ho hpb] at hr
    obtain ⟨rfl, rfl, rfl, rfl, rfl⟩ := flo_nil hr ho
    obtain rfl := V.c1 rfl
    obtain rfl := V.c2 rfl
    obtain rfl := V.c3 rfl
    obtain ⟨kb, e1, e2, e3⟩ := V.hb rfl
    exact hend _ _ _ _ _ _ _ _ kb w' V.bl V.r3 e1 e2 e3
  · rintro L a w' ⟨n1, n2, n3, b, p, x5, x7, x10, x11, x14, x15, x18, x19, u1, u2, u3, ho, hpb, hm, rfl, rfl, V⟩
    rw [flo_eq ho hpb]
    simp only [floK, Bool.and_eq_true, Bool.or_eq_true, decide_eq_true_eq] at ho
    have hb1 : b.toNat ≤ 1 := by cases b <;> decide
    obtain ⟨rfl, rfl, rfl, rfl⟩ : n1 = 2 ∧ n2 = 2 ∧ n3 = 2 ∧ p = 2 := by omega
    obtain rfl : b = true := hpb rfl
    rfl
  · intro n L a w' h i hi
    exact flo_step Q _ _ _ _ _ _ _ _ _ _ _ w w.heap.size L1 L2 L3 hl HC HO HI n L a w' h i hi
  · refine ⟨0, 0, 0, false, 0, undef, undef, undef, undef, undef, undef, undef, undef, .slice none 0 0, .slice none 0 0, .slice none 0 0, rfl, fun e => absurd e (by decide), rfl, by kernel_rfl, rfl, (Below.refl _ _).drew, Nat.le_refl _, R3.emp _ _, ?_, ?_, ?_, ?_, ?_, ?_, ?_, ?_⟩ <;> intro e <;> exact absurd e (by decide)
end Go.Proofs.Ytnofmlkjagdklaa
