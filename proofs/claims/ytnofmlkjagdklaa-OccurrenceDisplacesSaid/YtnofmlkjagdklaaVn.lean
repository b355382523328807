/- The region 's := ref.Result{..}' of the law Displaces of stage 21: as the reference's Displace (XVh), in other slots. -/
import Derived.Test.YtnofmlkjagdklaaVh
import Derived.OrdersHeld
import Derived.Deep.RegionHeld3
namespace Go.Proofs.Ytnofmlkjagdklaa
open Go.RowKit

noncomputable def fl4O (f : Func) : Array Oper := match f.body with | some (.seq _ (.seq _ (.seq _ (.seq (.region _ ops _) _)))) => ops | _ => #[]
set_option maxRecDepth 100000
abbrev fl4A (y0 y1 y2 y3 y4 y5 y6 y9 y10 y11 y12 y13 y14 y15 y16 y17 y18 y19 y20 y21 y22 y23 y24 y25 y26 y27 y28 y29 y30 y31 y32 y33 y34 y35 p3 x5 x7 q8 vC x10 x11 q12 vO x14 x15 q16 vI x18 x19 : Value) : Act := { tmps := #[y0, y1, y2, y3, y4, y5, y6, p3, x5, y9, y10, y11, y12, y13, y14, y15, y16, y17, y18, y19, y20, y21, y22, y23, y24, y25, y26, y27, y28, y29, y30, y31, y32, y33, y34, y35, x7, q8, vC, x10, x11, q12, vO, x14, x15, q16, vI, x18, x19, undef, undef, undef, undef, undef, undef, undef, undef, undef, undef, undef, undef, undef, undef, undef, undef, undef, undef, undef, undef, undef, undef, undef, undef, undef, undef, undef, undef, undef, undef, undef, undef, undef, undef, undef, undef, undef, undef, undef, undef, undef, undef, undef, undef, undef, undef, undef, undef, undef, undef, undef, undef, undef, undef, undef, undef, undef, undef, undef, undef, undef, undef, undef, undef, undef, undef, undef, undef, undef, undef, undef, undef, undef, undef, undef, undef, undef, undef, undef, undef, undef, undef, undef, undef, undef, undef, undef, undef, undef, undef, undef, undef, undef, undef, undef, undef, undef, undef, undef, undef, undef, undef, undef, undef, undef, undef, undef, undef, undef, undef, undef, undef, undef, undef, undef, undef, undef, undef, undef, undef, undef, undef, undef, undef, undef], defers := [] }
variable (Q : Exit → Act → World → Prop) (y0 y1 y2 y3 y4 y5 y6 y9 y10 y11 y12 y13 y14 y15 y16 y17 y18 y19 y20 y21 y22 y23 y24 y25 y26 y27 y28 y29 y30 y31 y32 y33 y34 y35 p3 x5 x7 q8 vC x10 x11 q12 vO x14 x15 q16 vI x18 x19 : Value)
theorem fl4_arm0 (K : Act → World → Prop) (w : World) (h : K (fl4A y0 y1 y2 y3 y4 y5 y6 y9 y10 y11 y12 y13 y14 y15 y16 y17 y18 y19 y20 y21 y22 y23 y24 y25 y26 y27 y28 y29 y30 y31 y32 y33 y34 y35 p3 x5 (.slice (some ⟨w.heap.size, 0, none⟩) 0 0) q8 vC x10 x11 q12 vO x14 x15 q16 vI x18 x19) (w.alloc (.cells #[] 3))) : wpOp Try.prog (fl4O Try.f5) Q 0 K (fl4A y0 y1 y2 y3 y4 y5 y6 y9 y10 y11 y12 y13 y14 y15 y16 y17 y18 y19 y20 y21 y22 y23 y24 y25 y26 y27 y28 y29 y30 y31 y32 y33 y34 y35 p3 x5 x7 q8 vC x10 x11 q12 vO x14 x15 q16 vI x18 x19) w := by
  refine wpOp_step (o := { dst := some 36, op := _, type := _, pos := _, after := _, guard := _ }) rfl (fun K' hK => ?_)
  go_simp
  exact hK _ _ h
theorem fl4_arm4 (K : Act → World → Prop) (w : World) (h : K (fl4A y0 y1 y2 y3 y4 y5 y6 y9 y10 y11 y12 y13 y14 y15 y16 y17 y18 y19 y20 y21 y22 y23 y24 y25 y26 y27 y28 y29 y30 y31 y32 y33 y34 y35 p3 x5 x7 q8 vC x10 (.slice (some ⟨w.heap.size, 0, none⟩) 0 0) q12 vO x14 x15 q16 vI x18 x19) (w.alloc (.cells #[] 3))) : wpOp Try.prog (fl4O Try.f5) Q 4 K (fl4A y0 y1 y2 y3 y4 y5 y6 y9 y10 y11 y12 y13 y14 y15 y16 y17 y18 y19 y20 y21 y22 y23 y24 y25 y26 y27 y28 y29 y30 y31 y32 y33 y34 y35 p3 x5 x7 q8 vC x10 x11 q12 vO x14 x15 q16 vI x18 x19) w := by
  refine wpOp_step (o := { dst := some 40, op := _, type := _, pos := _, after := _, guard := _ }) rfl (fun K' hK => ?_)
  go_simp
  exact hK _ _ h
theorem fl4_arm8 (K : Act → World → Prop) (w : World) (h : K (fl4A y0 y1 y2 y3 y4 y5 y6 y9 y10 y11 y12 y13 y14 y15 y16 y17 y18 y19 y20 y21 y22 y23 y24 y25 y26 y27 y28 y29 y30 y31 y32 y33 y34 y35 p3 x5 x7 q8 vC x10 x11 q12 vO x14 (.slice (some ⟨w.heap.size, 0, none⟩) 0 0) q16 vI x18 x19) (w.alloc (.cells #[] 3))) : wpOp Try.prog (fl4O Try.f5) Q 8 K (fl4A y0 y1 y2 y3 y4 y5 y6 y9 y10 y11 y12 y13 y14 y15 y16 y17 y18 y19 y20 y21 y22 y23 y24 y25 y26 y27 y28 y29 y30 y31 y32 y33 y34 y35 p3 x5 x7 q8 vC x10 x11 q12 vO x14 x15 q16 vI x18 x19) w := by
  refine wpOp_step (o := { dst := some 44, op := _, type := _, pos := _, after := _, guard := _ }) rfl (fun K' hK => ?_)
  go_simp
  exact hK _ _ h
theorem fl4_arm3 (K : Act → World → Prop) (w : World) (B : Nat) (L : List Int) (hv : IntsAt B x7 [] w) (hx : SlI vC L w) (hB : B ≤ w.heap.size) (hl : L.length ≤ 1000)
    (h : ∀ v' w', IntsAt B v' L w' → w.grownBy w' x7.ownBlock → (v'.ownBlock = x7.ownBlock ∨ v'.ownBlock = some w.heap.size) → K (fl4A y0 y1 y2 y3 y4 y5 y6 y9 y10 y11 y12 y13 y14 y15 y16 y17 y18 y19 y20 y21 y22 y23 y24 y25 y26 y27 y28 y29 y30 y31 y32 y33 y34 y35 p3 x5 x7 q8 vC v' x11 q12 vO x14 x15 q16 vI x18 x19) w') : wpOp Try.prog (fl4O Try.f5) Q 3 K (fl4A y0 y1 y2 y3 y4 y5 y6 y9 y10 y11 y12 y13 y14 y15 y16 y17 y18 y19 y20 y21 y22 y23 y24 y25 y26 y27 y28 y29 y30 y31 y32 y33 y34 y35 p3 x5 x7 q8 vC x10 x11 q12 vO x14 x15 q16 vI x18 x19) w := by
  obtain ⟨v', w', hr, h1, h2, h3⟩ := flo_app 33 B x7 vC L w hv hx hB hl
  refine wpOp_step (o := { dst := some 39, op := _, type := _, pos := _, after := _, guard := _ }) rfl (fun K' hK => ?_)
  rw [if_pos (by rfl)]
  unfold Oper.wp execOp
  simp only [resolve, invoke, builtin, Sem.run_bind, Sem.run_pure, Result.andThen_ok, List.map_toArray, List.map_cons, List.map_nil]
  rw [show Sem.run Try.prog (Builtin.append_ #[33, 33] 33 #[(fl4A y0 y1 y2 y3 y4 y5 y6 y9 y10 y11 y12 y13 y14 y15 y16 y17 y18 y19 y20 y21 y22 y23 y24 y25 y26 y27 y28 y29 y30 y31 y32 y33 y34 y35 p3 x5 x7 q8 vC x10 x11 q12 vO x14 x15 q16 vI x18 x19).eval (Operand.tmp 36), (fl4A y0 y1 y2 y3 y4 y5 y6 y9 y10 y11 y12 y13 y14 y15 y16 y17 y18 y19 y20 y21 y22 y23 y24 y25 y26 y27 y28 y29 y30 y31 y32 y33 y34 y35 p3 x5 x7 q8 vC x10 x11 q12 vO x14 x15 q16 vI x18 x19).eval (Operand.tmp 38)]) w = Result.ok v' w' from hr]
  exact hK _ _ (h v' w' h1 h2 h3)
theorem fl4_arm7 (K : Act → World → Prop) (w : World) (B : Nat) (L : List Int) (hv : IntsAt B x11 [] w) (hx : SlI vO L w) (hB : B ≤ w.heap.size) (hl : L.length ≤ 1000)
    (h : ∀ v' w', IntsAt B v' L w' → w.grownBy w' x11.ownBlock → (v'.ownBlock = x11.ownBlock ∨ v'.ownBlock = some w.heap.size) → K (fl4A y0 y1 y2 y3 y4 y5 y6 y9 y10 y11 y12 y13 y14 y15 y16 y17 y18 y19 y20 y21 y22 y23 y24 y25 y26 y27 y28 y29 y30 y31 y32 y33 y34 y35 p3 x5 x7 q8 vC x10 x11 q12 vO v' x15 q16 vI x18 x19) w') : wpOp Try.prog (fl4O Try.f5) Q 7 K (fl4A y0 y1 y2 y3 y4 y5 y6 y9 y10 y11 y12 y13 y14 y15 y16 y17 y18 y19 y20 y21 y22 y23 y24 y25 y26 y27 y28 y29 y30 y31 y32 y33 y34 y35 p3 x5 x7 q8 vC x10 x11 q12 vO x14 x15 q16 vI x18 x19) w := by
  obtain ⟨v', w', hr, h1, h2, h3⟩ := flo_app 33 B x11 vO L w hv hx hB hl
  refine wpOp_step (o := { dst := some 43, op := _, type := _, pos := _, after := _, guard := _ }) rfl (fun K' hK => ?_)
  rw [if_pos (by rfl)]
  unfold Oper.wp execOp
  simp only [resolve, invoke, builtin, Sem.run_bind, Sem.run_pure, Result.andThen_ok, List.map_toArray, List.map_cons, List.map_nil]
  rw [show Sem.run Try.prog (Builtin.append_ #[33, 33] 33 #[(fl4A y0 y1 y2 y3 y4 y5 y6 y9 y10 y11 y12 y13 y14 y15 y16 y17 y18 y19 y20 y21 y22 y23 y24 y25 y26 y27 y28 y29 y30 y31 y32 y33 y34 y35 p3 x5 x7 q8 vC x10 x11 q12 vO x14 x15 q16 vI x18 x19).eval (Operand.tmp 40), (fl4A y0 y1 y2 y3 y4 y5 y6 y9 y10 y11 y12 y13 y14 y15 y16 y17 y18 y19 y20 y21 y22 y23 y24 y25 y26 y27 y28 y29 y30 y31 y32 y33 y34 y35 p3 x5 x7 q8 vC x10 x11 q12 vO x14 x15 q16 vI x18 x19).eval (Operand.tmp 42)]) w = Result.ok v' w' from hr]
  exact hK _ _ (h v' w' h1 h2 h3)
theorem fl4_arm11 (K : Act → World → Prop) (w : World) (B : Nat) (L : List Int) (hv : IntsAt B x15 [] w) (hx : SlI vI L w) (hB : B ≤ w.heap.size) (hl : L.length ≤ 1000)
    (h : ∀ v' w', IntsAt B v' L w' → w.grownBy w' x15.ownBlock → (v'.ownBlock = x15.ownBlock ∨ v'.ownBlock = some w.heap.size) → K (fl4A y0 y1 y2 y3 y4 y5 y6 y9 y10 y11 y12 y13 y14 y15 y16 y17 y18 y19 y20 y21 y22 y23 y24 y25 y26 y27 y28 y29 y30 y31 y32 y33 y34 y35 p3 x5 x7 q8 vC x10 x11 q12 vO x14 x15 q16 vI v' x19) w') : wpOp Try.prog (fl4O Try.f5) Q 11 K (fl4A y0 y1 y2 y3 y4 y5 y6 y9 y10 y11 y12 y13 y14 y15 y16 y17 y18 y19 y20 y21 y22 y23 y24 y25 y26 y27 y28 y29 y30 y31 y32 y33 y34 y35 p3 x5 x7 q8 vC x10 x11 q12 vO x14 x15 q16 vI x18 x19) w := by
  obtain ⟨v', w', hr, h1, h2, h3⟩ := flo_app 33 B x15 vI L w hv hx hB hl
  refine wpOp_step (o := { dst := some 47, op := _, type := _, pos := _, after := _, guard := _ }) rfl (fun K' hK => ?_)
  rw [if_pos (by rfl)]
  unfold Oper.wp execOp
  simp only [resolve, invoke, builtin, Sem.run_bind, Sem.run_pure, Result.andThen_ok, List.map_toArray, List.map_cons, List.map_nil]
  rw [show Sem.run Try.prog (Builtin.append_ #[33, 33] 33 #[(fl4A y0 y1 y2 y3 y4 y5 y6 y9 y10 y11 y12 y13 y14 y15 y16 y17 y18 y19 y20 y21 y22 y23 y24 y25 y26 y27 y28 y29 y30 y31 y32 y33 y34 y35 p3 x5 x7 q8 vC x10 x11 q12 vO x14 x15 q16 vI x18 x19).eval (Operand.tmp 44), (fl4A y0 y1 y2 y3 y4 y5 y6 y9 y10 y11 y12 y13 y14 y15 y16 y17 y18 y19 y20 y21 y22 y23 y24 y25 y26 y27 y28 y29 y30 y31 y32 y33 y34 y35 p3 x5 x7 q8 vC x10 x11 q12 vO x14 x15 q16 vI x18 x19).eval (Operand.tmp 46)]) w = Result.ok v' w' from hr]
  exact hK _ _ (h v' w' h1 h2 h3)
theorem fl4_arm12 (K : Act → World → Prop) (w : World) (h : K (fl4A y0 y1 y2 y3 y4 y5 y6 y9 y10 y11 y12 y13 y14 y15 y16 y17 y18 y19 y20 y21 y22 y23 y24 y25 y26 y27 y28 y29 y30 y31 y32 y33 y34 y35 p3 x5 x7 q8 vC x10 x11 q12 vO x14 x15 q16 vI x18 (.agg #[.int .i64 0, .int .i64 0, .int .i64 0, .string ⟨#[]⟩, x10, x14, x18])) w)
    {B1 B2 B3 : Nat} {l1 l2 l3 : List Int} (f1 : IntsAt B1 x10 l1 w) (f2 : IntsAt B2 x14 l2 w) (f3 : IntsAt B3 x18 l3 w) : wpOp Try.prog (fl4O Try.f5) Q 12 K (fl4A y0 y1 y2 y3 y4 y5 y6 y9 y10 y11 y12 y13 y14 y15 y16 y17 y18 y19 y20 y21 y22 y23 y24 y25 y26 y27 y28 y29 y30 y31 y32 y33 y34 y35 p3 x5 x7 q8 vC x10 x11 q12 vO x14 x15 q16 vI x18 x19) w := by
  obtain ⟨A1, c1, rfl⟩ := ints_form f1
  obtain ⟨A2, c2, rfl⟩ := ints_form f2
  obtain ⟨A3, c3, rfl⟩ := ints_form f3
  refine wpOp_step (o := { dst := some 48, op := _, type := _, pos := _, after := _, guard := _ }) rfl (fun K' hK => ?_)
  go_simp
  exact hK _ _ h
theorem fl4_arm13 (K : Act → World → Prop) (w : World) (h : K (fl4A y0 y1 y2 y3 y4 y5 y6 y9 y10 y11 y12 y13 y14 y15 y16 y17 y18 y19 y20 y21 y22 y23 y24 y25 y26 y27 y28 y29 y30 y31 y32 y33 y34 y35 p3 (.pointer (some ⟨w.heap.size, 0, none⟩)) x7 q8 vC x10 x11 q12 vO x14 x15 q16 vI x18 x19) (w.alloc (.cells #[.int .i64 0, .int .i64 0, .int .i64 0, .string ⟨#[]⟩, .slice none 0 0, .slice none 0 0, .slice none 0 0] 41))) : wpOp Try.prog (fl4O Try.f5) Q 13 K (fl4A y0 y1 y2 y3 y4 y5 y6 y9 y10 y11 y12 y13 y14 y15 y16 y17 y18 y19 y20 y21 y22 y23 y24 y25 y26 y27 y28 y29 y30 y31 y32 y33 y34 y35 p3 x5 x7 q8 vC x10 x11 q12 vO x14 x15 q16 vI x18 x19) w := by
  refine wpOp_step (o := { dst := some 8, op := _, type := _, pos := _, after := _, guard := _ }) rfl (fun K' hK => ?_)
  go_simp
  exact hK _ _ h
theorem fl4_arm14 (K : Act → World → Prop) (w : World) (kb : Nat) (a b c : Value) (h5 : x5 = .pointer (some ⟨kb, 0, none⟩)) (h19 : x19 = .agg #[.int .i64 0, .int .i64 0, .int .i64 0, .string ⟨#[]⟩, a, b, c]) (hk : w.heap[kb]? = some (.cells #[.int .i64 0, .int .i64 0, .int .i64 0, .string ⟨#[]⟩, .slice none 0 0, .slice none 0 0, .slice none 0 0] 41))
    {B1 B2 B3 : Nat} {l1 l2 l3 : List Int} (f1 : IntsAt B1 a l1 w) (f2 : IntsAt B2 b l2 w) (f3 : IntsAt B3 c l3 w)
    (h : K (fl4A y0 y1 y2 y3 y4 y5 y6 y9 y10 y11 y12 y13 y14 y15 y16 y17 y18 y19 y20 y21 y22 y23 y24 y25 y26 y27 y28 y29 y30 y31 y32 y33 y34 y35 p3 x5 x7 q8 vC x10 x11 q12 vO x14 x15 q16 vI x18 x19) (((((((w.setCell ⟨kb, 0, none⟩ (.int .i64 0)).setCell ⟨kb, 1, none⟩ (.int .i64 0)).setCell ⟨kb, 2, none⟩ (.int .i64 0)).setCell ⟨kb, 3, none⟩ (.string ⟨#[]⟩)).setCell ⟨kb, 4, none⟩ a).setCell ⟨kb, 5, none⟩ b).setCell ⟨kb, 6, none⟩ c)) : wpOp Try.prog (fl4O Try.f5) Q 14 K (fl4A y0 y1 y2 y3 y4 y5 y6 y9 y10 y11 y12 y13 y14 y15 y16 y17 y18 y19 y20 y21 y22 y23 y24 y25 y26 y27 y28 y29 y30 y31 y32 y33 y34 y35 p3 x5 x7 q8 vC x10 x11 q12 vO x14 x15 q16 vI x18 x19) w := by
  obtain ⟨A1, c1, rfl⟩ := ints_form f1
  obtain ⟨A2, c2, rfl⟩ := ints_form f2
  obtain ⟨A3, c3, rfl⟩ := ints_form f3
  subst h5 h19
  have hc : ∀ j v, (#[Value.int .i64 0, .int .i64 0, .int .i64 0, .string ⟨#[]⟩, .slice none 0 0, .slice none 0 0, .slice none 0 0] : Array Value)[j]? = some v → w.cell? ⟨kb, j, none⟩ = some v := fun j v h => by simp [World.cell?, hk, h]
  have hf : ∀ j, w.frozen? ⟨kb, j, none⟩ = false := fun j => by simp [World.frozen?, hk]
  have hc0 := hc 0 _ rfl
  have hc1 := hc 1 _ rfl
  have hc2 := hc 2 _ rfl
  have hc3 := hc 3 _ rfl
  have hc4 := hc 4 _ rfl
  have hc5 := hc 5 _ rfl
  have hc6 := hc 6 _ rfl
  have hf0 := hf 0
  have hf1 := hf 1
  have hf2 := hf 2
  have hf3 := hf 3
  have hf4 := hf 4
  have hf5 := hf 5
  have hf6 := hf 6
  refine wpOp_step (o := { dst := none, op := _, type := _, pos := _, after := _, guard := _ }) rfl (fun K' hK => ?_)
  go_simp
  exact hK _ _ h
def fl4L (n1 n2 n3 : Nat) (b : Bool) (p : Nat) : Array Bool := #[decide (1 ≤ n1), true, true, decide (2 ≤ n1), decide (1 ≤ n2), true, true, decide (2 ≤ n2), decide (1 ≤ n3), true, true, decide (2 ≤ n3), decide (1 ≤ p), b, decide (2 ≤ p)]
def fl4K (n1 n2 n3 p : Nat) : Bool := decide (n1 ≤ 2 ∧ n2 ≤ 2 ∧ n3 ≤ 2 ∧ p ≤ 2) && (decide (n2 ≤ 1) || decide (n1 = 2)) && (decide (n3 ≤ 1) || decide (n2 = 2)) && (decide (p = 0) || decide (n3 = 2))
def fl4R (n1 n2 n3 : Nat) (b : Bool) (p : Nat) : List Nat := (if n1 = 0 then [0] else if n1 = 1 then [3] else []) ++ (if n2 = 0 then [4] else if n2 = 1 ∧ n1 = 2 then [7] else []) ++ (if n3 = 0 then [8] else if n3 = 1 ∧ n2 = 2 then [11] else []) ++ (if n3 = 2 ∧ p = 0 then [12] else []) ++ (if b = false then [13] else []) ++ (if b = true ∧ p = 1 then [14] else [])
theorem fl4_all : (floT.all fun n1 => floT.all fun n2 => floT.all fun n3 => floT.all fun p => [false, true].all fun b => !fl4K n1 n2 n3 p || (p == 2 && !b) || (Region.ready .any (fl4O Try.f5) (fl4L n1 n2 n3 b p) == fl4R n1 n2 n3 b p)) = true := by kernel_rfl
theorem fl4_eq {n1 n2 n3 p : Nat} {b : Bool} (h : fl4K n1 n2 n3 p = true) (hp : p = 2 → b = true) : Region.ready .any (fl4O Try.f5) (fl4L n1 n2 n3 b p) = fl4R n1 n2 n3 b p := by
  have hh := h
  simp only [fl4K, Bool.and_eq_true, decide_eq_true_eq] at hh
  obtain ⟨⟨⟨⟨l1, l2, l3, l4⟩, -⟩, -⟩, -⟩ := hh
  have m : ∀ n, n ≤ 2 → n ∈ floT := fun n hn => by unfold floT; match n, hn with | 0, _ => simp | 1, _ => simp | 2, _ => simp
  have := List.all_eq_true.1 (List.all_eq_true.1 (List.all_eq_true.1 (List.all_eq_true.1 (List.all_eq_true.1 fl4_all n1 (m _ l1)) n2 (m _ l2)) n3 (m _ l3)) p (m _ l4)) b (by cases b <;> simp)
  rw [h] at this
  have h2 : (p == 2 && !b) = false := by
    by_cases e : p = 2
    · rw [hp e]; simp
    · simp [e]
  rw [h2] at this
  simpa using this
theorem fl4_mem {n1 n2 n3 p i : Nat} {b : Bool} (h : i ∈ fl4R n1 n2 n3 b p) : (i = 0 ∧ n1 = 0) ∨ (i = 3 ∧ n1 = 1) ∨ (i = 4 ∧ n2 = 0) ∨ (i = 7 ∧ n2 = 1 ∧ n1 = 2) ∨ (i = 8 ∧ n3 = 0) ∨ (i = 11 ∧ n3 = 1 ∧ n2 = 2) ∨ (i = 12 ∧ n3 = 2 ∧ p = 0) ∨ (i = 13 ∧ b = false) ∨ (i = 14 ∧ b = true ∧ p = 1) := by
  simp only [fl4R, List.mem_append] at h
  rcases h with ((((h | h) | h) | h) | h) | h
  all_goals (repeat' split at h) <;> simp_all
theorem fl4_nil {n1 n2 n3 p : Nat} {b : Bool} (h : fl4R n1 n2 n3 b p = []) (ho : fl4K n1 n2 n3 p = true) : n1 = 2 ∧ n2 = 2 ∧ n3 = 2 ∧ p = 2 ∧ b = true := by
  simp only [fl4K, Bool.and_eq_true, Bool.or_eq_true, decide_eq_true_eq] at ho
  simp only [fl4R, List.append_eq_nil_iff] at h
  obtain ⟨⟨⟨⟨⟨h1, h2⟩, h3⟩, h4⟩, h5⟩, h6⟩ := h
  have e1 : n1 = 2 := by (repeat' split at h1) <;> first | omega | (exact absurd h1 (by simp))
  have e2 : n2 = 2 := by (repeat' split at h2) <;> first | omega | (exact absurd h2 (by simp))
  have e3 : n3 = 2 := by (repeat' split at h3) <;> first | omega | (exact absurd h3 (by simp))
  have e4 : p ≠ 0 := by (repeat' split at h4) <;> first | omega | (exact absurd h4 (by simp))
  have e5 : b = true := by cases b <;> simp_all
  have e6 : p ≠ 1 := by subst e5; intro e; simp [e] at h6
  exact ⟨e1, e2, e3, by omega, e5⟩
/-- Where the region stands: how far each list is, whether the struct is made, whether it is filled. -/
structure Ds4I (w0 : World) (H : Nat) (L1 L2 L3 : List Int) (n1 n2 n3 : Nat) (b : Bool) (p : Nat) (x5 x7 x10 x11 x14 x15 x18 x19 u1 u2 u3 : Value) (w : World) : Prop where
  bl : Below H w0 w
  hs : H ≤ w.heap.size
  r3 : R3 H u1 u2 u3 (floP n1 L1) (floP n2 L2) (floP n3 L3) w
  a1 : n1 = 1 → x7 = u1
  a2 : n2 = 1 → x11 = u2
  a3 : n3 = 1 → x15 = u3
  c1 : n1 = 2 → x10 = u1
  c2 : n2 = 2 → x14 = u2
  c3 : n3 = 2 → x18 = u3
  hb : b = true → ∃ kb, x5 = .pointer (some ⟨kb, 0, none⟩) ∧ H ≤ kb ∧ w.heap[kb]? = some (.cells (if p = 2 then floV u1 u2 u3 else floZ) 41 (0, 0))
  hp : 1 ≤ p → x19 = .agg (floV u1 u2 u3)
/-- The region's own relation. -/
def Ds4S (y0 y1 y2 y3 y4 y5 y6 y9 y10 y11 y12 y13 y14 y15 y16 y17 y18 y19 y20 y21 y22 y23 y24 y25 y26 y27 y28 y29 y30 y31 y32 y33 y34 y35 p3 q8 vC q12 vO q16 vI : Value) (w0 : World) (H : Nat) (L1 L2 L3 : List Int) (m : Nat) (L : Array Bool) (a : Act) (w : World) : Prop :=
  ∃ (n1 n2 n3 : Nat) (b : Bool) (p : Nat) (x5 x7 x10 x11 x14 x15 x18 x19 u1 u2 u3 : Value), fl4K n1 n2 n3 p = true ∧ (p = 2 → b = true) ∧ m + n1 + n2 + n3 + p + b.toNat = 9 ∧ L = fl4L n1 n2 n3 b p ∧ a = fl4A y0 y1 y2 y3 y4 y5 y6 y9 y10 y11 y12 y13 y14 y15 y16 y17 y18 y19 y20 y21 y22 y23 y24 y25 y26 y27 y28 y29 y30 y31 y32 y33 y34 y35 p3 x5 x7 q8 vC x10 x11 q12 vO x14 x15 q16 vI x18 x19 ∧ Ds4I w0 H L1 L2 L3 n1 n2 n3 b p x5 x7 x10 x11 x14 x15 x18 x19 u1 u2 u3 w
theorem Ds4I.grow {w0 w w' : World} {H : Nat} {L1 L2 L3 : List Int} {n1 n2 n3 p : Nat} {b : Bool} {x5 x7 x10 x11 x14 x15 x18 x19 u1 u2 u3 u : Value} {xs : List Int} (h : Ds4I w0 H L1 L2 L3 n1 n2 n3 b p x5 x7 x10 x11 x14 x15 x18 x19 u1 u2 u3 w) (hu : IntsAt H u xs w) (hg : w.grownBy w' u.ownBlock) :
    Below H w0 w' ∧ H ≤ w'.heap.size ∧ (b = true → ∃ kb, x5 = .pointer (some ⟨kb, 0, none⟩) ∧ H ≤ kb ∧ w'.heap[kb]? = some (.cells (if p = 2 then floV u1 u2 u3 else floZ) 41 (0, 0))) :=
  ⟨bl_grown h.bl hu h.hs hg, Nat.le_trans h.hs hg.size, fun e => by
    obtain ⟨kb, e1, e2, e3⟩ := h.hb e
    exact ⟨kb, e1, e2, kb_grown hu e3 hg⟩⟩
theorem Ds4I.al {w0 w : World} {H : Nat} {L1 L2 L3 : List Int} {n1 n2 n3 p : Nat} {b : Bool} {x5 x7 x10 x11 x14 x15 x18 x19 u1 u2 u3 : Value} (h : Ds4I w0 H L1 L2 L3 n1 n2 n3 b p x5 x7 x10 x11 x14 x15 x18 x19 u1 u2 u3 w) (o : Obj) :
    Below H w0 (w.alloc o) ∧ H ≤ (w.alloc o).heap.size ∧ (b = true → ∃ kb, x5 = .pointer (some ⟨kb, 0, none⟩) ∧ H ≤ kb ∧ (w.alloc o).heap[kb]? = some (.cells (if p = 2 then floV u1 u2 u3 else floZ) 41 (0, 0))) :=
  h.grow (u := .slice none 0 0) (xs := []) (IntsAt.nil _ _) (grown_of_below ((Below.refl _ _).alloc (Nat.le_refl _) o) _)
set_option maxRecDepth 100000 in
theorem fl4_step (Q : Exit → Act → World → Prop) (y0 y1 y2 y3 y4 y5 y6 y9 y10 y11 y12 y13 y14 y15 y16 y17 y18 y19 y20 y21 y22 y23 y24 y25 y26 y27 y28 y29 y30 y31 y32 y33 y34 y35 p3 q8 vC q12 vO q16 vI : Value) (w0 : World) (H : Nat) (L1 L2 L3 : List Int) (hl : L1.length ≤ 1000 ∧ L2.length ≤ 1000 ∧ L3.length ≤ 1000)
    (HC : ∀ u, Below H w0 u → SlI vC L1 u) (HO : ∀ u, Below H w0 u → SlI vO L2 u) (HI : ∀ u, Below H w0 u → SlI vI L3 u) (m : Nat) (L : Array Bool) (a : Act) (w : World)
    (h : Ds4S y0 y1 y2 y3 y4 y5 y6 y9 y10 y11 y12 y13 y14 y15 y16 y17 y18 y19 y20 y21 y22 y23 y24 y25 y26 y27 y28 y29 y30 y31 y32 y33 y34 y35 p3 q8 vC q12 vO q16 vI w0 H L1 L2 L3 (m + 1) L a w) (i : Nat) (hi : i ∈ Region.ready .any (fl4O Try.f5) L) :
    wpOp Try.prog (fl4O Try.f5) Q i (fun a' w' => (Below H w0 w') ∧ Ds4S y0 y1 y2 y3 y4 y5 y6 y9 y10 y11 y12 y13 y14 y15 y16 y17 y18 y19 y20 y21 y22 y23 y24 y25 y26 y27 y28 y29 y30 y31 y32 y33 y34 y35 p3 q8 vC q12 vO q16 vI w0 H L1 L2 L3 m (L.setIfInBounds i true) a' w') a w := by
  obtain ⟨n1, n2, n3, b, p, x5, x7, x10, x11, x14, x15, x18, x19, u1, u2, u3, ho, hpb, hm, rfl, rfl, V⟩ := h
  rw [fl4_eq ho hpb] at hi
  have hoo := ho
  simp only [fl4K, Bool.and_eq_true, Bool.or_eq_true, decide_eq_true_eq] at hoo
  rcases fl4_mem hi with ⟨rfl, rfl⟩ | ⟨rfl, rfl⟩ | ⟨rfl, rfl⟩ | ⟨rfl, rfl, rfl⟩ | ⟨rfl, rfl⟩ | ⟨rfl, rfl, rfl⟩ | ⟨rfl, rfl, rfl⟩ | ⟨rfl, rfl⟩ | ⟨rfl, rfl, rfl⟩
  · obtain ⟨g1, g2, g3⟩ := V.al (.cells #[] 3)
    obtain rfl : p = 0 := by omega
    refine fl4_arm0 _ _ _ _ _ _ _ _ _ _ _ _ _ _ _ _ _ _ _ _ _ _ _ _ _ _ _ _ _ _ _ _ _ _ _ _ _ _ _ _ _ _ _ _ _ _ _ _ _ _ _ _ ⟨g1, 1, n2, n3, b, 0, x5, _, x10, x11, x14, x15, x18, x19, _, u2, u3, by (simp [fl4K] <;> omega), hpb, by omega, by simp [fl4L], rfl, g1, g2, (V.r3.new V.hs), fun _ => rfl, V.a2, V.a3, fun e => absurd e (by decide), V.c2, V.c3, ?_, fun e => absurd e (by decide)⟩
    simpa using g3
  · obtain rfl := V.a1 rfl
    obtain rfl : p = 0 := by omega
    refine fl4_arm3 _ _ _ _ _ _ _ _ _ _ _ _ _ _ _ _ _ _ _ _ _ _ _ _ _ _ _ _ _ _ _ _ _ _ _ _ _ _ _ _ _ _ _ _ _ _ _ _ _ _ _ _ H L1 V.r3.fa (HC _ V.bl) V.hs hl.1 (fun v' w' h1 h2 h3 => ?_)
    obtain ⟨g1, g2, g3⟩ := V.grow V.r3.fa h2
    refine ⟨g1, 2, n2, n3, b, 0, x5, x7, v', x11, x14, x15, x18, x19, v', u2, u3, by (simp [fl4K] <;> omega), hpb, by omega, by simp [fl4L], rfl, g1, g2, (V.r3.app h1 h2 h3), fun e => absurd e (by decide), V.a2, V.a3, fun _ => rfl, V.c2, V.c3, ?_, fun e => absurd e (by decide)⟩
    simpa using g3
  · obtain ⟨g1, g2, g3⟩ := V.al (.cells #[] 3)
    obtain rfl : p = 0 := by omega
    refine fl4_arm4 _ _ _ _ _ _ _ _ _ _ _ _ _ _ _ _ _ _ _ _ _ _ _ _ _ _ _ _ _ _ _ _ _ _ _ _ _ _ _ _ _ _ _ _ _ _ _ _ _ _ _ _ ⟨g1, n1, 1, n3, b, 0, x5, x7, x10, _, x14, x15, x18, x19, u1, _, u3, by (simp [fl4K] <;> omega), hpb, by omega, by simp [fl4L], rfl, g1, g2, ((V.r3.rot.new V.hs).rot.rot), V.a1, fun _ => rfl, V.a3, V.c1, fun e => absurd e (by decide), V.c3, ?_, fun e => absurd e (by decide)⟩
    simpa using g3
  · obtain rfl := V.a2 rfl
    obtain rfl : p = 0 := by omega
    refine fl4_arm7 _ _ _ _ _ _ _ _ _ _ _ _ _ _ _ _ _ _ _ _ _ _ _ _ _ _ _ _ _ _ _ _ _ _ _ _ _ _ _ _ _ _ _ _ _ _ _ _ _ _ _ _ H L2 V.r3.fb (HO _ V.bl) V.hs hl.2.1 (fun v' w' h1 h2 h3 => ?_)
    obtain ⟨g1, g2, g3⟩ := V.grow V.r3.fb h2
    refine ⟨g1, 2, 2, n3, b, 0, x5, x7, x10, x11, v', x15, x18, x19, u1, v', u3, by (simp [fl4K] <;> omega), hpb, by omega, by simp [fl4L], rfl, g1, g2, ((V.r3.rot.app h1 h2 h3).rot.rot), V.a1, fun e => absurd e (by decide), V.a3, V.c1, fun _ => rfl, V.c3, ?_, fun e => absurd e (by decide)⟩
    simpa using g3
  · obtain ⟨g1, g2, g3⟩ := V.al (.cells #[] 3)
    obtain rfl : p = 0 := by omega
    refine fl4_arm8 _ _ _ _ _ _ _ _ _ _ _ _ _ _ _ _ _ _ _ _ _ _ _ _ _ _ _ _ _ _ _ _ _ _ _ _ _ _ _ _ _ _ _ _ _ _ _ _ _ _ _ _ ⟨g1, n1, n2, 1, b, 0, x5, x7, x10, x11, x14, _, x18, x19, u1, u2, _, by (simp [fl4K] <;> omega), hpb, by omega, by simp [fl4L], rfl, g1, g2, ((V.r3.rot.rot.new V.hs).rot), V.a1, V.a2, fun _ => rfl, V.c1, V.c2, fun e => absurd e (by decide), ?_, fun e => absurd e (by decide)⟩
    simpa using g3
  · obtain rfl := V.a3 rfl
    obtain rfl : p = 0 := by omega
    refine fl4_arm11 _ _ _ _ _ _ _ _ _ _ _ _ _ _ _ _ _ _ _ _ _ _ _ _ _ _ _ _ _ _ _ _ _ _ _ _ _ _ _ _ _ _ _ _ _ _ _ _ _ _ _ _ H L3 V.r3.fc (HI _ V.bl) V.hs hl.2.2 (fun v' w' h1 h2 h3 => ?_)
    obtain ⟨g1, g2, g3⟩ := V.grow V.r3.fc h2
    refine ⟨g1, n1, 2, 2, b, 0, x5, x7, x10, x11, x14, x15, v', x19, u1, u2, v', by (simp [fl4K] <;> omega), hpb, by omega, by simp [fl4L], rfl, g1, g2, ((V.r3.rot.rot.app h1 h2 h3).rot), V.a1, V.a2, fun e => absurd e (by decide), V.c1, V.c2, fun _ => rfl, ?_, fun e => absurd e (by decide)⟩
    simpa using g3
  · obtain ⟨rfl, rfl⟩ : n1 = 2 ∧ n2 = 2 := by omega
    obtain rfl := V.c1 rfl
    obtain rfl := V.c2 rfl
    obtain rfl := V.c3 rfl
    refine fl4_arm12 _ _ _ _ _ _ _ _ _ _ _ _ _ _ _ _ _ _ _ _ _ _ _ _ _ _ _ _ _ _ _ _ _ _ _ _ _ _ _ _ _ _ _ _ _ _ _ _ _ _ _ _ ⟨V.bl, 2, 2, 2, b, 1, x5, x7, x10, x11, x14, x15, x18, _, _, _, _, by (simp [fl4K] <;> omega), fun e => absurd e (by decide), by omega, by simp [fl4L], rfl, V.bl, V.hs, V.r3, V.a1, V.a2, V.a3, V.c1, V.c2, V.c3, ?_, fun _ => rfl⟩ V.r3.fa V.r3.fb V.r3.fc
    simpa using V.hb
  · obtain ⟨g1, g2, -⟩ := V.al (.cells floZ 41)
    have hp2 : p ≠ 2 := fun e => absurd (hpb e) (by decide)
    refine fl4_arm13 _ _ _ _ _ _ _ _ _ _ _ _ _ _ _ _ _ _ _ _ _ _ _ _ _ _ _ _ _ _ _ _ _ _ _ _ _ _ _ _ _ _ _ _ _ _ _ _ _ _ _ _ ⟨g1, n1, n2, n3, true, p, _, x7, x10, x11, x14, x15, x18, x19, u1, u2, u3, by (simp [fl4K] <;> omega), fun _ => rfl, by simp at hm ⊢; omega, by simp [fl4L], rfl, g1, g2, V.r3.al _, V.a1, V.a2, V.a3, V.c1, V.c2, V.c3, fun _ => ⟨w.heap.size, rfl, V.hs, ?_⟩, V.hp⟩
    rw [if_neg hp2]; exact heap_alloc_new w _
  · obtain ⟨kb, e1, e2, e3⟩ := V.hb rfl
    rw [if_neg (by decide)] at e3
    obtain rfl : n3 = 2 := by omega
    obtain ⟨rfl, rfl⟩ : n1 = 2 ∧ n2 = 2 := by omega
    have nk : ∀ {u : Value} {xs : List Int}, IntsAt H u xs w → u.ownBlock ≠ some kb := fun {u xs} hu e => by
      rcases hu.2 with ⟨rfl, _⟩ | ⟨g, cap, cur, rfl, _, hg', _⟩
      · cases e
      · obtain rfl : g = kb := by simpa [Value.ownBlock] using e
        rw [e3] at hg'
        injection hg' with hg'
        injection hg' with _ h2
        exact absurd h2 (by decide)
    refine fl4_arm14 _ _ _ _ _ _ _ _ _ _ _ _ _ _ _ _ _ _ _ _ _ _ _ _ _ _ _ _ _ _ _ _ _ _ _ _ _ _ _ _ _ _ _ _ _ _ _ _ _ _ _ _ kb u1 u2 u3 e1 (V.hp (by decide)) e3 V.r3.fa V.r3.fb V.r3.fc ?_
    have g1 := ((((((V.bl.setCell (p := ⟨kb, 0, none⟩) e2 (.int .i64 0)).setCell (p := ⟨kb, 1, none⟩) e2 (.int .i64 0)).setCell (p := ⟨kb, 2, none⟩) e2 (.int .i64 0)).setCell (p := ⟨kb, 3, none⟩) e2 (.string ⟨#[]⟩)).setCell (p := ⟨kb, 4, none⟩) e2 u1).setCell (p := ⟨kb, 5, none⟩) e2 u2).setCell (p := ⟨kb, 6, none⟩) e2 u3
    refine ⟨g1, 2, 2, 2, true, 2, x5, x7, x10, x11, x14, x15, x18, x19, u1, u2, u3, by (simp [fl4K] <;> omega), fun _ => rfl, by simp at hm ⊢; omega, by simp [fl4L], rfl, g1, ?_, ⟨ints_sets V.r3.fa (nk V.r3.fa) _ _ _ _ _ _ _, ints_sets V.r3.fb (nk V.r3.fb) _ _ _ _ _ _ _, ints_sets V.r3.fc (nk V.r3.fc) _ _ _ _ _ _ _, V.r3.ab, V.r3.ac, V.r3.bc⟩, V.a1, V.a2, V.a3, V.c1, V.c2, V.c3, fun _ => ⟨kb, e1, e2, ?_⟩, fun _ => V.hp (by decide)⟩
    · simp; exact V.hs
    · rw [if_pos rfl]; exact row7_set e3 _ _ _ _ _ _ _
set_option maxRecDepth 100000 in
theorem dis4_region (Q : Exit → Act → World → Prop) (id : Nat) (y0 y1 y2 y3 y4 y5 y6 y9 y10 y11 y12 y13 y14 y15 y16 y17 y18 y19 y20 y21 y22 y23 y24 y25 y26 y27 y28 y29 y30 y31 y32 y33 y34 y35 vC vO vI : Value) (w : World) (pb : Nat) (L1 L2 L3 : List Int) (hl : L1.length ≤ 1000 ∧ L2.length ≤ 1000 ∧ L3.length ≤ 1000) (hpb : pb < w.heap.size)
    (k4 : w.cell? ⟨pb, 4, none⟩ = some vC) (k5 : w.cell? ⟨pb, 5, none⟩ = some vO) (k6 : w.cell? ⟨pb, 6, none⟩ = some vI)
    (HC : ∀ u, Below w.heap.size w u → SlI vC L1 u) (HO : ∀ u, Below w.heap.size w u → SlI vO L2 u) (HI : ∀ u, Below w.heap.size w u → SlI vI L3 u)
    (hq : ∀ c (a : Act) d v w, Q (.panic c) (a.put d v) w → Q (.panic c) a w)
    (hend : ∀ x5 x7 x11 x15 x19 u1 u2 u3 kb w', Below w.heap.size w w' → R3 w.heap.size u1 u2 u3 L1 L2 L3 w' → x5 = .pointer (some ⟨kb, 0, none⟩) → w.heap.size ≤ kb → w'.heap[kb]? = some (.cells (floV u1 u2 u3) 41 (0, 0)) → Q .normal (fl4A y0 y1 y2 y3 y4 y5 y6 y9 y10 y11 y12 y13 y14 y15 y16 y17 y18 y19 y20 y21 y22 y23 y24 y25 y26 y27 y28 y29 y30 y31 y32 y33 y34 y35 (.pointer (some ⟨pb, 0, none⟩)) x5 x7 (.pointer (some ⟨pb, 4, none⟩)) vC u1 x11 (.pointer (some ⟨pb, 5, none⟩)) vO u2 x15 (.pointer (some ⟨pb, 6, none⟩)) vI u3 x19) w') :
    (Code.region id (fl4O Try.f5) true).wp Try.prog Q { tmps := #[y0, y1, y2, y3, y4, y5, y6, .pointer (some ⟨pb, 0, none⟩), undef, y9, y10, y11, y12, y13, y14, y15, y16, y17, y18, y19, y20, y21, y22, y23, y24, y25, y26, y27, y28, y29, y30, y31, y32, y33, y34, y35, undef, undef, undef, undef, undef, undef, undef, undef, undef, undef, undef, undef, undef, undef, undef, undef, undef, undef, undef, undef, undef, undef, undef, undef, undef, undef, undef, undef, undef, undef, undef, undef, undef, undef, undef, undef, undef, undef, undef, undef, undef, undef, undef, undef, undef, undef, undef, undef, undef, undef, undef, undef, undef, undef, undef, undef, undef, undef, undef, undef, undef, undef, undef, undef, undef, undef, undef, undef, undef, undef, undef, undef, undef, undef, undef, undef, undef, undef, undef, undef, undef, undef, undef, undef, undef, undef, undef, undef, undef, undef, undef, undef, undef, undef, undef, undef, undef, undef, undef, undef, undef, undef, undef, undef, undef, undef, undef, undef, undef, undef, undef, undef, undef, undef, undef, undef, undef, undef, undef, undef, undef, undef, undef, undef, undef, undef, undef, undef, undef, undef, undef, undef, undef, undef, undef, undef, undef, undef], defers := [] } w := by
  refine wp_region_held_drew (S := fun u => Below w.heap.size w u) (by kernel_rfl) ((Below.refl _ _).drew) (fun hHeld => ?_)
  refine wpAnyH_take (i := 1) (oi := { dst := some 37, op := _, type := _, pos := _, after := _, guard := _ }) (v := ?v_1) rfl (by kernel_rfl) (by kernel_rfl) (by kernel_rfl) (fun c a w h => hq c a _ _ w h) (Or.inl ⟨by rfl, ?hy_1⟩) hHeld ?_
  case hy_1 => (intro w' hSw; (try dsimp only at hSw); go_simp; try with_reducible rfl)
  simp only [Act.put, List.setIfInBounds_toArray, List.set_cons_zero, List.set_cons_succ]
  refine wpAnyH_take (i := 2) (oi := { dst := some 38, op := _, type := _, pos := _, after := _, guard := _ }) (v := ?v_2) rfl (by kernel_rfl) (by kernel_rfl) (by kernel_rfl) (fun c a w h => hq c a _ _ w h) (Or.inl ⟨by rfl, ?hy_2⟩) hHeld ?_
  case hy_2 => (intro w' hSw; (try dsimp only at hSw); have q := (hSw.cell (p := ⟨pb, 4, none⟩) hpb).trans k4; go_simp; try with_reducible rfl)
  simp only [Act.put, List.setIfInBounds_toArray, List.set_cons_zero, List.set_cons_succ]
  refine wpAnyH_take (i := 5) (oi := { dst := some 41, op := _, type := _, pos := _, after := _, guard := _ }) (v := ?v_5) rfl (by kernel_rfl) (by kernel_rfl) (by kernel_rfl) (fun c a w h => hq c a _ _ w h) (Or.inl ⟨by rfl, ?hy_5⟩) hHeld ?_
  case hy_5 => (intro w' hSw; (try dsimp only at hSw); go_simp; try with_reducible rfl)
  simp only [Act.put, List.setIfInBounds_toArray, List.set_cons_zero, List.set_cons_succ]
  refine wpAnyH_take (i := 6) (oi := { dst := some 42, op := _, type := _, pos := _, after := _, guard := _ }) (v := ?v_6) rfl (by kernel_rfl) (by kernel_rfl) (by kernel_rfl) (fun c a w h => hq c a _ _ w h) (Or.inl ⟨by rfl, ?hy_6⟩) hHeld ?_
  case hy_6 => (intro w' hSw; (try dsimp only at hSw); have q := (hSw.cell (p := ⟨pb, 5, none⟩) hpb).trans k5; go_simp; try with_reducible rfl)
  simp only [Act.put, List.setIfInBounds_toArray, List.set_cons_zero, List.set_cons_succ]
  refine wpAnyH_take (i := 9) (oi := { dst := some 45, op := _, type := _, pos := _, after := _, guard := _ }) (v := ?v_9) rfl (by kernel_rfl) (by kernel_rfl) (by kernel_rfl) (fun c a w h => hq c a _ _ w h) (Or.inl ⟨by rfl, ?hy_9⟩) hHeld ?_
  case hy_9 => (intro w' hSw; (try dsimp only at hSw); go_simp; try with_reducible rfl)
  simp only [Act.put, List.setIfInBounds_toArray, List.set_cons_zero, List.set_cons_succ]
  refine wpAnyH_take (i := 10) (oi := { dst := some 46, op := _, type := _, pos := _, after := _, guard := _ }) (v := ?v_10) rfl (by kernel_rfl) (by kernel_rfl) (by kernel_rfl) (fun c a w h => hq c a _ _ w h) (Or.inl ⟨by rfl, ?hy_10⟩) hHeld ?_
  case hy_10 => (intro w' hSw; (try dsimp only at hSw); have q := (hSw.cell (p := ⟨pb, 6, none⟩) hpb).trans k6; go_simp; try with_reducible rfl)
  simp only [Act.put, List.setIfInBounds_toArray, List.set_cons_zero, List.set_cons_succ]
  refine any_keeps (Ds4S y0 y1 y2 y3 y4 y5 y6 y9 y10 y11 y12 y13 y14 y15 y16 y17 y18 y19 y20 y21 y22 y23 y24 y25 y26 y27 y28 y29 y30 y31 y32 y33 y34 y35 (.pointer (some ⟨pb, 0, none⟩)) (.pointer (some ⟨pb, 4, none⟩)) vC (.pointer (some ⟨pb, 5, none⟩)) vO (.pointer (some ⟨pb, 6, none⟩)) vI w w.heap.size L1 L2 L3) ?_ ?_ ?_ 9 _ _ _ ?_
  · rintro n L a w' ⟨n1, n2, n3, b, p, x5, x7, x10, x11, x14, x15, x18, x19, u1, u2, u3, ho, hpb, hm, rfl, rfl, V⟩ hr
    rw [fl4_eq ho hpb] at hr
    obtain ⟨rfl, rfl, rfl, rfl, rfl⟩ := fl4_nil hr ho
    obtain rfl := V.c1 rfl
    obtain rfl := V.c2 rfl
    obtain rfl := V.c3 rfl
    obtain ⟨kb, e1, e2, e3⟩ := V.hb rfl
    exact hend _ _ _ _ _ _ _ _ kb w' V.bl V.r3 e1 e2 e3
  · rintro L a w' ⟨n1, n2, n3, b, p, x5, x7, x10, x11, x14, x15, x18, x19, u1, u2, u3, ho, hpb, hm, rfl, rfl, V⟩
    rw [fl4_eq ho hpb]
    simp only [fl4K, Bool.and_eq_true, Bool.or_eq_true, decide_eq_true_eq] at ho
    have hb1 : b.toNat ≤ 1 := by cases b <;> decide
    obtain ⟨rfl, rfl, rfl, rfl⟩ : n1 = 2 ∧ n2 = 2 ∧ n3 = 2 ∧ p = 2 := by omega
    obtain rfl : b = true := hpb rfl
    rfl
  · intro n L a w' h i hi
    exact fl4_step Q _ _ _ _ _ _ _ _ _ _ _ _ _ _ _ _ _ _ _ _ _ _ _ _ _ _ _ _ _ _ _ _ _ _ _ _ _ _ _ _ _ w w.heap.size L1 L2 L3 hl HC HO HI n L a w' h i hi
  · refine ⟨0, 0, 0, false, 0, undef, undef, undef, undef, undef, undef, undef, undef, .slice none 0 0, .slice none 0 0, .slice none 0 0, rfl, fun e => absurd e (by decide), rfl, by kernel_rfl, rfl, (Below.refl _ _).drew, Nat.le_refl _, R3.emp _ _, ?_, ?_, ?_, ?_, ?_, ?_, ?_, ?_⟩ <;> intro e <;> exact absurd e (by decide)
end Go.Proofs.Ytnofmlkjagdklaa
