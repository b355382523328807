/- The laws' examples (awake); a printable calendar is printable; the law Accepted. -/
import Derived.Test.YtkhicgafhbecfaaGreatDoorEt
import Derived.Test.YtkhicgafhbecfaaGreatDoorEq
import Derived.Test.YtkhicgafhbecfaaGreatDoorP7
import Derived.Test.YtkhicgafhbecfaaGreatDoorEi
namespace Go.Proofs.YtkhicgafhbecfaaGreatDoor
open Go.RowKit

def kS1 : ByteArray := ⟨#[99, 97, 108, 101, 110, 100, 97, 114, 32, 50, 48, 48, 48, 10, 100, 97, 121, 32, 49, 32, 51, 32, 109, 111, 110, 100, 97, 121, 32, 115, 32, 49, 32, 109, 111, 118, 101, 100, 32, 98, 32, 50, 32, 102, 114, 111, 109, 32, 49, 32, 49, 32, 119, 105, 116, 104, 32, 97, 32, 119, 105, 116, 104, 111, 117, 116, 32, 99, 32, 119, 105, 116, 104, 111, 117, 116, 32, 100, 10, 101, 110, 100, 10]⟩
def kS2 : ByteArray := ⟨#[99, 97, 108, 101, 110, 100, 97, 114, 32, 50, 48, 48, 48, 10, 100, 97, 121, 32, 49, 32, 51, 32, 109, 111, 110, 100, 97, 121, 32, 115, 32, 49, 32, 112, 114, 111, 112, 101, 114, 32, 98, 32, 50, 32, 119, 105, 116, 104, 111, 117, 116, 32, 99, 32, 119, 105, 116, 104, 32, 97, 10, 101, 110, 100, 10]⟩
def aEnt : Ent := ⟨2000, 1, 3, 1, ⟨#[115]⟩, 1, 3, ⟨#[98]⟩, 2, 2000, 1, 1, [⟨#[97]⟩], [⟨#[99]⟩, ⟨#[100]⟩]⟩
theorem kE1 : (kEnd 200 kS1).b = false := by kernel_rfl
theorem kC1 : (kBody 200 kS1 ⟨0, false⟩).1 = ⟨2000, [aEnt]⟩ := by kernel_rfl
theorem kE2e : (kEnd 200 kS2) = ⟨58, true⟩ := by kernel_rfl
theorem kP1 : txK ⟨2000, [aEnt]⟩ = ⟨#[99, 97, 108, 101, 110, 100, 97, 114, 32, 50, 48, 48, 48, 10, 100, 97, 121, 32, 49, 32, 51, 32, 109, 111, 110, 100, 97, 121, 32, 115, 32, 49, 32, 109, 111, 118, 101, 100, 32, 98, 32, 50, 32, 102, 114, 111, 109, 32, 49, 32, 49, 32, 119, 105, 116, 104, 32, 97, 32, 119, 105, 116, 104, 111, 117, 116, 32, 99, 32, 119, 105, 116, 104, 111, 117, 116, 32, 100, 10, 101, 110, 100, 10]⟩ := by kernel_rfl
theorem kP0 : txK ⟨2000, []⟩ = ⟨#[99, 97, 108, 101, 110, 100, 97, 114, 32, 50, 48, 48, 48, 10, 101, 110, 100, 10]⟩ := by kernel_rfl
theorem k_par1 (w : World) (hT : WTab w) : Calls Tryz.prog 9 #[.string ⟨#[99, 97, 108, 101, 110, 100, 97, 114, 32, 50, 48, 48, 48, 10, 100, 97, 121, 32, 49, 32, 51, 32, 109, 111, 110, 100, 97, 121, 32, 115, 32, 49, 32, 109, 111, 118, 101, 100, 32, 98, 32, 50, 32, 102, 114, 111, 109, 32, 49, 32, 49, 32, 119, 105, 116, 104, 32, 97, 32, 119, 105, 116, 104, 111, 117, 116, 32, 99, 32, 119, 105, 116, 104, 111, 117, 116, 32, 100, 10, 101, 110, 100, 10]⟩] w fun e w' => ∃ v vc vo, e = .returned (.tuple #[.agg #[.int .i64 2000, v], .int .i64 0, .int .i64 0]) ∧ KlAt w' v [⟨aEnt, vc, vo⟩] ∧ Below w.heap.size w w' := by
  have h := p27par_yes (S := kS1) (N := 200) (w := w) (by decide) (by decide) (by decide) hT kE1
  rw [kC1] at h
  refine h.mono ?_
  rintro e w' ⟨v, l, h1, h2, h3, h4⟩
  match l, h3 with
  | [⟨e', vc, vo⟩], h3 =>
    obtain rfl : e' = aEnt := by simpa using h3
    exact ⟨v, vc, vo, h1, h2, h4⟩
theorem k_par2 (w : World) (hT : WTab w) : Calls Tryz.prog 9 #[.string ⟨#[99, 97, 108, 101, 110, 100, 97, 114, 32, 50, 48, 48, 48, 10, 100, 97, 121, 32, 49, 32, 51, 32, 109, 111, 110, 100, 97, 121, 32, 115, 32, 49, 32, 112, 114, 111, 112, 101, 114, 32, 98, 32, 50, 32, 119, 105, 116, 104, 111, 117, 116, 32, 99, 32, 119, 105, 116, 104, 32, 97, 10, 101, 110, 100, 10]⟩] w fun e w' => e = .returned (.tuple #[.agg #[.int .i64 0, .slice none 0 0], .int .i64 58, .int .i64 6]) ∧ Below w.heap.size w w' := by
  have h := p27par_no (S := kS2) (N := 200) (w := w) (by decide) (by decide) (by decide) hT (by rw [kE2e])
  rw [kE2e] at h
  exact h
theorem k_pri0 (w : World) (hT : T26 w) : Calls Tryz.prog 14 #[.agg #[.int .i64 2000, .slice none 0 0]] w fun e w' => e = .returned (.string ⟨#[99, 97, 108, 101, 110, 100, 97, 114, 32, 50, 48, 48, 48, 10, 101, 110, 100, 10]⟩) ∧ Below w.heap.size w w' := by
  have h := p27pri (yr := 2000) (es := []) hT (KlAt.nil w) rfl (by decide) (by simp) (by rw [kP0]; decide) (by simp)
  rw [kP0] at h
  exact h
theorem aEnt_ok : LnOk aEnt := .of (y := 2000) (by kernel_rfl) (by decide) (by decide)
theorem k_pri1 {v vc vo : Value} (w : World) (hT : T26 w) (h : KlAt w v [⟨aEnt, vc, vo⟩]) : Calls Tryz.prog 14 #[.agg #[.int .i64 2000, v]] w fun e w' => e = .returned (.string ⟨#[99, 97, 108, 101, 110, 100, 97, 114, 32, 50, 48, 48, 48, 10, 100, 97, 121, 32, 49, 32, 51, 32, 109, 111, 110, 100, 97, 121, 32, 115, 32, 49, 32, 109, 111, 118, 101, 100, 32, 98, 32, 50, 32, 102, 114, 111, 109, 32, 49, 32, 49, 32, 119, 105, 116, 104, 32, 97, 32, 119, 105, 116, 104, 111, 117, 116, 32, 99, 32, 119, 105, 116, 104, 111, 117, 116, 32, 100, 10, 101, 110, 100, 10]⟩) ∧ Below w.heap.size w w' := by
  have h := p27pri (yr := 2000) (es := [aEnt]) hT h rfl (by decide) (by intro e he; rw [List.mem_singleton] at he; rw [he]; exact aEnt_ok) (by rw [kP1]; decide) (by simp)
  rw [kP1] at h
  exact h
theorem StrsIn.tx {g cap : Nat} {xs : List ByteArray} {w : World} (h : StrsIn g cap xs w) : TxAt w (.slice (some ⟨g, 0, none⟩) xs.length cap) xs := by
  refine ⟨_, cap, rfl, h.le, h.mx, fun i s hi => ⟨g, 0, rfl, h.lt, ?_⟩⟩
  have hl : i < xs.length := (List.getElem?_eq_some_iff.1 hi).1
  rw [Nat.zero_add, h.cell i hl, List.getD_eq_getElem?_getD, hi]; rfl
/-- What awake keeps. -/
structure Aw27 (w0 : World) (B b1 o1 c1 Wn : Nat) (vc vo va vd : Value) (u : World) : Prop where
  row : u.heap[B]? = some (.cells #[.int .i64 2000, .slice (some ⟨b1, o1, none⟩) 1 c1] 25 (0, 0))
  want : u.heap[Wn]? = some (.cells #[.int .i64 2000, .int .i64 1, .int .i64 3, .int .i64 1, .string ⟨#[115]⟩, .int .i64 1, .int .i64 3, .string ⟨#[98]⟩, .int .i64 2, .int .i64 2000, .int .i64 1, .int .i64 1, va, vd] 40 (0, 0))
  k : KlAt u (.slice (some ⟨b1, o1, none⟩) 1 c1) [⟨aEnt, vc, vo⟩]
  a : TxAt u va [⟨#[97]⟩]
  d : TxAt u vd [⟨#[99]⟩, ⟨#[100]⟩]
  bl : Below w0.heap.size w0 u
section
variable {w0 u u' : World} {B b1 o1 c1 Wn : Nat} {vc vo va vd : Value}
theorem Aw27.on (h : Aw27 w0 B b1 o1 c1 Wn vc vo va vd u) (hb : Below u.heap.size u u') : Aw27 w0 B b1 o1 c1 Wn vc vo va vd u' :=
  ⟨row_kept h.row hb, row_kept h.want hb, h.k.on hb, h.a.on hb, h.d.on hb, below_on h.bl hb⟩
theorem Aw27.c2 (h : Aw27 w0 B b1 o1 c1 Wn vc vo va vd u) : u.cell? ⟨B, 0, none⟩ = some (.int .i64 2000) ∧ u.cell? ⟨B, 1, none⟩ = some (.slice (some ⟨b1, o1, none⟩) 1 c1) := by
  refine ⟨?_, ?_⟩ <;> (rw [cell_of_row _ _ _ _ _ _ h.row]; rfl)
theorem Aw27.e (h : Aw27 w0 B b1 o1 c1 Wn vc vo va vd u) : (∀ j, j < 14 → u.cell? ⟨b1, o1 + j, none⟩ = (⟨aEnt, vc, vo⟩ : Enz).vals[j]?) ∧ TxAt u vc [⟨#[97]⟩] ∧ TxAt u vo [⟨#[99]⟩, ⟨#[100]⟩] := by
  obtain ⟨A, cap, e, _, _, h3⟩ := h.k
  obtain ⟨⟨b, o, e1, _, g⟩, t1, t2⟩ := h3 0 _ rfl
  subst e1
  injection e with e1 _ _
  injection e1 with e1
  injection e1 with e1 e2
  subst e1 e2
  exact ⟨fun j hj => by have := g j hj; rwa [Nat.zero_mul, Nat.add_zero] at this, t1, t2⟩
end
set_option maxRecDepth 100000 in
set_option maxHeartbeats 4000000 in
theorem c27awake_any (w : World) (hT : T26 w) : Calls Tryz.prog 8 #[] w fun e w' => e = .returned (.bool true) ∧ Below w.heap.size w w' := by
  have H1 := Lib.hid (fun (u : World) (h : T26 u) => k_par1 u h.wk)
  have H2 := Lib.hid (fun (u : World) (h : T26 u) => k_par2 u h.wk)
  have H3 := Lib.hid (fun (u : World) (h : T26 u) => k_pri0 u h)
  have H4 := Lib.hid (fun (v vc vo : Value) (u : World) (h : T26 u) (hk : KlAt u v [⟨aEnt, vc, vo⟩]) => k_pri1 u h hk)
  have HS := Lib.hid (fun (u : World) (vc vo vc' vo' : Value) (h1 : TxAt u vc [⟨#[97]⟩]) (h2 : TxAt u vo [⟨#[99]⟩, ⟨#[100]⟩]) (h3 : TxAt u vc' [⟨#[97]⟩]) (h4 : TxAt u vo' [⟨#[99]⟩, ⟨#[100]⟩]) => r23ent (ey := 2000) (em := 1) (ed := 3) (ewd := 1) (ese := ⟨#[115]⟩) (ewk := 1) (eki := 3) (epr := ⟨#[98]⟩) (erk := 2) (efy := 2000) (efm := 1) (efd := 1) h1 h2 h3 h4 (by decide) (by decide))
  have hT := Lib.hid hT
  go_enter Tryz.func8, Tryz.ntmps8
  go_wp2_with fail
  refine (H1.out _ hT.out).mono ?_
  rintro e u1 ⟨v, vc, vo, rfl, hk, hb⟩
  obtain ⟨A, c1, rfl, hc1, hcm, h3⟩ := id hk
  obtain ⟨⟨b1, o1, rfl, -, -⟩, -, -⟩ := h3 0 _ rfl
  have al := al1 u1 (.cells #[.int .i64 2000, .slice (some ⟨b1, o1, none⟩) 1 c1] 25)
  have R1 : (u1.alloc (.cells #[.int .i64 2000, .slice (some ⟨b1, o1, none⟩) 1 c1] 25)).heap[u1.heap.size]? = some (.cells #[.int .i64 2000, .slice (some ⟨b1, o1, none⟩) 1 c1] 25 (0, 0)) := heap_alloc_new _ _
  have K1 := Lib.hid (hk.on al)
  have B1 := Lib.hid (below_on hb al)
  have R1 := Lib.hid R1
  clear hk hb h3 al
  go_wp2_with fail
  refine (H2.out _ (hT.out.on B1.out)).mono ?_
  rintro e u2 ⟨rfl, hb⟩
  have al := al1 u2 (.cells #[.int .i64 0, .slice none 0 0] 25)
  have R2 := row_kept (row_kept R1.out hb) al
  have K2 := Lib.hid ((K1.out.on hb).on al)
  have B2x := Lib.hid (below_on (below_on B1.out hb) al)
  clear hb K1 B1 al
  have k1 : (u2.alloc (.cells #[.int .i64 0, .slice none 0 0] 25)).cell? ⟨u1.heap.size, 1, none⟩ = some (.slice (some ⟨b1, o1, none⟩) 1 c1) := by rw [cell_of_row _ _ _ _ _ _ R2]; rfl
  have R2 := Lib.hid R2
  have hc1 : (1 : Nat) ≤ c1 := hc1
  go_wp2_with fail
  clear k1
  obtain ⟨u3, hu3⟩ : ∃ u, u = u2.alloc (.cells #[.int .i64 0, .slice none 0 0] 25) := ⟨_, rfl⟩
  rw [← hu3] at R2 K2 B2x ⊢
  have hz3 : u2.heap.size + 1 = u3.heap.size := by rw [hu3]; simp
  (try rw [hz3])
  clear hu3 hz3
  obtain ⟨u4, hu4⟩ : ∃ u, u = ((u3.alloc (.cells #[.string ⟨#[97]⟩] 9)).alloc (.cells #[.string ⟨#[99]⟩, .string ⟨#[100]⟩] 9)).alloc (.cells #[.int .i64 2000, .int .i64 1, .int .i64 3, .int .i64 1, .string ⟨#[115]⟩, .int .i64 1, .int .i64 3, .string ⟨#[98]⟩, .int .i64 2, .int .i64 2000, .int .i64 1, .int .i64 1, .slice (some ⟨u3.heap.size, 0, none⟩) 1 1, .slice (some ⟨u3.heap.size + 1, 0, none⟩) 2 2] 40) := ⟨_, rfl⟩
  have al := hu4 ▸ al3 u3 (.cells #[.string ⟨#[97]⟩] 9) (.cells #[.string ⟨#[99]⟩, .string ⟨#[100]⟩] 9) (.cells #[.int .i64 2000, .int .i64 1, .int .i64 3, .int .i64 1, .string ⟨#[115]⟩, .int .i64 1, .int .i64 3, .string ⟨#[98]⟩, .int .i64 2, .int .i64 2000, .int .i64 1, .int .i64 1, .slice (some ⟨u3.heap.size, 0, none⟩) 1 1, .slice (some ⟨u3.heap.size + 1, 0, none⟩) 2 2] 40)
  have hA : TxAt u4 (.slice (some ⟨u3.heap.size, 0, none⟩) 1 1) [⟨#[97]⟩] := by
    have h := (lit1 (w := u3) ⟨#[97]⟩ 9).tx
    have h := (h.on (al1 _ (.cells #[.string ⟨#[99]⟩, .string ⟨#[100]⟩] 9))).on (al1 _ (.cells #[.int .i64 2000, .int .i64 1, .int .i64 3, .int .i64 1, .string ⟨#[115]⟩, .int .i64 1, .int .i64 3, .string ⟨#[98]⟩, .int .i64 2, .int .i64 2000, .int .i64 1, .int .i64 1, .slice (some ⟨u3.heap.size, 0, none⟩) 1 1, .slice (some ⟨u3.heap.size + 1, 0, none⟩) 2 2] 40))
    rw [← hu4] at h
    exact h
  have hD : TxAt u4 (.slice (some ⟨u3.heap.size + 1, 0, none⟩) 2 2) [⟨#[99]⟩, ⟨#[100]⟩] := by
    have h := (lit2 (w := u3.alloc (.cells #[.string ⟨#[97]⟩] 9)) ⟨#[99]⟩ ⟨#[100]⟩ 9).tx
    have h := h.on (al1 _ (.cells #[.int .i64 2000, .int .i64 1, .int .i64 3, .int .i64 1, .string ⟨#[115]⟩, .int .i64 1, .int .i64 3, .string ⟨#[98]⟩, .int .i64 2, .int .i64 2000, .int .i64 1, .int .i64 1, .slice (some ⟨u3.heap.size, 0, none⟩) 1 1, .slice (some ⟨u3.heap.size + 1, 0, none⟩) 2 2] 40))
    rw [← hu4, show (u3.alloc (.cells #[.string ⟨#[97]⟩] 9)).heap.size = u3.heap.size + 1 by simp] at h
    exact h
  have A4 : Aw27 w u1.heap.size b1 o1 c1 (u3.heap.size + 1 + 1) vc vo (.slice (some ⟨u3.heap.size, 0, none⟩) 1 1) (.slice (some ⟨u3.heap.size + 1, 0, none⟩) 2 2) u4 :=
    ⟨row_kept R2.out al, hu4 ▸ row_new2 _ _ _ _, K2.out.on al, hA, hD, below_on B2x.out al⟩
  rw [← hu4]
  clear hu4 al hA hD R2 K2 B2x
  generalize u3.heap.size + 1 + 1 = Wn at *
  generalize hva : Value.slice (some ⟨u3.heap.size, 0, none⟩) 1 1 = va at *
  generalize hvd : Value.slice (some ⟨u3.heap.size + 1, 0, none⟩) 2 2 = vd at *
  have hvc : ∃ a n c, vc = .slice a n c := by obtain ⟨A, cap, e, -⟩ := A4.e.2.1; exact ⟨_, _, _, e⟩
  have hvo : ∃ a n c, vo = .slice a n c := by obtain ⟨A, cap, e, -⟩ := A4.e.2.2; exact ⟨_, _, _, e⟩
  obtain ⟨ac, nc, kc, rfl⟩ := hvc
  obtain ⟨ao, no, ko, rfl⟩ := hvo
  have A4 := Lib.hid A4
  refine wp_region_held_drew (S := fun u => Aw27 w u1.heap.size b1 o1 c1 Wn (.slice ac nc kc) (.slice ao no ko) va vd u) (by kernel_rfl) (A4.out.on (below_dn (Below.refl _ _) 1)) (fun hHeld => ?_)
  refine wpAnyH_take (i := 0) (oi := { dst := some 29, op := _, type := _, pos := _, after := _, guard := _ }) (v := ?v1_0) rfl (by kernel_rfl) (by kernel_rfl) (by kernel_rfl) (fun _ _ _ h => h) (Or.inl ⟨by rfl, ?hy1_0⟩) hHeld ?_
  case hy1_0 => (intro wq hSw; skip; go_simp; try with_reducible rfl)
  simp only [Act.put, List.setIfInBounds_toArray, List.set_cons_zero, List.set_cons_succ]
  refine wpAnyH_ready (rs := [1]) (by kernel_rfl) (by simp) ?_
  refine AllReadyH.cons (o := { dst := some 30, op := _, type := _, pos := _, after := _, guard := _ }) rfl (fun K hK => ?_) AllReadyH.nil
  go_simp
  go_at_call 14
  refine (H3.out _ (hT.out.on hHeld.bl)).mono ?_
  rintro e1 v1 ⟨rfl, b1x⟩
  have A5 := hHeld.on b1x
  clear b1x
  refine hK.out _ _ A5 (fun hHeld => ?_)
  clear hK K
  refine wpAnyH_take (i := 2) (oi := { dst := some 31, op := _, type := _, pos := _, after := _, guard := _ }) (v := ?v1_2) rfl (by kernel_rfl) (by kernel_rfl) (by kernel_rfl) (fun _ _ _ h => h) (Or.inl ⟨by rfl, ?hy1_2⟩) hHeld ?_
  case hy1_2 => (intro wq hSw; skip; go_simp; try with_reducible rfl)
  simp only [Act.put, List.setIfInBounds_toArray, List.set_cons_zero, List.set_cons_succ]
  refine wpAnyH_take (i := 3) (oi := { dst := some 32, op := _, type := _, pos := _, after := _, guard := _ }) (v := ?v1_3) rfl (by kernel_rfl) (by kernel_rfl) (by kernel_rfl) (fun _ _ _ h => h) (Or.inl ⟨by rfl, ?hy1_3⟩) hHeld ?_
  case hy1_3 => (intro wq hSw; skip; go_simp; try with_reducible rfl)
  simp only [Act.put, List.setIfInBounds_toArray, List.set_cons_zero, List.set_cons_succ]
  refine wpAnyH_take (i := 4) (oi := { dst := some 33, op := _, type := _, pos := _, after := _, guard := _ }) (v := ?v1_4) rfl (by kernel_rfl) (by kernel_rfl) (by kernel_rfl) (fun _ _ _ h => h) (Or.inl ⟨by rfl, ?hy1_4⟩) hHeld ?_
  case hy1_4 => (intro wq hSw; skip; go_simp; try with_reducible rfl)
  simp only [Act.put, List.setIfInBounds_toArray, List.set_cons_zero, List.set_cons_succ]
  refine wpAnyH_take (i := 5) (oi := { dst := some 34, op := _, type := _, pos := _, after := _, guard := _ }) (v := ?v1_5) rfl (by kernel_rfl) (by kernel_rfl) (by kernel_rfl) (fun _ _ _ h => h) (Or.inl ⟨by rfl, ?hy1_5⟩) hHeld ?_
  case hy1_5 => (intro wq hSw; obtain ⟨s0, s1⟩ := hSw.c2; go_simp; try with_reducible rfl)
  simp only [Act.put, List.setIfInBounds_toArray, List.set_cons_zero, List.set_cons_succ]
  refine wpAnyH_take (i := 6) (oi := { dst := some 35, op := _, type := _, pos := _, after := _, guard := _ }) (v := ?v1_6) rfl (by kernel_rfl) (by kernel_rfl) (by kernel_rfl) (fun _ _ _ h => h) (Or.inl ⟨by rfl, ?hy1_6⟩) hHeld ?_
  case hy1_6 => (intro wq hSw; skip; go_simp; try with_reducible rfl)
  simp only [Act.put, List.setIfInBounds_toArray, List.set_cons_zero, List.set_cons_succ]
  refine wpAnyH_take (i := 7) (oi := { dst := some 36, op := _, type := _, pos := _, after := _, guard := _ }) (v := ?v1_7) rfl (by kernel_rfl) (by kernel_rfl) (by kernel_rfl) (fun _ _ _ h => h) (Or.inl ⟨by rfl, ?hy1_7⟩) hHeld ?_
  case hy1_7 => (intro wq hSw; have g1 := hSw.e.1; have s0 := g1 0 (by omega); have s1 := g1 1 (by omega); have s2 := g1 2 (by omega); have s3 := g1 3 (by omega); have s4 := g1 4 (by omega); have s5 := g1 5 (by omega); have s6 := g1 6 (by omega); have s7 := g1 7 (by omega); have s8 := g1 8 (by omega); have s9 := g1 9 (by omega); have s10 := g1 10 (by omega); have s11 := g1 11 (by omega); have s12 := g1 12 (by omega); have s13 := g1 13 (by omega); simp only [Enz.vals, aEnt, List.getElem?_cons_succ, List.getElem?_cons_zero, Nat.add_zero] at s0 s1 s2 s3 s4 s5 s6 s7 s8 s9 s10 s11 s12 s13; go_simp; try with_reducible rfl)
  simp only [Act.put, List.setIfInBounds_toArray, List.set_cons_zero, List.set_cons_succ]
  refine wpAnyH_take (i := 8) (oi := { dst := some 37, op := _, type := _, pos := _, after := _, guard := _ }) (v := ?v1_8) rfl (by kernel_rfl) (by kernel_rfl) (by kernel_rfl) (fun _ _ _ h => h) (Or.inl ⟨by rfl, ?hy1_8⟩) hHeld ?_
  case hy1_8 => (intro wq hSw; obtain ⟨s0, s1, s2, s3, s4, s5, s6, s7, s8, s9, s10, s11, s12, s13⟩ := row14 hSw.want; go_simp; try with_reducible rfl)
  simp only [Act.put, List.setIfInBounds_toArray, List.set_cons_zero, List.set_cons_succ]
  refine wpAnyH_ready (rs := [9]) (by kernel_rfl) (by simp) ?_
  refine AllReadyH.cons (o := { dst := some 38, op := _, type := _, pos := _, after := _, guard := _ }) rfl (fun K hK => ?_) AllReadyH.nil
  go_simp
  go_at_call 18
  refine (HS.out _ _ _ _ _ A5.e.2.1 A5.e.2.2 A5.a A5.d).mono ?_
  rintro e2 v2 ⟨rfl, b2x⟩
  have A6 := A5.on b2x
  clear b2x A5
  refine hK.out _ _ A6 (fun hHeld => ?_)
  clear hK K
  refine wpAnyH_take (i := 10) (oi := { dst := some 39, op := _, type := _, pos := _, after := _, guard := _ }) (v := ?v1_10) rfl (by kernel_rfl) (by kernel_rfl) (by kernel_rfl) (fun _ _ _ h => h) (Or.inl ⟨by rfl, ?hy1_10⟩) hHeld ?_
  case hy1_10 => (intro wq hSw; skip; go_simp; try with_reducible rfl)
  simp only [Act.put, List.setIfInBounds_toArray, List.set_cons_zero, List.set_cons_succ]
  refine wpAnyH_take (i := 11) (oi := { dst := some 40, op := _, type := _, pos := _, after := _, guard := _ }) (v := ?v1_11) rfl (by kernel_rfl) (by kernel_rfl) (by kernel_rfl) (fun _ _ _ h => h) (Or.inl ⟨by rfl, ?hy1_11⟩) hHeld ?_
  case hy1_11 => (intro wq hSw; skip; go_simp; try with_reducible rfl)
  simp only [Act.put, List.setIfInBounds_toArray, List.set_cons_zero, List.set_cons_succ]
  refine wpAnyH_take (i := 12) (oi := { dst := some 41, op := _, type := _, pos := _, after := _, guard := _ }) (v := ?v1_12) rfl (by kernel_rfl) (by kernel_rfl) (by kernel_rfl) (fun _ _ _ h => h) (Or.inl ⟨by rfl, ?hy1_12⟩) hHeld ?_
  case hy1_12 => (intro wq hSw; skip; go_simp; try with_reducible rfl)
  simp only [Act.put, List.setIfInBounds_toArray, List.set_cons_zero, List.set_cons_succ]
  refine wpAnyH_take (i := 13) (oi := { dst := some 42, op := _, type := _, pos := _, after := _, guard := _ }) (v := ?v1_13) rfl (by kernel_rfl) (by kernel_rfl) (by kernel_rfl) (fun _ _ _ h => h) (Or.inl ⟨by rfl, ?hy1_13⟩) hHeld ?_
  case hy1_13 => (intro wq hSw; skip; go_simp; try with_reducible rfl)
  simp only [Act.put, List.setIfInBounds_toArray, List.set_cons_zero, List.set_cons_succ]
  refine wpAnyH_take (i := 14) (oi := { dst := some 43, op := _, type := _, pos := _, after := _, guard := _ }) (v := ?v1_14) rfl (by kernel_rfl) (by kernel_rfl) (by kernel_rfl) (fun _ _ _ h => h) (Or.inl ⟨by rfl, ?hy1_14⟩) hHeld ?_
  case hy1_14 => (intro wq hSw; skip; go_simp; try with_reducible rfl)
  simp only [Act.put, List.setIfInBounds_toArray, List.set_cons_zero, List.set_cons_succ]
  refine wpAnyH_take (i := 15) (oi := { dst := some 44, op := _, type := _, pos := _, after := _, guard := _ }) (v := ?v1_15) rfl (by kernel_rfl) (by kernel_rfl) (by kernel_rfl) (fun _ _ _ h => h) (Or.inl ⟨by rfl, ?hy1_15⟩) hHeld ?_
  case hy1_15 => (intro wq hSw; skip; go_simp; try with_reducible rfl)
  simp only [Act.put, List.setIfInBounds_toArray, List.set_cons_zero, List.set_cons_succ]
  refine wpAnyH_take (i := 16) (oi := { dst := some 45, op := _, type := _, pos := _, after := _, guard := _ }) (v := ?v1_16) rfl (by kernel_rfl) (by kernel_rfl) (by kernel_rfl) (fun _ _ _ h => h) (Or.inl ⟨by rfl, ?hy1_16⟩) hHeld ?_
  case hy1_16 => (intro wq hSw; skip; go_simp; try with_reducible rfl)
  simp only [Act.put, List.setIfInBounds_toArray, List.set_cons_zero, List.set_cons_succ]
  refine wpAnyH_take (i := 17) (oi := { dst := some 46, op := _, type := _, pos := _, after := _, guard := _ }) (v := ?v1_17) rfl (by kernel_rfl) (by kernel_rfl) (by kernel_rfl) (fun _ _ _ h => h) (Or.inl ⟨by rfl, ?hy1_17⟩) hHeld ?_
  case hy1_17 => (intro wq hSw; skip; go_simp; try with_reducible rfl)
  simp only [Act.put, List.setIfInBounds_toArray, List.set_cons_zero, List.set_cons_succ]
  refine wpAnyH_take (i := 18) (oi := { dst := some 47, op := _, type := _, pos := _, after := _, guard := _ }) (v := ?v1_18) rfl (by kernel_rfl) (by kernel_rfl) (by kernel_rfl) (fun _ _ _ h => h) (Or.inl ⟨by rfl, ?hy1_18⟩) hHeld ?_
  case hy1_18 => (intro wq hSw; skip; go_simp; try with_reducible rfl)
  simp only [Act.put, List.setIfInBounds_toArray, List.set_cons_zero, List.set_cons_succ]
  refine wpAnyH_take (i := 19) (oi := { dst := some 48, op := _, type := _, pos := _, after := _, guard := _ }) (v := ?v1_19) rfl (by kernel_rfl) (by kernel_rfl) (by kernel_rfl) (fun _ _ _ h => h) (Or.inl ⟨by rfl, ?hy1_19⟩) hHeld ?_
  case hy1_19 => (intro wq hSw; skip; go_simp; try with_reducible rfl)
  simp only [Act.put, List.setIfInBounds_toArray, List.set_cons_zero, List.set_cons_succ]
  refine wpAnyH_take (i := 20) (oi := { dst := some 49, op := _, type := _, pos := _, after := _, guard := _ }) (v := ?v1_20) rfl (by kernel_rfl) (by kernel_rfl) (by kernel_rfl) (fun _ _ _ h => h) (Or.inl ⟨by rfl, ?hy1_20⟩) hHeld ?_
  case hy1_20 => (intro wq hSw; obtain ⟨s0, s1⟩ := hSw.c2; go_simp; try with_reducible rfl)
  simp only [Act.put, List.setIfInBounds_toArray, List.set_cons_zero, List.set_cons_succ]
  refine wpAnyH_take (i := 22) (oi := { dst := some 51, op := _, type := _, pos := _, after := _, guard := _ }) (v := ?v1_22) rfl (by kernel_rfl) (by kernel_rfl) (by kernel_rfl) (fun _ _ _ h => h) (Or.inl ⟨by rfl, ?hy1_22⟩) hHeld ?_
  case hy1_22 => (intro wq hSw; skip; go_simp; try with_reducible rfl)
  simp only [Act.put, List.setIfInBounds_toArray, List.set_cons_zero, List.set_cons_succ]
  refine wpAnyH_ready (rs := [21]) (by kernel_rfl) (by simp) ?_
  refine AllReadyH.cons (o := { dst := some 50, op := _, type := _, pos := _, after := _, guard := _ }) rfl (fun K hK => ?_) AllReadyH.nil
  go_simp
  go_at_call 14
  refine (H4.out _ _ _ _ (hT.out.on A6.bl) A6.k).mono ?_
  rintro e3 v3 ⟨rfl, b3x⟩
  have A7 := A6.on b3x
  clear b3x A6
  refine hK.out _ _ A7 (fun hHeld => ?_)
  clear hK K
  refine wpAnyH_take (i := 23) (oi := { dst := some 52, op := _, type := _, pos := _, after := _, guard := _ }) (v := ?v1_23) rfl (by kernel_rfl) (by kernel_rfl) (by kernel_rfl) (fun _ _ _ h => h) (Or.inl ⟨by rfl, ?hy1_23⟩) hHeld ?_
  case hy1_23 => (intro wq hSw; skip; go_simp; try with_reducible rfl)
  simp only [Act.put, List.setIfInBounds_toArray, List.set_cons_zero, List.set_cons_succ]
  refine wpAnyH_take (i := 24) (oi := { dst := some 53, op := _, type := _, pos := _, after := _, guard := _ }) (v := ?v1_24) rfl (by kernel_rfl) (by kernel_rfl) (by kernel_rfl) (fun _ _ _ h => h) (Or.inl ⟨by rfl, ?hy1_24⟩) hHeld ?_
  case hy1_24 => (intro wq hSw; skip; go_simp; try with_reducible rfl)
  simp only [Act.put, List.setIfInBounds_toArray, List.set_cons_zero, List.set_cons_succ]
  refine wpAnyH_take (i := 25) (oi := { dst := some 54, op := _, type := _, pos := _, after := _, guard := _ }) (v := ?v1_25) rfl (by kernel_rfl) (by kernel_rfl) (by kernel_rfl) (fun _ _ _ h => h) (Or.inl ⟨by rfl, ?hy1_25⟩) hHeld ?_
  case hy1_25 => (intro wq hSw; skip; go_simp; try with_reducible rfl)
  simp only [Act.put, List.setIfInBounds_toArray, List.set_cons_zero, List.set_cons_succ]
  refine wpAnyH_take (i := 26) (oi := { dst := some 55, op := _, type := _, pos := _, after := _, guard := _ }) (v := ?v1_26) rfl (by kernel_rfl) (by kernel_rfl) (by kernel_rfl) (fun _ _ _ h => h) (Or.inl ⟨by rfl, ?hy1_26⟩) hHeld ?_
  case hy1_26 => (intro wq hSw; skip; go_simp; try with_reducible rfl)
  simp only [Act.put, List.setIfInBounds_toArray, List.set_cons_zero, List.set_cons_succ]
  refine wpAnyH_take (i := 27) (oi := { dst := some 56, op := _, type := _, pos := _, after := _, guard := _ }) (v := ?v1_27) rfl (by kernel_rfl) (by kernel_rfl) (by kernel_rfl) (fun _ _ _ h => h) (Or.inl ⟨by rfl, ?hy1_27⟩) hHeld ?_
  case hy1_27 => (intro wq hSw; skip; go_simp; try with_reducible rfl)
  simp only [Act.put, List.setIfInBounds_toArray, List.set_cons_zero, List.set_cons_succ]
  refine wpAnyH_take (i := 28) (oi := { dst := some 57, op := _, type := _, pos := _, after := _, guard := _ }) (v := ?v1_28) rfl (by kernel_rfl) (by kernel_rfl) (by kernel_rfl) (fun _ _ _ h => h) (Or.inl ⟨by rfl, ?hy1_28⟩) hHeld ?_
  case hy1_28 => (intro wq hSw; skip; go_simp; try with_reducible rfl)
  simp only [Act.put, List.setIfInBounds_toArray, List.set_cons_zero, List.set_cons_succ]
  refine wpAnyH_take (i := 29) (oi := { dst := some 58, op := _, type := _, pos := _, after := _, guard := _ }) (v := ?v1_29) rfl (by kernel_rfl) (by kernel_rfl) (by kernel_rfl) (fun _ _ _ h => h) (Or.inl ⟨by rfl, ?hy1_29⟩) hHeld ?_
  case hy1_29 => (intro wq hSw; skip; go_simp; try with_reducible rfl)
  simp only [Act.put, List.setIfInBounds_toArray, List.set_cons_zero, List.set_cons_succ]
  refine wpAnyH_take (i := 30) (oi := { dst := some 59, op := _, type := _, pos := _, after := _, guard := _ }) (v := ?v1_30) rfl (by kernel_rfl) (by kernel_rfl) (by kernel_rfl) (fun _ _ _ h => h) (Or.inl ⟨by rfl, ?hy1_30⟩) hHeld ?_
  case hy1_30 => (intro wq hSw; skip; go_simp; try with_reducible rfl)
  simp only [Act.put, List.setIfInBounds_toArray, List.set_cons_zero, List.set_cons_succ]
  refine wpAnyH_take (i := 31) (oi := { dst := some 60, op := _, type := _, pos := _, after := _, guard := _ }) (v := ?v1_31) rfl (by kernel_rfl) (by kernel_rfl) (by kernel_rfl) (fun _ _ _ h => h) (Or.inl ⟨by rfl, ?hy1_31⟩) hHeld ?_
  case hy1_31 => (intro wq hSw; skip; go_simp; try with_reducible rfl)
  simp only [Act.put, List.setIfInBounds_toArray, List.set_cons_zero, List.set_cons_succ]
  refine wpAnyH_take (i := 32) (oi := { dst := some 61, op := _, type := _, pos := _, after := _, guard := _ }) (v := ?v1_32) rfl (by kernel_rfl) (by kernel_rfl) (by kernel_rfl) (fun _ _ _ h => h) (Or.inl ⟨by rfl, ?hy1_32⟩) hHeld ?_
  case hy1_32 => (intro wq hSw; skip; go_simp; try with_reducible rfl)
  simp only [Act.put, List.setIfInBounds_toArray, List.set_cons_zero, List.set_cons_succ]
  refine wpAnyH_ready (rs := [33]) (by kernel_rfl) (by simp) ?_
  refine AllReadyH.cons (o := { dst := some 0, op := _, type := _, pos := _, after := _, guard := _ }) rfl (fun K hK => ?_) AllReadyH.nil
  go_simp
  refine hK.out _ _ A7 (fun hHeld => ?_)
  clear hK K
  refine wpAnyH_done (by kernel_rfl) ?_ _
  go_wp2_with fail
  go_ret
  exact ⟨rfl, A7.bl⟩

set_option maxRecDepth 100000 in
theorem r27ids {v : Value} {xs : List ByteArray} {w : World} (h : TxAt w v xs) (ho : ∀ s ∈ xs, idn s = true) (hn : xs.length ≤ 1000000) : Calls Tryz.prog 29 #[v] w fun e w' => e = .returned (.bool true) ∧ Below w.heap.size w w' := by
  obtain ⟨A, cap, rfl, _, _, a1⟩ := h
  have Q := Lib.hid a1
  have HO := Lib.hid ho
  clear a1 ho
  go_enter Tryz.func29, Tryz.ntmps29
  go_wp2_with fail
  go_loopw [3] (fun i wr => ∃ k : Nat, k ≤ xs.length ∧ i = .int .i64 k ∧ Below w.heap.size w wr) (fun i _ => xs.length - (intOf i).toNat)
  case atStart => exact ⟨0, Nat.zero_le _, rfl, Below.refl _ _⟩
  case round =>
    obtain ⟨k, hk, rfl, hb⟩ := hrel
    by_cases hlt : k < xs.length
    · obtain ⟨s, hs⟩ : ∃ s, xs[k]? = some s := ⟨_, List.getElem?_eq_getElem hlt⟩
      obtain ⟨b1, o1, rfl, l1, g1⟩ := Q.out k s hs
      have k1 : wr.cell? ⟨b1, o1 + k, none⟩ = some (.string s) := by rw [hb.cell l1]; exact g1
      have HI := Lib.hid (fun u : World => r17id_is (HO.out s (List.mem_of_getElem? hs)) u)
      have HB := Lib.hid hb
      clear hb hs g1 l1
      go_wp2_with fail
      refine (HI.out _).mono ?_
      rintro e u ⟨rfl, rfl⟩
      go_wp2_with fail
      go_roundw
      case rel => exact ⟨k + 1, by omega, by go_num, HB.out⟩
      case measure => simp [intOf]; omega
    · obtain rfl : k = xs.length := by omega
      go_wp2_with fail
      go_ret
      exact ⟨rfl, hb⟩
theorem neq_dat0 (u : World) : (binOp .neq 37 (.agg #[.int .i64 0, .int .i64 0, .int .i64 0]) (.agg #[.int .i64 0, .int .i64 0, .int .i64 0])).run Tryz.prog u = .ok (.bool false) u := by simp [go_sem]
set_option maxRecDepth 100000 in
set_option maxHeartbeats 4000000 in
theorem r27prn_yes {yr : Int} {es : List Ent} {v : Value} {l : List Enz} {w : World} (h : KlAt w v l) (hl : l.map Enz.e = es) (ho : okK ⟨yr, es⟩ = true) (hn : es.length ≤ 1000000) (hx : ∀ e ∈ es, e.co.length ≤ 1000000 ∧ e.om.length ≤ 1000000) :
    Calls Tryz.prog 13 #[.agg #[.int .i64 yr, v]] w fun e w' => e = .returned (.bool true) ∧ Below w.heap.size w w' := by
  obtain ⟨A, cap, rfl, _, _, a1⟩ := h
  have Q := Lib.hid a1
  unfold okK at ho
  rw [Bool.and_eq_true] at ho
  obtain ⟨oy, oe⟩ := ho
  have oe := List.all_eq_true.1 oe
  simp only at oy oe
  have hg : ∀ (k : Nat) (z : Enz), l[k]? = some z → z.e ∈ es := fun k z hk => by rw [← hl]; exact List.mem_map.2 ⟨z, List.mem_of_getElem? hk, rfl⟩
  have HG := Lib.hid (fun (k : Nat) (z : Enz) (hk : l[k]? = some z) => (⟨oe z.e (hg k z hk), hx z.e (hg k z hk)⟩ : _ ∧ _))
  have hnl : l.length ≤ 1000000 := by rw [← List.length_map (f := Enz.e), hl]; exact hn
  clear oe hg hx hl hn a1
  have R0 := Lib.hid (heap_alloc_new w (.cells #[.int .i64 yr, .slice A l.length cap] 25))
  have B0 := Lib.hid (al1 w (.cells #[.int .i64 yr, .slice A l.length cap] 25))
  obtain ⟨W, hW⟩ : ∃ u, u = w.alloc (.cells #[.int .i64 yr, .slice A l.length cap] 25) := ⟨_, rfl⟩
  have g0 : (w.alloc (.cells #[.int .i64 yr, .slice A l.length cap] 25)).cell? ⟨w.heap.size, 0, none⟩ = some (.int .i64 yr) := by rw [cell_of_row _ _ _ _ _ _ R0.out]; rfl
  have HY := Lib.hid (fun u : World => r26in_is oy u)
  have HN := neq_dat0
  go_enter Tryz.func13, Tryz.ntmps13
  go_wp2_with fail
  refine (HY.out _).mono ?_
  rintro e u0 ⟨rfl, rfl⟩
  clear g0
  rw [← hW] at R0 B0
  go_wp2_with fail
  rw [← hW]
  clear hW
  go_loopw [3] (fun i wr => ∃ k : Nat, k ≤ l.length ∧ i = .int .i64 k ∧ Below W.heap.size W wr) (fun i _ => l.length - (intOf i).toNat)
  case atStart => exact ⟨0, Nat.zero_le _, rfl, Below.refl _ _⟩
  case round =>
    obtain ⟨k, hk, rfl, hb⟩ := hrel
    have bc := below_on B0.out hb
    have r0 : wr.cell? ⟨w.heap.size, 0, none⟩ = some (.int .i64 yr) := by rw [cell_of_row _ _ _ _ _ _ (row_kept R0.out hb)]; rfl
    have r1 : wr.cell? ⟨w.heap.size, 1, none⟩ = some (.slice A l.length cap) := by rw [cell_of_row _ _ _ _ _ _ (row_kept R0.out hb)]; rfl
    by_cases hlt : k < l.length
    · obtain ⟨z, hz⟩ : ∃ z, l[k]? = some z := ⟨_, List.getElem?_eq_getElem hlt⟩
      obtain ⟨ok, hx1, hx2⟩ := HG.out k z hz
      obtain ⟨⟨b1, o1, rfl, lt1, g1⟩, t1, t2⟩ := Q.out k z hz
      obtain ⟨⟨ey, em, ed, ewd, ese, ewk, eki, epr, erk, efy, efm, efd, eco, eom⟩, vc, vo⟩ := z
      unfold okE at ok
      simp only [Bool.and_eq_true, decide_eq_true_eq] at ok
      obtain ⟨⟨hy, hm, hd, hwk, hrk, w1, w2, k1, k2⟩, hf, hse, hpr, hco, hom⟩ := ok
      subst hy
      have g1 : ∀ j, j < 14 → wr.cell? ⟨b1, o1 + k * 14 + j, none⟩ = _ := fun j hj => (bc.cell lt1).trans (g1 j hj)
      have p0 := g1 0 (by omega)
      simp only [Enz.vals, List.getElem?_cons_zero, Nat.add_zero] at p0
      have p1 := g1 1 (by omega)
      simp only [Enz.vals, List.getElem?_cons_succ, List.getElem?_cons_zero] at p1
      have p2 := g1 2 (by omega)
      simp only [Enz.vals, List.getElem?_cons_succ, List.getElem?_cons_zero] at p2
      have p3 := g1 3 (by omega)
      simp only [Enz.vals, List.getElem?_cons_succ, List.getElem?_cons_zero] at p3
      have p4 := g1 4 (by omega)
      simp only [Enz.vals, List.getElem?_cons_succ, List.getElem?_cons_zero] at p4
      have p5 := g1 5 (by omega)
      simp only [Enz.vals, List.getElem?_cons_succ, List.getElem?_cons_zero] at p5
      have p6 := g1 6 (by omega)
      simp only [Enz.vals, List.getElem?_cons_succ, List.getElem?_cons_zero] at p6
      have p7 := g1 7 (by omega)
      simp only [Enz.vals, List.getElem?_cons_succ, List.getElem?_cons_zero] at p7
      have p8 := g1 8 (by omega)
      simp only [Enz.vals, List.getElem?_cons_succ, List.getElem?_cons_zero] at p8
      have p9 := g1 9 (by omega)
      simp only [Enz.vals, List.getElem?_cons_succ, List.getElem?_cons_zero] at p9
      have p10 := g1 10 (by omega)
      simp only [Enz.vals, List.getElem?_cons_succ, List.getElem?_cons_zero] at p10
      have p11 := g1 11 (by omega)
      simp only [Enz.vals, List.getElem?_cons_succ, List.getElem?_cons_zero] at p11
      have p12 := g1 12 (by omega)
      simp only [Enz.vals, List.getElem?_cons_succ, List.getElem?_cons_zero] at p12
      have p13 := g1 13 (by omega)
      simp only [Enz.vals, List.getElem?_cons_succ, List.getElem?_cons_zero] at p13
      obtain ⟨ac, kc, rfl, -⟩ := (show TxAt w vc eco from t1)
      obtain ⟨ao, ko, rfl, -⟩ := (show TxAt w vo eom from t2)
      have al := al1 wr (.cells #[.int .i64 ey, .int .i64 em, .int .i64 ed, .int .i64 ewd, .string ese, .int .i64 ewk, .int .i64 eki, .string epr, .int .i64 erk, .int .i64 efy, .int .i64 efm, .int .i64 efd, .slice ac eco.length kc, .slice ao eom.length ko] 40)
      have BA := Lib.hid (below_on hb al)
      have TC := Lib.hid (t1.on (below_on bc al))
      have TO := Lib.hid (t2.on (below_on bc al))
      have RE := Lib.hid (heap_alloc_new wr (.cells #[.int .i64 ey, .int .i64 em, .int .i64 ed, .int .i64 ewd, .string ese, .int .i64 ewk, .int .i64 eki, .string epr, .int .i64 erk, .int .i64 efy, .int .i64 efm, .int .i64 efd, .slice ac eco.length kc, .slice ao eom.length ko] 40))
      obtain ⟨q0, q1, q2, q3, q4, q5, q6, q7, q8, q9, q10, q11, q12, q13⟩ := row14 RE.out
      have Hm := Lib.hid (fun u : World => r26in_is hm u)
      have Hd := Lib.hid (fun u : World => r26in_is hd u)
      have Hwk := Lib.hid (fun u : World => r26in_is hwk u)
      have Hrk := Lib.hid (fun u : World => r26in_is hrk u)
      have Hse := Lib.hid (fun u : World => r17id_is hse u)
      have Hpr := Lib.hid (fun u : World => r17id_is hpr u)
      have HC := Lib.hid (fun (u : World) (v : Value) (h : TxAt u v eco) => r27ids h (List.all_eq_true.1 hco) hx1)
      have HM := Lib.hid (fun (u : World) (v : Value) (h : TxAt u v eom) => r27ids h (List.all_eq_true.1 hom) hx2)
      have d1 : ¬ ewd < 0 := by omega
      have d2 : ¬ 6 < ewd := by omega
      have d3 : ¬ eki < 1 := by omega
      have d4 : ¬ 3 < eki := by omega
      clear g1 t1 t2 hz hco hom hx1 hx2 lt1 hm hd hwk hrk hse hpr w1 w2 k1 k2 al
      have s0 : (wr.alloc (.cells #[.int .i64 ey, .int .i64 em, .int .i64 ed, .int .i64 ewd, .string ese, .int .i64 ewk, .int .i64 eki, .string epr, .int .i64 erk, .int .i64 efy, .int .i64 efm, .int .i64 efd, .slice ac eco.length kc, .slice ao eom.length ko] 40)).cell? ⟨w.heap.size, 0, none⟩ = some (.int .i64 ey) := by rw [cell_of_row _ _ _ _ _ _ (row_kept (row_kept R0.out hb) (al1 wr (.cells #[.int .i64 ey, .int .i64 em, .int .i64 ed, .int .i64 ewd, .string ese, .int .i64 ewk, .int .i64 eki, .string epr, .int .i64 erk, .int .i64 efy, .int .i64 efm, .int .i64 efd, .slice ac eco.length kc, .slice ao eom.length ko] 40)))]; rfl
      clear hb bc
      by_cases c3 : eki = 3
      · subst c3
        rw [if_pos rfl] at hf
        simp only [Bool.and_eq_true, decide_eq_true_eq] at hf
        obtain ⟨rfl, hfm, hfd⟩ := hf
        have Hfm := Lib.hid (fun u : World => r26in_is hfm u)
        have Hfd := Lib.hid (fun u : World => r26in_is hfd u)
        clear hfm hfd
        go_wp2_with fail
        refine (Hm.out _).mono ?_
        rintro e u ⟨rfl, rfl⟩
        go_wp2_with fail
        refine (Hd.out _).mono ?_
        rintro e u ⟨rfl, rfl⟩
        go_wp2_with fail
        refine (Hwk.out _).mono ?_
        rintro e u ⟨rfl, rfl⟩
        go_wp2_with fail
        refine (Hrk.out _).mono ?_
        rintro e u ⟨rfl, rfl⟩
        go_wp2_with fail
        refine (Hfm.out _).mono ?_
        rintro e u ⟨rfl, rfl⟩
        go_wp2_with fail
        refine (Hfd.out _).mono ?_
        rintro e u ⟨rfl, rfl⟩
        go_wp2_with fail
        refine (Hse.out _).mono ?_
        rintro e u ⟨rfl, rfl⟩
        go_wp2_with fail
        refine (Hpr.out _).mono ?_
        rintro e u ⟨rfl, rfl⟩
        go_wp2_with fail
        refine (HC.out _ _ TC.out).mono ?_
        rintro e u6 ⟨rfl, b6⟩
        clear p0 q0 p1 q1 p2 q2 p3 q3 p4 q4 p5 q5 p6 q6 p7 q7 p8 q8 p9 q9 p10 q10 p11 q11 p12 q12 p13 q13 s0 r0 r1
        have q13 : u6.cell? ⟨wr.heap.size, 13, none⟩ = some (.slice ao eom.length ko) := by rw [cell_of_row _ _ _ _ _ _ (row_kept RE.out b6)]; rfl
        have TO6 := TO.out.on b6
        have BA6 := Lib.hid (below_on BA.out b6)
        clear b6
        go_wp2_with fail
        refine (HM.out _ _ TO6).mono ?_
        rintro e u7 ⟨rfl, b7⟩
        have BA7 := below_on BA6.out b7
        clear b7
        go_wp2_with fail
        go_roundw
        case rel => exact ⟨k + 1, by omega, by go_num, BA7⟩
        case measure => simp [intOf]; omega
      · rw [if_neg c3] at hf
        simp only [Bool.and_eq_true, decide_eq_true_eq] at hf
        obtain ⟨rfl, rfl, rfl⟩ := hf
        have cb : (eki == 3) = false := beq_eq_false_iff_ne.2 c3
        have cn : (eki != 3) = true := by simp [bne, cb]
        go_wp2_with fail
        refine (Hm.out _).mono ?_
        rintro e u ⟨rfl, rfl⟩
        go_wp2_with fail
        refine (Hd.out _).mono ?_
        rintro e u ⟨rfl, rfl⟩
        go_wp2_with fail
        refine (Hwk.out _).mono ?_
        rintro e u ⟨rfl, rfl⟩
        go_wp2_with fail
        refine (Hrk.out _).mono ?_
        rintro e u ⟨rfl, rfl⟩
        go_wp2_with fail
        refine (Hse.out _).mono ?_
        rintro e u ⟨rfl, rfl⟩
        go_wp2_with fail
        refine (Hpr.out _).mono ?_
        rintro e u ⟨rfl, rfl⟩
        go_wp2_with fail
        refine (HC.out _ _ TC.out).mono ?_
        rintro e u6 ⟨rfl, b6⟩
        clear p0 q0 p1 q1 p2 q2 p3 q3 p4 q4 p5 q5 p6 q6 p7 q7 p8 q8 p9 q9 p10 q10 p11 q11 p12 q12 p13 q13 s0 r0 r1
        have q13 : u6.cell? ⟨wr.heap.size, 13, none⟩ = some (.slice ao eom.length ko) := by rw [cell_of_row _ _ _ _ _ _ (row_kept RE.out b6)]; rfl
        have TO6 := TO.out.on b6
        have BA6 := Lib.hid (below_on BA.out b6)
        clear b6
        go_wp2_with fail
        refine (HM.out _ _ TO6).mono ?_
        rintro e u7 ⟨rfl, b7⟩
        have BA7 := below_on BA6.out b7
        clear b7
        go_wp2_with fail
        go_roundw
        case rel => exact ⟨k + 1, by omega, by go_num, BA7⟩
        case measure => simp [intOf]; omega
    · obtain rfl : k = l.length := by omega
      go_wp2_with fail
      go_ret
      exact ⟨rfl, bc⟩

theorem txs2_size {w : ByteArray} (hw : 1 ≤ w.size) : ∀ l : List ByteArray, l.length ≤ (txs2 w l).size
  | [] => Nat.zero_le _
  | s :: l => by
    have := txs2_size hw l
    show l.length + 1 ≤ (w ++ (s ++ txs2 w l)).size
    rw [ByteArray.size_append, ByteArray.size_append]; omega
theorem txE_len (e : Ent) : e.co.length + e.om.length ≤ (txE e).size := by
  have h1 := txs2_size (w := wWi) (by decide) e.co
  have h2 := txs2_size (w := wWo) (by decide) e.om
  unfold txE txOt
  simp only [ByteArray.size_append]
  omega
theorem txEs_mem : ∀ (l : List Ent) (e : Ent), e ∈ l → (wDay ++ txE e).size ≤ (txEs l).size
  | [], _, h => by cases h
  | x :: l, e, h => by
    show (wDay ++ txE e).size ≤ ((wDay ++ txE x) ++ txEs l).size
    rw [ByteArray.size_append (a := wDay ++ txE x)]
    rcases List.mem_cons.1 h with rfl | h
    · omega
    · have := txEs_mem l e h; omega
theorem txEs_len : ∀ l : List Ent, l.length ≤ (txEs l).size
  | [] => Nat.zero_le _
  | x :: l => by
    have := txEs_len l
    have h3 : wDay.size = 3 := rfl
    show l.length + 1 ≤ ((wDay ++ txE x) ++ txEs l).size
    rw [ByteArray.size_append, ByteArray.size_append]; omega
/-- What a printable calendar whose text is not too long keeps. -/
theorem okK_parts {k : Kal} (ho : okK k = true) (hz : (txK k).size ≤ 40000) : inT k.y = true ∧ k.es.length ≤ 1000000 ∧ (∀ e ∈ k.es, LnOk e) ∧ ∀ e ∈ k.es, e.co.length ≤ 1000000 ∧ e.om.length ≤ 1000000 := by
  unfold okK at ho
  rw [Bool.and_eq_true] at ho
  have h1 := (txK_size k).1
  have h2 := txEs_len k.es
  have key : ∀ e ∈ k.es, (wDay ++ txE e).size ≤ 40000 := fun e he => by have := txEs_mem k.es e he; omega
  have len : ∀ e ∈ k.es, e.co.length + e.om.length ≤ 40000 := fun e he => by
    have a := key e he
    have b := txE_len e
    rw [ByteArray.size_append] at a
    omega
  refine ⟨ho.1, by omega, fun e he => .of (y := k.y) (List.all_eq_true.1 ho.2 e he) (len e he) ?_, fun e he => by have := len e he; omega⟩
  have a := key e he
  rw [txL_txE, ByteArray.size_append] at a
  omega
set_option maxRecDepth 100000 in
set_option maxHeartbeats 2000000 in
theorem l27a_any (S : ByteArray) (W : World) (hT : T26 W) : Calls Tryz.prog 5 #[.string S] W fun e w' => e = .returned (.bool true) ∧ Below W.heap.size W w' := by
  have HA := Lib.hid (fun (u : World) (h : T26 u) => c27awake_any u h)
  have hT := Lib.hid hT
  by_cases hlen : S.size ≤ 30000
  · have c5 : ¬ (30000 : Int) < (S.size : Int) := by omega
    have HP := Lib.hid (fun (u : World) (h : T26 u) (hb : (kEnd 30002 S).b = false) => p27par_yes (S := S) (N := 30002) (w := u) (by omega) (by omega) (by omega) h.wk hb)
    have HN := Lib.hid (fun (u : World) (h : T26 u) (hb : (kEnd 30002 S).b = true) => p27par_no (S := S) (N := 30002) (w := u) (by omega) (by omega) (by omega) h.wk hb)
    have HO := Lib.hid (fun hb => kbody_so (S := S) (N := 30002) hb)
    have hke := kEnd_le 30002 S
    obtain ⟨B, hB⟩ : ∃ B, (kBody 30002 S ⟨0, false⟩).1 = B := ⟨_, rfl⟩
    rw [hB] at HP HO
    clear hB
    have HZ := Lib.hid (fun (u : World) => r23same (yr := 0) (KlAt.nil u) (KlAt.nil u) rfl (by simp) (by simp))
    obtain ⟨⟨ek, eb⟩, hE⟩ : ∃ E, kEnd 30002 S = E := ⟨_, rfl⟩
    rw [hE] at HP HN HO hke
    simp only at HP HN HO hke
    clear hE
    cases eb
    · obtain ⟨o1, o2⟩ := HO.out rfl
      obtain ⟨yr, es⟩ := B
      obtain ⟨oy, on, ol, ox⟩ := okK_parts o1 (by rw [← o2]; omega)
      simp only at oy on ol ox HP
      have HR := Lib.hid (fun (u : World) (v : Value) (l : List Enz) (h : KlAt u v l) (hl : l.map Enz.e = es) => r27prn_yes (yr := yr) h hl o1 on ox)
      have HQ := Lib.hid (fun (u : World) (v : Value) (l : List Enz) (hT : T26 u) (h : KlAt u v l) (hl : l.map Enz.e = es) => o2.symm ▸ p27pri (yr := yr) hT h hl oy ol (by rw [← o2]; omega) on)
      clear HO o1 o2 oy on ol ox
      go_enter Tryz.func5, Tryz.ntmps5
      go_wp2_with fail
      refine (HA.out _ hT.out).mono ?_
      rintro e u1 ⟨rfl, hb1⟩
      have B1 := Lib.hid hb1
      clear hb1
      go_wp2_with fail
      refine (HP.out _ (hT.out.on B1.out) (by first | rfl | trivial)).mono ?_
      rintro e u2 ⟨v, l, rfl, hK, hl, hb2⟩
      have hK0 := hK
      obtain ⟨A, c, rfl, -⟩ := hK0
      have hl := Lib.hid hl
      have al := al1 u2 (.cells #[.int .i64 yr, .slice A l.length c] 25)
      have B2x := Lib.hid (below_on (below_on B1.out hb2) al)
      have K2 := Lib.hid (hK.on al)
      have R2 := heap_alloc_new u2 (.cells #[.int .i64 yr, .slice A l.length c] 25)
      clear hK hb2 B1 al
      have a0 : (u2.alloc (.cells #[.int .i64 yr, .slice A l.length c] 25)).cell? ⟨u2.heap.size, 0, none⟩ = some (.int .i64 yr) := by rw [cell_of_row _ _ _ _ _ _ R2]; rfl
      have a1 : (u2.alloc (.cells #[.int .i64 yr, .slice A l.length c] 25)).cell? ⟨u2.heap.size, 1, none⟩ = some (.slice A l.length c) := by rw [cell_of_row _ _ _ _ _ _ R2]; rfl
      have R2 := Lib.hid R2
      go_wp2_with fail
      clear a0 a1
      refine (HR.out _ _ l K2.out hl.out).mono ?_
      rintro e u3 ⟨rfl, hb3⟩
      have B3 := Lib.hid (below_on B2x.out hb3)
      have K3 := Lib.hid (K2.out.on hb3)
      have R3 := row_kept R2.out hb3
      clear hb3 B2x K2 R2
      have a0 : u3.cell? ⟨u2.heap.size, 0, none⟩ = some (.int .i64 yr) := by rw [cell_of_row _ _ _ _ _ _ R3]; rfl
      have a1 : u3.cell? ⟨u2.heap.size, 1, none⟩ = some (.slice A l.length c) := by rw [cell_of_row _ _ _ _ _ _ R3]; rfl
      clear R3
      go_wp2_with fail
      clear a0 a1
      refine (HQ.out _ _ l (hT.out.on B3.out) K3.out hl.out).mono ?_
      rintro e u4 ⟨rfl, hb4⟩
      have B4 := Lib.hid (below_on B3.out hb4)
      clear hb4 B3 K3
      go_wp2_with fail
      go_ret
      exact ⟨ret_bool (by simp), B4.out⟩
    · have c6 : (ek : Int) ≤ (S.size : Int) := by omega
      have c7 : (0 : Int) ≤ (ek : Int) := by omega
      go_enter Tryz.func5, Tryz.ntmps5
      go_wp2_with fail
      refine (HA.out _ hT.out).mono ?_
      rintro e u1 ⟨rfl, hb1⟩
      have B1 := Lib.hid hb1
      clear hb1
      go_wp2_with fail
      refine (HN.out _ (hT.out.on B1.out) (by first | rfl | trivial)).mono ?_
      rintro e u2 ⟨rfl, hb2⟩
      have B2x := Lib.hid (below_on (below_on B1.out hb2) (al1 u2 (.cells #[.int .i64 0, .slice none 0 0] 25)))
      have R2 := heap_alloc_new u2 (.cells #[.int .i64 0, .slice none 0 0] 25)
      clear hb2 B1
      have a0 : (u2.alloc (.cells #[.int .i64 0, .slice none 0 0] 25)).cell? ⟨u2.heap.size, 0, none⟩ = some (.int .i64 0) := by rw [cell_of_row _ _ _ _ _ _ R2]; rfl
      have a1 : (u2.alloc (.cells #[.int .i64 0, .slice none 0 0] 25)).cell? ⟨u2.heap.size, 1, none⟩ = some (.slice none 0 0) := by rw [cell_of_row _ _ _ _ _ _ R2]; rfl
      clear R2
      go_wp2_with fail
      refine (HZ.out _).mono ?_
      rintro e u3 ⟨rfl, hb3⟩
      have B3 := Lib.hid (below_on B2x.out hb3)
      clear hb3 B2x a0 a1
      go_wp2_with fail
      go_ret
      exact ⟨ret_bool (by simp), B3.out⟩
  · have c5 : (30000 : Int) < (S.size : Int) := by omega
    go_enter Tryz.func5, Tryz.ntmps5
    go_wp2_with fail
    refine (HA.out _ hT.out).mono ?_
    rintro e u1 ⟨rfl, hb1⟩
    have B1 := Lib.hid hb1
    clear hb1
    go_wp2_with fail
    refine (HA.out _ (hT.out.on B1.out)).mono ?_
    rintro e u2 ⟨rfl, hb2⟩
    have B2x := Lib.hid (below_on B1.out hb2)
    clear hb2 B1
    go_wp2_with fail
    go_ret
    exact ⟨rfl, B2x.out⟩
end Go.Proofs.YtkhicgafhbecfaaGreatDoor
