/- Package ordotext: an identifier, the closures that read an entry's parts. -/
import Derived.Test.YtkhicgafhbecfaaGreatDoorEj
namespace Go.Proofs.YtkhicgafhbecfaaGreatDoor
open Go.RowKit

set_option maxRecDepth 100000 in
theorem p27ide {S : ByteArray} {b : Nat} {x : Sc} {w : World} (h : w.heap[b]? = some (scX S x)) (hk : x.k ≤ S.size) (hs : S.size ≤ 100000) :
    Calls Tryz.prog 94 #[pv b] w fun r w' => r = .returned (.string (yI S x).1) ∧ w'.heap[b]? = some (scX S (yI S x).2) ∧ Bt b w w' := by
  have H1 := Lib.hid (fun (u : World) (h : u.heap[b]? = some (scX S x)) => xi_sc h hk (lt_big hs))
  have H2 := Lib.hid (fun u : World => p26clo (yI S x).1 (Nat.le_trans (yI_small hk) (by decide)) u)
  have rs := row_kept h (al1 w (bxQ b))
  go_enter Tryz.func94, Tryz.ntmps94
  go_wp2_with fail
  obtain ⟨u, hu⟩ : ∃ u, u = w.alloc (bxQ b) := ⟨_, rfl⟩
  have B0 : Below w.heap.size w u := hu ▸ al1 w _
  rw [← hu] at rs ⊢
  clear hu
  refine (H1.out u rs).mono ?_
  rintro e1 w1 ⟨rfl, r1, g1⟩
  go_wp2_with fail
  refine (H2.out _).mono ?_
  rintro e2 w2 ⟨rfl, g2⟩
  go_wp2_with fail
  go_ret
  exact ⟨rfl, row_kept r1 g2, ((Bt.of_below B0).trans g1).trans (.of_below g2)⟩
theorem kw_wrap (S : ByteArray) (x : Sc) : IntKind.i64.wrap (1 + (yW lKi S x).1) = 1 + (yW lKi S x).1 := by
  have h : (yW lKi S x).1 = -1 ∨ (0 ≤ (yW lKi S x).1 ∧ (yW lKi S x).1 < 3) := by
    obtain ⟨k, b⟩ := x
    cases b
    · show wdI S k lKi = -1 ∨ (0 ≤ wdI S k lKi ∧ wdI S k lKi < 3)
      unfold wdI
      cases e : wdF S k lKi with
      | none => exact .inl rfl
      | some i => exact .inr ⟨by show (0 : Int) ≤ i; omega, by have := (wdF_some e).1; show (i : Int) < 3; have e3 : lKi.length = 3 := rfl; omega⟩
    · exact .inl rfl
  rw [IntKind.wrap_i64]
  omega
/-- What the closures of parts find: the scanner, the two boxes, the entry. -/
structure C27 (S : ByteArray) (b E P0 E0 : Nat) (w0 : World) (x : Sc) (ev : Array Value) (u : World) : Prop where
  s : u.heap[b]? = some (scX S x)
  v : u.heap[E]? = some (.cells ev 40 (0, 0))
  p : u.heap[P0]? = some (bxQ b)
  e : u.heap[E0]? = some (.cells #[.pointer (some ⟨E, 0, none⟩)] 99 (0, 0))
  bl : B2 b E w0 u
  t : WTab u
  o1 : b < E
  o2 : E < P0
  o3 : P0 < E0
  tE : 0 ≠ E
section
variable {S : ByteArray} {b E P0 E0 : Nat} {w0 u u' : World} {x y : Sc} {ev : Array Value}
theorem C27.below (h : C27 S b E P0 E0 w0 x ev u) (hb : Below u.heap.size u u') : C27 S b E P0 E0 w0 x ev u' :=
  ⟨row_kept h.s hb, row_kept h.v hb, row_kept h.p hb, row_kept h.e hb, h.bl.trans (.bl hb), h.t.on hb, h.o1, h.o2, h.o3, h.tE⟩
theorem C27.call (h : C27 S b E P0 E0 w0 x ev u) (hs : u'.heap[b]? = some (scX S y)) (hb : Bt b u u') : C27 S b E P0 E0 w0 y ev u' :=
  ⟨hs, hb.row (by have := h.o1; omega) h.v, hb.row (by have := h.o1; have := h.o2; omega) h.p, hb.row (by have := h.o1; have := h.o2; have := h.o3; omega) h.e, h.bl.trans (.bt hb), h.t.mv hb (ne_scan h.t h.s), h.o1, h.o2, h.o3, h.tE⟩
theorem C27.put (h : C27 S b E P0 E0 w0 x ev u) (o : Nat) (v : Value) : C27 S b E P0 E0 w0 x (ev.setIfInBounds o v) (u.setCell ⟨E, o, none⟩ v) :=
  have g := Bt.set E u o v
  ⟨g.row (by have := h.o1; omega) h.s, heap_setCell_same u E o _ _ v h.v, g.row (by have := h.o2; omega) h.p, g.row (by have := h.o2; have := h.o3; omega) h.e, h.bl.trans (.bq g), h.t.mv g h.tE, h.o1, h.o2, h.o3, h.tE⟩
theorem C27.cells (h : C27 S b E P0 E0 w0 x ev u) : u.cell? ⟨P0, 0, none⟩ = some (xp b) ∧ u.cell? ⟨E0, 0, none⟩ = some (.pointer (some ⟨E, 0, none⟩)) :=
  ⟨by rw [cell_of_row _ _ _ _ _ _ h.p]; rfl, by rw [cell_of_row _ _ _ _ _ _ h.e]; rfl⟩
theorem C27.off (h : C27 S b E P0 E0 w0 x ev u) {o : Nat} {v : Value} (ho : ev[o]? = some v) : u.cell? ⟨E, o, none⟩ = some v ∧ u.frozen? ⟨E, o, none⟩ = false :=
  ⟨by rw [cell_of_row _ _ _ _ _ _ h.v]; exact ho, frozen_of_row _ _ _ _ _ h.v⟩
end
set_option maxRecDepth 100000 in
set_option maxHeartbeats 1000000 in
theorem p27c1 {S : ByteArray} {b E P0 E0 : Nat} {w0 w : World} {x : Sc} {ev : Array Value} {v0 : Value} (h : C27 S b E P0 E0 w0 x ev w) (hk : x.k ≤ S.size) (hs : S.size ≤ 100000) (hv : ev[1]? = some v0) :
    Calls Tryz.prog 89 #[.pointer (some ⟨P0, 0, none⟩), .pointer (some ⟨E0, 0, none⟩)] w fun r w' => r = .returned (.tuple #[]) ∧ C27 S b E P0 E0 w0 (yNu S x).2 (ev.setIfInBounds 1 (.int .i64 (yNu S x).1)) w' := by
  have HC := Lib.hid (fun (u : World) (h : u.heap[b]? = some (scX S x)) => xn_sc h hk (lt_big hs))
  generalize yNu S x = z at *
  obtain ⟨n, z⟩ := z
  skip
  have S0 := Lib.hid (h.below (below_dn (Below.refl _ _) 1))
  clear h
  go_enter Tryz.func89, Tryz.ntmps89
  go_wp2_with fail
  refine wp_region_held_drew (S := fun u => ∃ x ev, C27 S b E P0 E0 w0 x ev u) (by kernel_rfl) ⟨_, _, S0.out⟩ (fun hHeld => ?_)
  refine wpAnyH_take (i := 0) (oi := { dst := some 2, op := _, type := _, pos := _, after := _, guard := _ }) (v := ?v1_0) rfl (by kernel_rfl) (by kernel_rfl) (by kernel_rfl) (fun _ _ _ h => h) (Or.inl ⟨by rfl, ?hy1_0⟩) hHeld ?_
  case hy1_0 => (intro w hSw; obtain ⟨_, _, hSw⟩ := hSw; obtain ⟨s0, s1⟩ := (C27.cells hSw); go_simp; try with_reducible rfl)
  simp only [Act.put, List.setIfInBounds_toArray, List.set_cons_zero, List.set_cons_succ]
  refine wpAnyH_take (i := 1) (oi := { dst := some 3, op := _, type := _, pos := _, after := _, guard := _ }) (v := ?v1_1) rfl (by kernel_rfl) (by kernel_rfl) (by kernel_rfl) (fun _ _ _ h => h) (Or.inl ⟨by rfl, ?hy1_1⟩) hHeld ?_
  case hy1_1 => (intro w hSw; obtain ⟨_, _, hSw⟩ := hSw; obtain ⟨s0, s1⟩ := (C27.cells hSw); go_simp; try with_reducible rfl)
  simp only [Act.put, List.setIfInBounds_toArray, List.set_cons_zero, List.set_cons_succ]
  refine wpAnyH_take (i := 2) (oi := { dst := some 4, op := _, type := _, pos := _, after := _, guard := _ }) (v := ?v1_2) rfl (by kernel_rfl) (by kernel_rfl) (by kernel_rfl) (fun _ _ _ h => h) (Or.inl ⟨by rfl, ?hy1_2⟩) hHeld ?_
  case hy1_2 => (intro w hSw; obtain ⟨_, _, hSw⟩ := hSw; obtain ⟨s0, s1⟩ := (C27.cells hSw); go_simp; try with_reducible rfl)
  simp only [Act.put, List.setIfInBounds_toArray, List.set_cons_zero, List.set_cons_succ]
  refine wpAnyH_ready (rs := [3]) (by kernel_rfl) (by simp) ?_
  refine AllReadyH.cons (o := { dst := some 5, op := _, type := _, pos := _, after := _, guard := _ }) rfl (fun K hK => ?_) AllReadyH.nil
  go_simp
  go_at_call 44
  refine (HC.out _ S0.out.s).mono ?_
  rintro ee u1 ⟨rfl, r1, g1⟩
  have C1 := S0.out.call r1 g1
  have C2 := C1.put 1 (.int .i64 n)
  obtain ⟨k0, k1⟩ := C1.off hv
  clear r1 g1
  refine hK.out _ _ ⟨_, _, C1⟩ (fun hHeld => ?_)
  clear hK K
  refine wpAnyH_take (i := 4) (oi := { dst := some 6, op := _, type := _, pos := _, after := _, guard := _ }) (v := ?v2_4) rfl (by kernel_rfl) (by kernel_rfl) (by kernel_rfl) (fun _ _ _ h => h) (Or.inl ⟨by rfl, ?hy2_4⟩) hHeld ?_
  case hy2_4 => (intro w hSw; obtain ⟨_, _, hSw⟩ := hSw; obtain ⟨s0, s1⟩ := (C27.cells hSw); go_simp; try with_reducible rfl)
  simp only [Act.put, List.setIfInBounds_toArray, List.set_cons_zero, List.set_cons_succ]
  refine wpAnyH_take (i := 5) (oi := { dst := some 7, op := _, type := _, pos := _, after := _, guard := _ }) (v := ?v2_5) rfl (by kernel_rfl) (by kernel_rfl) (by kernel_rfl) (fun _ _ _ h => h) (Or.inl ⟨by rfl, ?hy2_5⟩) hHeld ?_
  case hy2_5 => (intro w hSw; obtain ⟨_, _, hSw⟩ := hSw; obtain ⟨s0, s1⟩ := (C27.cells hSw); go_simp; try with_reducible rfl)
  simp only [Act.put, List.setIfInBounds_toArray, List.set_cons_zero, List.set_cons_succ]
  refine wpAnyH_take (i := 6) (oi := { dst := some 8, op := _, type := _, pos := _, after := _, guard := _ }) (v := ?v2_6) rfl (by kernel_rfl) (by kernel_rfl) (by kernel_rfl) (fun _ _ _ h => h) (Or.inl ⟨by rfl, ?hy2_6⟩) hHeld ?_
  case hy2_6 => (intro w hSw; obtain ⟨_, _, hSw⟩ := hSw; obtain ⟨s0, s1⟩ := (C27.cells hSw); go_simp; try with_reducible rfl)
  simp only [Act.put, List.setIfInBounds_toArray, List.set_cons_zero, List.set_cons_succ]
  refine wpAnyH_ready (rs := [7]) (by kernel_rfl) (by simp) ?_
  refine AllReadyH.cons (o := { dst := none, op := _, type := _, pos := _, after := _, guard := _ }) rfl (fun K hK => ?_) AllReadyH.nil
  go_simp
  refine hK.out _ _ ⟨_, _, C2⟩ (fun hHeld => ?_)
  clear hK K
  refine wpAnyH_done (by kernel_rfl) ?_ _
  go_wp2_with fail
  go_end0
  exact ⟨rfl, C2⟩
set_option maxRecDepth 100000 in
set_option maxHeartbeats 1000000 in
theorem p27c2 {S : ByteArray} {b E P0 E0 : Nat} {w0 w : World} {x : Sc} {ev : Array Value} {v0 : Value} (h : C27 S b E P0 E0 w0 x ev w) (hk : x.k ≤ S.size) (hs : S.size ≤ 100000) (hv : ev[2]? = some v0) :
    Calls Tryz.prog 90 #[.pointer (some ⟨P0, 0, none⟩), .pointer (some ⟨E0, 0, none⟩)] w fun r w' => r = .returned (.tuple #[]) ∧ C27 S b E P0 E0 w0 (yNu S x).2 (ev.setIfInBounds 2 (.int .i64 (yNu S x).1)) w' := by
  have HC := Lib.hid (fun (u : World) (h : u.heap[b]? = some (scX S x)) => xn_sc h hk (lt_big hs))
  generalize yNu S x = z at *
  obtain ⟨n, z⟩ := z
  skip
  have S0 := Lib.hid (h.below (below_dn (Below.refl _ _) 1))
  clear h
  go_enter Tryz.func90, Tryz.ntmps90
  go_wp2_with fail
  refine wp_region_held_drew (S := fun u => ∃ x ev, C27 S b E P0 E0 w0 x ev u) (by kernel_rfl) ⟨_, _, S0.out⟩ (fun hHeld => ?_)
  refine wpAnyH_take (i := 0) (oi := { dst := some 2, op := _, type := _, pos := _, after := _, guard := _ }) (v := ?v3_0) rfl (by kernel_rfl) (by kernel_rfl) (by kernel_rfl) (fun _ _ _ h => h) (Or.inl ⟨by rfl, ?hy3_0⟩) hHeld ?_
  case hy3_0 => (intro w hSw; obtain ⟨_, _, hSw⟩ := hSw; obtain ⟨s0, s1⟩ := (C27.cells hSw); go_simp; try with_reducible rfl)
  simp only [Act.put, List.setIfInBounds_toArray, List.set_cons_zero, List.set_cons_succ]
  refine wpAnyH_take (i := 1) (oi := { dst := some 3, op := _, type := _, pos := _, after := _, guard := _ }) (v := ?v3_1) rfl (by kernel_rfl) (by kernel_rfl) (by kernel_rfl) (fun _ _ _ h => h) (Or.inl ⟨by rfl, ?hy3_1⟩) hHeld ?_
  case hy3_1 => (intro w hSw; obtain ⟨_, _, hSw⟩ := hSw; obtain ⟨s0, s1⟩ := (C27.cells hSw); go_simp; try with_reducible rfl)
  simp only [Act.put, List.setIfInBounds_toArray, List.set_cons_zero, List.set_cons_succ]
  refine wpAnyH_take (i := 2) (oi := { dst := some 4, op := _, type := _, pos := _, after := _, guard := _ }) (v := ?v3_2) rfl (by kernel_rfl) (by kernel_rfl) (by kernel_rfl) (fun _ _ _ h => h) (Or.inl ⟨by rfl, ?hy3_2⟩) hHeld ?_
  case hy3_2 => (intro w hSw; obtain ⟨_, _, hSw⟩ := hSw; obtain ⟨s0, s1⟩ := (C27.cells hSw); go_simp; try with_reducible rfl)
  simp only [Act.put, List.setIfInBounds_toArray, List.set_cons_zero, List.set_cons_succ]
  refine wpAnyH_ready (rs := [3]) (by kernel_rfl) (by simp) ?_
  refine AllReadyH.cons (o := { dst := some 5, op := _, type := _, pos := _, after := _, guard := _ }) rfl (fun K hK => ?_) AllReadyH.nil
  go_simp
  go_at_call 44
  refine (HC.out _ S0.out.s).mono ?_
  rintro ee u1 ⟨rfl, r1, g1⟩
  have C1 := S0.out.call r1 g1
  have C2 := C1.put 2 (.int .i64 n)
  obtain ⟨k0, k1⟩ := C1.off hv
  clear r1 g1
  refine hK.out _ _ ⟨_, _, C1⟩ (fun hHeld => ?_)
  clear hK K
  refine wpAnyH_take (i := 4) (oi := { dst := some 6, op := _, type := _, pos := _, after := _, guard := _ }) (v := ?v4_4) rfl (by kernel_rfl) (by kernel_rfl) (by kernel_rfl) (fun _ _ _ h => h) (Or.inl ⟨by rfl, ?hy4_4⟩) hHeld ?_
  case hy4_4 => (intro w hSw; obtain ⟨_, _, hSw⟩ := hSw; obtain ⟨s0, s1⟩ := (C27.cells hSw); go_simp; try with_reducible rfl)
  simp only [Act.put, List.setIfInBounds_toArray, List.set_cons_zero, List.set_cons_succ]
  refine wpAnyH_take (i := 5) (oi := { dst := some 7, op := _, type := _, pos := _, after := _, guard := _ }) (v := ?v4_5) rfl (by kernel_rfl) (by kernel_rfl) (by kernel_rfl) (fun _ _ _ h => h) (Or.inl ⟨by rfl, ?hy4_5⟩) hHeld ?_
  case hy4_5 => (intro w hSw; obtain ⟨_, _, hSw⟩ := hSw; obtain ⟨s0, s1⟩ := (C27.cells hSw); go_simp; try with_reducible rfl)
  simp only [Act.put, List.setIfInBounds_toArray, List.set_cons_zero, List.set_cons_succ]
  refine wpAnyH_take (i := 6) (oi := { dst := some 8, op := _, type := _, pos := _, after := _, guard := _ }) (v := ?v4_6) rfl (by kernel_rfl) (by kernel_rfl) (by kernel_rfl) (fun _ _ _ h => h) (Or.inl ⟨by rfl, ?hy4_6⟩) hHeld ?_
  case hy4_6 => (intro w hSw; obtain ⟨_, _, hSw⟩ := hSw; obtain ⟨s0, s1⟩ := (C27.cells hSw); go_simp; try with_reducible rfl)
  simp only [Act.put, List.setIfInBounds_toArray, List.set_cons_zero, List.set_cons_succ]
  refine wpAnyH_ready (rs := [7]) (by kernel_rfl) (by simp) ?_
  refine AllReadyH.cons (o := { dst := none, op := _, type := _, pos := _, after := _, guard := _ }) rfl (fun K hK => ?_) AllReadyH.nil
  go_simp
  refine hK.out _ _ ⟨_, _, C2⟩ (fun hHeld => ?_)
  clear hK K
  refine wpAnyH_done (by kernel_rfl) ?_ _
  go_wp2_with fail
  go_end0
  exact ⟨rfl, C2⟩
set_option maxRecDepth 100000 in
set_option maxHeartbeats 1000000 in
theorem p27c3 {S : ByteArray} {b E P0 E0 : Nat} {w0 w : World} {x : Sc} {ev : Array Value} {v0 : Value} (h : C27 S b E P0 E0 w0 x ev w) (hk : x.k ≤ S.size) (hs : S.size ≤ 100000) (hv : ev[3]? = some v0) :
    Calls Tryz.prog 91 #[.pointer (some ⟨P0, 0, none⟩), .pointer (some ⟨E0, 0, none⟩)] w fun r w' => r = .returned (.tuple #[]) ∧ C27 S b E P0 E0 w0 (yW lWd S x).2 (ev.setIfInBounds 3 (.int .i64 (yW lWd S x).1)) w' := by
  have HL := Lib.hid (fun (u : World) (h : WTab u) => ww27 u h)
  have HC := Lib.hid (fun (u : World) (g : Nat) (h : u.heap[b]? = some (scX S x)) (hI : StrsIn g 7 lWd u) (hg : g ≠ b) => xw_sc h hk (lt_big hs) hI hg wds_lWd)
  generalize yW lWd S x = z at *
  obtain ⟨n, z⟩ := z
  skip
  have S0 := Lib.hid (h.below (below_dn (Below.refl _ _) 1))
  clear h
  go_enter Tryz.func91, Tryz.ntmps91
  go_wp2_with fail
  refine wp_region_held_drew (S := fun u => ∃ x ev, C27 S b E P0 E0 w0 x ev u) (by kernel_rfl) ⟨_, _, S0.out⟩ (fun hHeld => ?_)
  refine wpAnyH_take (i := 0) (oi := { dst := some 2, op := _, type := _, pos := _, after := _, guard := _ }) (v := ?v5_0) rfl (by kernel_rfl) (by kernel_rfl) (by kernel_rfl) (fun _ _ _ h => h) (Or.inl ⟨by rfl, ?hy5_0⟩) hHeld ?_
  case hy5_0 => (intro w hSw; obtain ⟨_, _, hSw⟩ := hSw; obtain ⟨s0, s1⟩ := (C27.cells hSw); go_simp; try with_reducible rfl)
  simp only [Act.put, List.setIfInBounds_toArray, List.set_cons_zero, List.set_cons_succ]
  refine wpAnyH_take (i := 1) (oi := { dst := some 3, op := _, type := _, pos := _, after := _, guard := _ }) (v := ?v5_1) rfl (by kernel_rfl) (by kernel_rfl) (by kernel_rfl) (fun _ _ _ h => h) (Or.inl ⟨by rfl, ?hy5_1⟩) hHeld ?_
  case hy5_1 => (intro w hSw; obtain ⟨_, _, hSw⟩ := hSw; obtain ⟨s0, s1⟩ := (C27.cells hSw); go_simp; try with_reducible rfl)
  simp only [Act.put, List.setIfInBounds_toArray, List.set_cons_zero, List.set_cons_succ]
  refine wpAnyH_take (i := 2) (oi := { dst := some 4, op := _, type := _, pos := _, after := _, guard := _ }) (v := ?v5_2) rfl (by kernel_rfl) (by kernel_rfl) (by kernel_rfl) (fun _ _ _ h => h) (Or.inl ⟨by rfl, ?hy5_2⟩) hHeld ?_
  case hy5_2 => (intro w hSw; obtain ⟨_, _, hSw⟩ := hSw; obtain ⟨s0, s1⟩ := (C27.cells hSw); go_simp; try with_reducible rfl)
  simp only [Act.put, List.setIfInBounds_toArray, List.set_cons_zero, List.set_cons_succ]
  refine wpAnyH_ready (rs := [3]) (by kernel_rfl) (by simp) ?_
  refine AllReadyH.cons (o := { dst := some 5, op := _, type := _, pos := _, after := _, guard := _ }) rfl (fun K hK => ?_) AllReadyH.nil
  go_simp
  go_at_call 92
  refine (HL.out _ S0.out.t).mono ?_
  rintro ee u0 ⟨rfl, hI, g0⟩
  have S1 := Lib.hid (S0.out.below g0)
  skip
  refine hK.out _ _ ⟨_, _, S1.out⟩ (fun hHeld => ?_)
  clear hK K
  refine wpAnyH_ready (rs := [4]) (by kernel_rfl) (by simp) ?_
  refine AllReadyH.cons (o := { dst := some 6, op := _, type := _, pos := _, after := _, guard := _ }) rfl (fun K hK => ?_) AllReadyH.nil
  go_simp
  go_at_call 43
  refine (HC.out _ _ S1.out.s hI (Nat.ne_of_gt (row_lt S0.out.s))).mono ?_
  rintro ee u1 ⟨rfl, r1, g1⟩
  have C1 := S1.out.call r1 g1
  have C2 := C1.put 3 (.int .i64 n)
  obtain ⟨k0, k1⟩ := C1.off hv
  clear r1 g1
  refine hK.out _ _ ⟨_, _, C1⟩ (fun hHeld => ?_)
  clear hK K
  refine wpAnyH_take (i := 5) (oi := { dst := some 7, op := _, type := _, pos := _, after := _, guard := _ }) (v := ?v6_5) rfl (by kernel_rfl) (by kernel_rfl) (by kernel_rfl) (fun _ _ _ h => h) (Or.inl ⟨by rfl, ?hy6_5⟩) hHeld ?_
  case hy6_5 => (intro w hSw; obtain ⟨_, _, hSw⟩ := hSw; obtain ⟨s0, s1⟩ := (C27.cells hSw); go_simp; try with_reducible rfl)
  simp only [Act.put, List.setIfInBounds_toArray, List.set_cons_zero, List.set_cons_succ]
  refine wpAnyH_take (i := 6) (oi := { dst := some 8, op := _, type := _, pos := _, after := _, guard := _ }) (v := ?v6_6) rfl (by kernel_rfl) (by kernel_rfl) (by kernel_rfl) (fun _ _ _ h => h) (Or.inl ⟨by rfl, ?hy6_6⟩) hHeld ?_
  case hy6_6 => (intro w hSw; obtain ⟨_, _, hSw⟩ := hSw; obtain ⟨s0, s1⟩ := (C27.cells hSw); go_simp; try with_reducible rfl)
  simp only [Act.put, List.setIfInBounds_toArray, List.set_cons_zero, List.set_cons_succ]
  refine wpAnyH_ready (rs := [7]) (by kernel_rfl) (by simp) ?_
  refine AllReadyH.cons (o := { dst := none, op := _, type := _, pos := _, after := _, guard := _ }) rfl (fun K hK => ?_) AllReadyH.nil
  go_simp
  refine hK.out _ _ ⟨_, _, C2⟩ (fun hHeld => ?_)
  clear hK K
  refine wpAnyH_done (by kernel_rfl) ?_ _
  go_wp2_with fail
  go_end0
  exact ⟨rfl, C2⟩
set_option maxRecDepth 100000 in
set_option maxHeartbeats 1000000 in
theorem p27c4 {S : ByteArray} {b E P0 E0 : Nat} {w0 w : World} {x : Sc} {ev : Array Value} {v0 : Value} (h : C27 S b E P0 E0 w0 x ev w) (hk : x.k ≤ S.size) (hs : S.size ≤ 100000) (hv : ev[4]? = some v0) :
    Calls Tryz.prog 93 #[.pointer (some ⟨P0, 0, none⟩), .pointer (some ⟨E0, 0, none⟩)] w fun r w' => r = .returned (.tuple #[]) ∧ C27 S b E P0 E0 w0 (yI S x).2 (ev.setIfInBounds 4 (.string (yI S x).1)) w' := by
  have HC := Lib.hid (fun (u : World) (h : u.heap[b]? = some (scX S x)) => p27ide h hk hs)
  generalize yI S x = z at *
  obtain ⟨n, z⟩ := z
  skip
  have S0 := Lib.hid (h.below (below_dn (Below.refl _ _) 1))
  clear h
  go_enter Tryz.func93, Tryz.ntmps93
  go_wp2_with fail
  refine wp_region_held_drew (S := fun u => ∃ x ev, C27 S b E P0 E0 w0 x ev u) (by kernel_rfl) ⟨_, _, S0.out⟩ (fun hHeld => ?_)
  refine wpAnyH_take (i := 0) (oi := { dst := some 2, op := _, type := _, pos := _, after := _, guard := _ }) (v := ?v7_0) rfl (by kernel_rfl) (by kernel_rfl) (by kernel_rfl) (fun _ _ _ h => h) (Or.inl ⟨by rfl, ?hy7_0⟩) hHeld ?_
  case hy7_0 => (intro w hSw; obtain ⟨_, _, hSw⟩ := hSw; obtain ⟨s0, s1⟩ := (C27.cells hSw); go_simp; try with_reducible rfl)
  simp only [Act.put, List.setIfInBounds_toArray, List.set_cons_zero, List.set_cons_succ]
  refine wpAnyH_take (i := 1) (oi := { dst := some 3, op := _, type := _, pos := _, after := _, guard := _ }) (v := ?v7_1) rfl (by kernel_rfl) (by kernel_rfl) (by kernel_rfl) (fun _ _ _ h => h) (Or.inl ⟨by rfl, ?hy7_1⟩) hHeld ?_
  case hy7_1 => (intro w hSw; obtain ⟨_, _, hSw⟩ := hSw; obtain ⟨s0, s1⟩ := (C27.cells hSw); go_simp; try with_reducible rfl)
  simp only [Act.put, List.setIfInBounds_toArray, List.set_cons_zero, List.set_cons_succ]
  refine wpAnyH_ready (rs := [2]) (by kernel_rfl) (by simp) ?_
  refine AllReadyH.cons (o := { dst := some 4, op := _, type := _, pos := _, after := _, guard := _ }) rfl (fun K hK => ?_) AllReadyH.nil
  go_simp
  go_at_call 94
  refine (HC.out _ S0.out.s).mono ?_
  rintro ee u1 ⟨rfl, r1, g1⟩
  have C1 := S0.out.call r1 g1
  have C2 := C1.put 4 (.string n)
  obtain ⟨k0, k1⟩ := C1.off hv
  clear r1 g1
  refine hK.out _ _ ⟨_, _, C1⟩ (fun hHeld => ?_)
  clear hK K
  refine wpAnyH_take (i := 3) (oi := { dst := some 5, op := _, type := _, pos := _, after := _, guard := _ }) (v := ?v8_3) rfl (by kernel_rfl) (by kernel_rfl) (by kernel_rfl) (fun _ _ _ h => h) (Or.inl ⟨by rfl, ?hy8_3⟩) hHeld ?_
  case hy8_3 => (intro w hSw; obtain ⟨_, _, hSw⟩ := hSw; obtain ⟨s0, s1⟩ := (C27.cells hSw); go_simp; try with_reducible rfl)
  simp only [Act.put, List.setIfInBounds_toArray, List.set_cons_zero, List.set_cons_succ]
  refine wpAnyH_take (i := 4) (oi := { dst := some 6, op := _, type := _, pos := _, after := _, guard := _ }) (v := ?v8_4) rfl (by kernel_rfl) (by kernel_rfl) (by kernel_rfl) (fun _ _ _ h => h) (Or.inl ⟨by rfl, ?hy8_4⟩) hHeld ?_
  case hy8_4 => (intro w hSw; obtain ⟨_, _, hSw⟩ := hSw; obtain ⟨s0, s1⟩ := (C27.cells hSw); go_simp; try with_reducible rfl)
  simp only [Act.put, List.setIfInBounds_toArray, List.set_cons_zero, List.set_cons_succ]
  refine wpAnyH_ready (rs := [5]) (by kernel_rfl) (by simp) ?_
  refine AllReadyH.cons (o := { dst := none, op := _, type := _, pos := _, after := _, guard := _ }) rfl (fun K hK => ?_) AllReadyH.nil
  go_simp
  refine hK.out _ _ ⟨_, _, C2⟩ (fun hHeld => ?_)
  clear hK K
  refine wpAnyH_done (by kernel_rfl) ?_ _
  go_wp2_with fail
  go_end0
  exact ⟨rfl, C2⟩
set_option maxRecDepth 100000 in
set_option maxHeartbeats 1000000 in
theorem p27c5 {S : ByteArray} {b E P0 E0 : Nat} {w0 w : World} {x : Sc} {ev : Array Value} {v0 : Value} (h : C27 S b E P0 E0 w0 x ev w) (hk : x.k ≤ S.size) (hs : S.size ≤ 100000) (hv : ev[5]? = some v0) :
    Calls Tryz.prog 95 #[.pointer (some ⟨P0, 0, none⟩), .pointer (some ⟨E0, 0, none⟩)] w fun r w' => r = .returned (.tuple #[]) ∧ C27 S b E P0 E0 w0 (yNu S x).2 (ev.setIfInBounds 5 (.int .i64 (yNu S x).1)) w' := by
  have HC := Lib.hid (fun (u : World) (h : u.heap[b]? = some (scX S x)) => xn_sc h hk (lt_big hs))
  generalize yNu S x = z at *
  obtain ⟨n, z⟩ := z
  skip
  have S0 := Lib.hid (h.below (below_dn (Below.refl _ _) 1))
  clear h
  go_enter Tryz.func95, Tryz.ntmps95
  go_wp2_with fail
  refine wp_region_held_drew (S := fun u => ∃ x ev, C27 S b E P0 E0 w0 x ev u) (by kernel_rfl) ⟨_, _, S0.out⟩ (fun hHeld => ?_)
  refine wpAnyH_take (i := 0) (oi := { dst := some 2, op := _, type := _, pos := _, after := _, guard := _ }) (v := ?v9_0) rfl (by kernel_rfl) (by kernel_rfl) (by kernel_rfl) (fun _ _ _ h => h) (Or.inl ⟨by rfl, ?hy9_0⟩) hHeld ?_
  case hy9_0 => (intro w hSw; obtain ⟨_, _, hSw⟩ := hSw; obtain ⟨s0, s1⟩ := (C27.cells hSw); go_simp; try with_reducible rfl)
  simp only [Act.put, List.setIfInBounds_toArray, List.set_cons_zero, List.set_cons_succ]
  refine wpAnyH_take (i := 1) (oi := { dst := some 3, op := _, type := _, pos := _, after := _, guard := _ }) (v := ?v9_1) rfl (by kernel_rfl) (by kernel_rfl) (by kernel_rfl) (fun _ _ _ h => h) (Or.inl ⟨by rfl, ?hy9_1⟩) hHeld ?_
  case hy9_1 => (intro w hSw; obtain ⟨_, _, hSw⟩ := hSw; obtain ⟨s0, s1⟩ := (C27.cells hSw); go_simp; try with_reducible rfl)
  simp only [Act.put, List.setIfInBounds_toArray, List.set_cons_zero, List.set_cons_succ]
  refine wpAnyH_take (i := 2) (oi := { dst := some 4, op := _, type := _, pos := _, after := _, guard := _ }) (v := ?v9_2) rfl (by kernel_rfl) (by kernel_rfl) (by kernel_rfl) (fun _ _ _ h => h) (Or.inl ⟨by rfl, ?hy9_2⟩) hHeld ?_
  case hy9_2 => (intro w hSw; obtain ⟨_, _, hSw⟩ := hSw; obtain ⟨s0, s1⟩ := (C27.cells hSw); go_simp; try with_reducible rfl)
  simp only [Act.put, List.setIfInBounds_toArray, List.set_cons_zero, List.set_cons_succ]
  refine wpAnyH_ready (rs := [3]) (by kernel_rfl) (by simp) ?_
  refine AllReadyH.cons (o := { dst := some 5, op := _, type := _, pos := _, after := _, guard := _ }) rfl (fun K hK => ?_) AllReadyH.nil
  go_simp
  go_at_call 44
  refine (HC.out _ S0.out.s).mono ?_
  rintro ee u1 ⟨rfl, r1, g1⟩
  have C1 := S0.out.call r1 g1
  have C2 := C1.put 5 (.int .i64 n)
  obtain ⟨k0, k1⟩ := C1.off hv
  clear r1 g1
  refine hK.out _ _ ⟨_, _, C1⟩ (fun hHeld => ?_)
  clear hK K
  refine wpAnyH_take (i := 4) (oi := { dst := some 6, op := _, type := _, pos := _, after := _, guard := _ }) (v := ?v10_4) rfl (by kernel_rfl) (by kernel_rfl) (by kernel_rfl) (fun _ _ _ h => h) (Or.inl ⟨by rfl, ?hy10_4⟩) hHeld ?_
  case hy10_4 => (intro w hSw; obtain ⟨_, _, hSw⟩ := hSw; obtain ⟨s0, s1⟩ := (C27.cells hSw); go_simp; try with_reducible rfl)
  simp only [Act.put, List.setIfInBounds_toArray, List.set_cons_zero, List.set_cons_succ]
  refine wpAnyH_take (i := 5) (oi := { dst := some 7, op := _, type := _, pos := _, after := _, guard := _ }) (v := ?v10_5) rfl (by kernel_rfl) (by kernel_rfl) (by kernel_rfl) (fun _ _ _ h => h) (Or.inl ⟨by rfl, ?hy10_5⟩) hHeld ?_
  case hy10_5 => (intro w hSw; obtain ⟨_, _, hSw⟩ := hSw; obtain ⟨s0, s1⟩ := (C27.cells hSw); go_simp; try with_reducible rfl)
  simp only [Act.put, List.setIfInBounds_toArray, List.set_cons_zero, List.set_cons_succ]
  refine wpAnyH_ready (rs := [6]) (by kernel_rfl) (by simp) ?_
  refine AllReadyH.cons (o := { dst := none, op := _, type := _, pos := _, after := _, guard := _ }) rfl (fun K hK => ?_) AllReadyH.nil
  go_simp
  refine hK.out _ _ ⟨_, _, C2⟩ (fun hHeld => ?_)
  clear hK K
  refine wpAnyH_done (by kernel_rfl) ?_ _
  go_wp2_with fail
  go_end0
  exact ⟨rfl, C2⟩
set_option maxRecDepth 100000 in
set_option maxHeartbeats 1000000 in
theorem p27c6 {S : ByteArray} {b E P0 E0 : Nat} {w0 w : World} {x : Sc} {ev : Array Value} {v0 : Value} (h : C27 S b E P0 E0 w0 x ev w) (hk : x.k ≤ S.size) (hs : S.size ≤ 100000) (hv : ev[6]? = some v0) :
    Calls Tryz.prog 96 #[.pointer (some ⟨P0, 0, none⟩), .pointer (some ⟨E0, 0, none⟩)] w fun r w' => r = .returned (.tuple #[]) ∧ C27 S b E P0 E0 w0 (yW lKi S x).2 (ev.setIfInBounds 6 (.int .i64 (1 + (yW lKi S x).1))) w' := by
  have HL := Lib.hid (fun (u : World) => kw27 u)
  have HC := Lib.hid (fun (u : World) (g : Nat) (h : u.heap[b]? = some (scX S x)) (hI : StrsIn g 3 lKi u) (hg : g ≠ b) => xw_sc h hk (lt_big hs) hI hg wds_lKi)
  have hw := kw_wrap S x
  generalize yW lKi S x = z at *
  obtain ⟨n, z⟩ := z
  simp only at hw
  have S0 := Lib.hid (h.below (below_dn (Below.refl _ _) 1))
  clear h
  go_enter Tryz.func96, Tryz.ntmps96
  go_wp2_with fail
  refine wp_region_held_drew (S := fun u => ∃ x ev, C27 S b E P0 E0 w0 x ev u) (by kernel_rfl) ⟨_, _, S0.out⟩ (fun hHeld => ?_)
  refine wpAnyH_take (i := 0) (oi := { dst := some 2, op := _, type := _, pos := _, after := _, guard := _ }) (v := ?v11_0) rfl (by kernel_rfl) (by kernel_rfl) (by kernel_rfl) (fun _ _ _ h => h) (Or.inl ⟨by rfl, ?hy11_0⟩) hHeld ?_
  case hy11_0 => (intro w hSw; obtain ⟨_, _, hSw⟩ := hSw; obtain ⟨s0, s1⟩ := (C27.cells hSw); go_simp; try with_reducible rfl)
  simp only [Act.put, List.setIfInBounds_toArray, List.set_cons_zero, List.set_cons_succ]
  refine wpAnyH_take (i := 1) (oi := { dst := some 3, op := _, type := _, pos := _, after := _, guard := _ }) (v := ?v11_1) rfl (by kernel_rfl) (by kernel_rfl) (by kernel_rfl) (fun _ _ _ h => h) (Or.inl ⟨by rfl, ?hy11_1⟩) hHeld ?_
  case hy11_1 => (intro w hSw; obtain ⟨_, _, hSw⟩ := hSw; obtain ⟨s0, s1⟩ := (C27.cells hSw); go_simp; try with_reducible rfl)
  simp only [Act.put, List.setIfInBounds_toArray, List.set_cons_zero, List.set_cons_succ]
  refine wpAnyH_take (i := 2) (oi := { dst := some 4, op := _, type := _, pos := _, after := _, guard := _ }) (v := ?v11_2) rfl (by kernel_rfl) (by kernel_rfl) (by kernel_rfl) (fun _ _ _ h => h) (Or.inl ⟨by rfl, ?hy11_2⟩) hHeld ?_
  case hy11_2 => (intro w hSw; obtain ⟨_, _, hSw⟩ := hSw; obtain ⟨s0, s1⟩ := (C27.cells hSw); go_simp; try with_reducible rfl)
  simp only [Act.put, List.setIfInBounds_toArray, List.set_cons_zero, List.set_cons_succ]
  refine wpAnyH_ready (rs := [3]) (by kernel_rfl) (by simp) ?_
  refine AllReadyH.cons (o := { dst := some 5, op := _, type := _, pos := _, after := _, guard := _ }) rfl (fun K hK => ?_) AllReadyH.nil
  go_simp
  go_at_call 65
  refine (HL.out _).mono ?_
  rintro ee u0 ⟨rfl, hI, g0⟩
  have S1 := Lib.hid (S0.out.below g0)
  skip
  refine hK.out _ _ ⟨_, _, S1.out⟩ (fun hHeld => ?_)
  clear hK K
  refine wpAnyH_ready (rs := [4]) (by kernel_rfl) (by simp) ?_
  refine AllReadyH.cons (o := { dst := some 6, op := _, type := _, pos := _, after := _, guard := _ }) rfl (fun K hK => ?_) AllReadyH.nil
  go_simp
  go_at_call 43
  refine (HC.out _ _ S1.out.s hI (Nat.ne_of_gt (row_lt S0.out.s))).mono ?_
  rintro ee u1 ⟨rfl, r1, g1⟩
  have C1 := S1.out.call r1 g1
  have C2 := C1.put 6 (.int .i64 (1 + n))
  obtain ⟨k0, k1⟩ := C1.off hv
  clear r1 g1
  refine hK.out _ _ ⟨_, _, C1⟩ (fun hHeld => ?_)
  clear hK K
  refine wpAnyH_take (i := 5) (oi := { dst := some 7, op := _, type := _, pos := _, after := _, guard := _ }) (v := ?v12_5) rfl (by kernel_rfl) (by kernel_rfl) (by kernel_rfl) (fun _ _ _ h => h) (Or.inl ⟨by rfl, ?hy12_5⟩) hHeld ?_
  case hy12_5 => (intro w hSw; obtain ⟨_, _, hSw⟩ := hSw; obtain ⟨s0, s1⟩ := (C27.cells hSw); go_simp; try with_reducible rfl)
  simp only [Act.put, List.setIfInBounds_toArray, List.set_cons_zero, List.set_cons_succ]
  refine wpAnyH_take (i := 6) (oi := { dst := some 8, op := _, type := _, pos := _, after := _, guard := _ }) (v := ?v12_6) rfl (by kernel_rfl) (by kernel_rfl) (by kernel_rfl) (fun _ _ _ h => h) (Or.inl ⟨by rfl, ?hy12_6⟩) hHeld ?_
  case hy12_6 => (intro w hSw; obtain ⟨_, _, hSw⟩ := hSw; obtain ⟨s0, s1⟩ := (C27.cells hSw); go_simp; try with_reducible rfl)
  simp only [Act.put, List.setIfInBounds_toArray, List.set_cons_zero, List.set_cons_succ]
  refine wpAnyH_take (i := 7) (oi := { dst := some 9, op := _, type := _, pos := _, after := _, guard := _ }) (v := ?v12_7) rfl (by kernel_rfl) (by kernel_rfl) (by kernel_rfl) (fun _ _ _ h => h) (Or.inl ⟨by rfl, ?hy12_7⟩) hHeld ?_
  case hy12_7 => (intro w hSw; obtain ⟨_, _, hSw⟩ := hSw; obtain ⟨s0, s1⟩ := (C27.cells hSw); go_simp; try with_reducible rfl)
  simp only [Act.put, List.setIfInBounds_toArray, List.set_cons_zero, List.set_cons_succ]
  refine wpAnyH_ready (rs := [8]) (by kernel_rfl) (by simp) ?_
  refine AllReadyH.cons (o := { dst := none, op := _, type := _, pos := _, after := _, guard := _ }) rfl (fun K hK => ?_) AllReadyH.nil
  go_simp
  refine hK.out _ _ ⟨_, _, C2⟩ (fun hHeld => ?_)
  clear hK K
  refine wpAnyH_done (by kernel_rfl) ?_ _
  go_wp2_with fail
  go_end0
  exact ⟨rfl, C2⟩
set_option maxRecDepth 100000 in
set_option maxHeartbeats 1000000 in
theorem p27c7 {S : ByteArray} {b E P0 E0 : Nat} {w0 w : World} {x : Sc} {ev : Array Value} {v0 : Value} (h : C27 S b E P0 E0 w0 x ev w) (hk : x.k ≤ S.size) (hs : S.size ≤ 100000) (hv : ev[7]? = some v0) :
    Calls Tryz.prog 97 #[.pointer (some ⟨P0, 0, none⟩), .pointer (some ⟨E0, 0, none⟩)] w fun r w' => r = .returned (.tuple #[]) ∧ C27 S b E P0 E0 w0 (yI S x).2 (ev.setIfInBounds 7 (.string (yI S x).1)) w' := by
  have HC := Lib.hid (fun (u : World) (h : u.heap[b]? = some (scX S x)) => p27ide h hk hs)
  generalize yI S x = z at *
  obtain ⟨n, z⟩ := z
  skip
  have S0 := Lib.hid (h.below (below_dn (Below.refl _ _) 1))
  clear h
  go_enter Tryz.func97, Tryz.ntmps97
  go_wp2_with fail
  refine wp_region_held_drew (S := fun u => ∃ x ev, C27 S b E P0 E0 w0 x ev u) (by kernel_rfl) ⟨_, _, S0.out⟩ (fun hHeld => ?_)
  refine wpAnyH_take (i := 0) (oi := { dst := some 2, op := _, type := _, pos := _, after := _, guard := _ }) (v := ?v13_0) rfl (by kernel_rfl) (by kernel_rfl) (by kernel_rfl) (fun _ _ _ h => h) (Or.inl ⟨by rfl, ?hy13_0⟩) hHeld ?_
  case hy13_0 => (intro w hSw; obtain ⟨_, _, hSw⟩ := hSw; obtain ⟨s0, s1⟩ := (C27.cells hSw); go_simp; try with_reducible rfl)
  simp only [Act.put, List.setIfInBounds_toArray, List.set_cons_zero, List.set_cons_succ]
  refine wpAnyH_take (i := 1) (oi := { dst := some 3, op := _, type := _, pos := _, after := _, guard := _ }) (v := ?v13_1) rfl (by kernel_rfl) (by kernel_rfl) (by kernel_rfl) (fun _ _ _ h => h) (Or.inl ⟨by rfl, ?hy13_1⟩) hHeld ?_
  case hy13_1 => (intro w hSw; obtain ⟨_, _, hSw⟩ := hSw; obtain ⟨s0, s1⟩ := (C27.cells hSw); go_simp; try with_reducible rfl)
  simp only [Act.put, List.setIfInBounds_toArray, List.set_cons_zero, List.set_cons_succ]
  refine wpAnyH_ready (rs := [2]) (by kernel_rfl) (by simp) ?_
  refine AllReadyH.cons (o := { dst := some 4, op := _, type := _, pos := _, after := _, guard := _ }) rfl (fun K hK => ?_) AllReadyH.nil
  go_simp
  go_at_call 94
  refine (HC.out _ S0.out.s).mono ?_
  rintro ee u1 ⟨rfl, r1, g1⟩
  have C1 := S0.out.call r1 g1
  have C2 := C1.put 7 (.string n)
  obtain ⟨k0, k1⟩ := C1.off hv
  clear r1 g1
  refine hK.out _ _ ⟨_, _, C1⟩ (fun hHeld => ?_)
  clear hK K
  refine wpAnyH_take (i := 3) (oi := { dst := some 5, op := _, type := _, pos := _, after := _, guard := _ }) (v := ?v14_3) rfl (by kernel_rfl) (by kernel_rfl) (by kernel_rfl) (fun _ _ _ h => h) (Or.inl ⟨by rfl, ?hy14_3⟩) hHeld ?_
  case hy14_3 => (intro w hSw; obtain ⟨_, _, hSw⟩ := hSw; obtain ⟨s0, s1⟩ := (C27.cells hSw); go_simp; try with_reducible rfl)
  simp only [Act.put, List.setIfInBounds_toArray, List.set_cons_zero, List.set_cons_succ]
  refine wpAnyH_take (i := 4) (oi := { dst := some 6, op := _, type := _, pos := _, after := _, guard := _ }) (v := ?v14_4) rfl (by kernel_rfl) (by kernel_rfl) (by kernel_rfl) (fun _ _ _ h => h) (Or.inl ⟨by rfl, ?hy14_4⟩) hHeld ?_
  case hy14_4 => (intro w hSw; obtain ⟨_, _, hSw⟩ := hSw; obtain ⟨s0, s1⟩ := (C27.cells hSw); go_simp; try with_reducible rfl)
  simp only [Act.put, List.setIfInBounds_toArray, List.set_cons_zero, List.set_cons_succ]
  refine wpAnyH_ready (rs := [5]) (by kernel_rfl) (by simp) ?_
  refine AllReadyH.cons (o := { dst := none, op := _, type := _, pos := _, after := _, guard := _ }) rfl (fun K hK => ?_) AllReadyH.nil
  go_simp
  refine hK.out _ _ ⟨_, _, C2⟩ (fun hHeld => ?_)
  clear hK K
  refine wpAnyH_done (by kernel_rfl) ?_ _
  go_wp2_with fail
  go_end0
  exact ⟨rfl, C2⟩
set_option maxRecDepth 100000 in
set_option maxHeartbeats 1000000 in
theorem p27c8 {S : ByteArray} {b E P0 E0 : Nat} {w0 w : World} {x : Sc} {ev : Array Value} {v0 : Value} (h : C27 S b E P0 E0 w0 x ev w) (hk : x.k ≤ S.size) (hs : S.size ≤ 100000) (hv : ev[8]? = some v0) :
    Calls Tryz.prog 98 #[.pointer (some ⟨P0, 0, none⟩), .pointer (some ⟨E0, 0, none⟩)] w fun r w' => r = .returned (.tuple #[]) ∧ C27 S b E P0 E0 w0 (yNu S x).2 (ev.setIfInBounds 8 (.int .i64 (yNu S x).1)) w' := by
  have HC := Lib.hid (fun (u : World) (h : u.heap[b]? = some (scX S x)) => xn_sc h hk (lt_big hs))
  generalize yNu S x = z at *
  obtain ⟨n, z⟩ := z
  skip
  have S0 := Lib.hid (h.below (below_dn (Below.refl _ _) 1))
  clear h
  go_enter Tryz.func98, Tryz.ntmps98
  go_wp2_with fail
  refine wp_region_held_drew (S := fun u => ∃ x ev, C27 S b E P0 E0 w0 x ev u) (by kernel_rfl) ⟨_, _, S0.out⟩ (fun hHeld => ?_)
  refine wpAnyH_take (i := 0) (oi := { dst := some 2, op := _, type := _, pos := _, after := _, guard := _ }) (v := ?v15_0) rfl (by kernel_rfl) (by kernel_rfl) (by kernel_rfl) (fun _ _ _ h => h) (Or.inl ⟨by rfl, ?hy15_0⟩) hHeld ?_
  case hy15_0 => (intro w hSw; obtain ⟨_, _, hSw⟩ := hSw; obtain ⟨s0, s1⟩ := (C27.cells hSw); go_simp; try with_reducible rfl)
  simp only [Act.put, List.setIfInBounds_toArray, List.set_cons_zero, List.set_cons_succ]
  refine wpAnyH_take (i := 1) (oi := { dst := some 3, op := _, type := _, pos := _, after := _, guard := _ }) (v := ?v15_1) rfl (by kernel_rfl) (by kernel_rfl) (by kernel_rfl) (fun _ _ _ h => h) (Or.inl ⟨by rfl, ?hy15_1⟩) hHeld ?_
  case hy15_1 => (intro w hSw; obtain ⟨_, _, hSw⟩ := hSw; obtain ⟨s0, s1⟩ := (C27.cells hSw); go_simp; try with_reducible rfl)
  simp only [Act.put, List.setIfInBounds_toArray, List.set_cons_zero, List.set_cons_succ]
  refine wpAnyH_take (i := 2) (oi := { dst := some 4, op := _, type := _, pos := _, after := _, guard := _ }) (v := ?v15_2) rfl (by kernel_rfl) (by kernel_rfl) (by kernel_rfl) (fun _ _ _ h => h) (Or.inl ⟨by rfl, ?hy15_2⟩) hHeld ?_
  case hy15_2 => (intro w hSw; obtain ⟨_, _, hSw⟩ := hSw; obtain ⟨s0, s1⟩ := (C27.cells hSw); go_simp; try with_reducible rfl)
  simp only [Act.put, List.setIfInBounds_toArray, List.set_cons_zero, List.set_cons_succ]
  refine wpAnyH_ready (rs := [3]) (by kernel_rfl) (by simp) ?_
  refine AllReadyH.cons (o := { dst := some 5, op := _, type := _, pos := _, after := _, guard := _ }) rfl (fun K hK => ?_) AllReadyH.nil
  go_simp
  go_at_call 44
  refine (HC.out _ S0.out.s).mono ?_
  rintro ee u1 ⟨rfl, r1, g1⟩
  have C1 := S0.out.call r1 g1
  have C2 := C1.put 8 (.int .i64 n)
  obtain ⟨k0, k1⟩ := C1.off hv
  clear r1 g1
  refine hK.out _ _ ⟨_, _, C1⟩ (fun hHeld => ?_)
  clear hK K
  refine wpAnyH_take (i := 4) (oi := { dst := some 6, op := _, type := _, pos := _, after := _, guard := _ }) (v := ?v16_4) rfl (by kernel_rfl) (by kernel_rfl) (by kernel_rfl) (fun _ _ _ h => h) (Or.inl ⟨by rfl, ?hy16_4⟩) hHeld ?_
  case hy16_4 => (intro w hSw; obtain ⟨_, _, hSw⟩ := hSw; obtain ⟨s0, s1⟩ := (C27.cells hSw); go_simp; try with_reducible rfl)
  simp only [Act.put, List.setIfInBounds_toArray, List.set_cons_zero, List.set_cons_succ]
  refine wpAnyH_take (i := 5) (oi := { dst := some 7, op := _, type := _, pos := _, after := _, guard := _ }) (v := ?v16_5) rfl (by kernel_rfl) (by kernel_rfl) (by kernel_rfl) (fun _ _ _ h => h) (Or.inl ⟨by rfl, ?hy16_5⟩) hHeld ?_
  case hy16_5 => (intro w hSw; obtain ⟨_, _, hSw⟩ := hSw; obtain ⟨s0, s1⟩ := (C27.cells hSw); go_simp; try with_reducible rfl)
  simp only [Act.put, List.setIfInBounds_toArray, List.set_cons_zero, List.set_cons_succ]
  refine wpAnyH_ready (rs := [6]) (by kernel_rfl) (by simp) ?_
  refine AllReadyH.cons (o := { dst := none, op := _, type := _, pos := _, after := _, guard := _ }) rfl (fun K hK => ?_) AllReadyH.nil
  go_simp
  refine hK.out _ _ ⟨_, _, C2⟩ (fun hHeld => ?_)
  clear hK K
  refine wpAnyH_done (by kernel_rfl) ?_ _
  go_wp2_with fail
  go_end0
  exact ⟨rfl, C2⟩
end Go.Proofs.YtkhicgafhbecfaaGreatDoor
