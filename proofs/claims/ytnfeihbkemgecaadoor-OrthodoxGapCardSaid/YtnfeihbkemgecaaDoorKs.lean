/- What earlier stages proved: Sa Sb Sc Sd. -/
import Derived.Test.YtnfeihbkemgecaaDoorKp
import Derived.Test.YtnfeihbkemgecaaDoorKw
import Derived.Test.YtnfeihbkemgecaaDoorKa
import Derived.LoopN
import Derived.OneCell
import Derived.LoopTactic
namespace Go.Proofs.YtnfeihbkemgecaaDoor

/-- How many days behind 21 March Easter is. -/
def eaO (c y : Int) : Int := off (lab c y) + 7 - (marN c y + off (lab c y)) % 7
/-- The number of Easter. -/
def eaN (c y : Int) : Int := marN c y + eaO c y
theorem eaO_off (c y : Int) : (off (lab c y) : Int) + 1 ≤ eaO c y ∧ eaO c y ≤ off (lab c y) + 7 := by unfold eaO; omega
theorem eaO_bd (c y : Int) : 1 ≤ eaO c y ∧ eaO c y ≤ 35 := by
  obtain ⟨l1, l2⟩ := lab_bd c y
  have := (off_all l1 l2).1
  have := eaO_off c y
  omega
theorem eaN_mod (c y : Int) : eaN c y % 7 = 0 := by unfold eaN eaO; omega
theorem eaN_aft (c y : Int) : aft (marN c y + off (lab c y) + 1) 0 = eaN c y := by unfold aft eaN eaO; omega
theorem eaN_bd {c y : Int} (h : epE c y = 0) : 0 ≤ eaN c y ∧ eaN c y ≤ 365250000033 := by
  obtain ⟨y1, y2⟩ := epE_inY h
  have := marN_bd (epE_okC h) y1 y2
  have := eaO_bd c y
  unfold eaN; omega
/-- Day. -/
def edN (c y : Int) : Int := if epE c y = 0 then eaN c y else 0
/-- Date. -/
def edY (c y : Int) : Int := if epE c y = 0 then y else 0
def edM (c y : Int) : Int := if epE c y = 0 then marM (eaO c y) else 0
def edD (c y : Int) : Int := if epE c y = 0 then marD (eaO c y) else 0
theorem ed_ok {c y : Int} (h : epE c y = 0) : edN c y = eaN c y ∧ edY c y = y ∧ edM c y = marM (eaO c y) ∧ edD c y = marD (eaO c y) := by
  unfold edN edY edM edD; rw [if_pos h, if_pos h, if_pos h, if_pos h]; exact ⟨rfl, rfl, rfl, rfl⟩
theorem ed_no {c y : Int} (h : epE c y ≠ 0) : edN c y = 0 ∧ edY c y = 0 ∧ edM c y = 0 ∧ edD c y = 0 := by
  unfold edN edY edM edD; rw [if_neg h, if_neg h, if_neg h, if_neg h]; exact ⟨rfl, rfl, rfl, rfl⟩
theorem ea_from {c y : Int} (h : epE c y = 0) : fE c (eaN c y) = 0 ∧ fY c (eaN c y) = y ∧ fM c (eaN c y) = marM (eaO c y) ∧ fD c (eaN c y) = marD (eaO c y) := by
  obtain ⟨y1, y2⟩ := epE_inY h
  have := eaO_bd c y
  exact mar_from (epE_okC h) y1 y2 (by omega) (by omega)

def offX (l : Int) : Int := if l ≤ 23 then 23 - l else if l = 24 then 28 else if l ≤ 30 then 53 - l else 27
theorem off_x {l : Int} (l1 : 1 ≤ l) (l2 : l ≤ 31) : (off l : Int) = offX l :=
  of_decide_eq_true (all_l (fun l => decide ((off l : Int) = offX l)) (by kernel_rfl) l l1 l2)
end Go.Proofs.YtnfeihbkemgecaaDoor

namespace Go.Proofs.YtnfeihbkemgecaaDoor
open Go.RowKit

set_option maxRecDepth 100000 in
theorem chain2_at0 (g cap k0 k1 t : Nat) (C0 C1 : Array Value) (r : Int) (I0 I1 : World → Prop)
    (R0 : ∀ w, I0 w → w.heap[g]? = some (.cells #[Value.func (.func k0) #[] C0, Value.func (.func k1) #[] C1] t (0, 0)))
    (E0 : ∀ (args : Array Value) (w : World), (callFunc k0 args).run Tryd.prog w = .ok (.enter k0 args) w)
    (H0 : ∀ w, I0 w → Calls Tryd.prog k0 C0 w fun e w' => e = .returned (.int .i64 r) ∧ I1 w')
    (hr : (r != 0) = true)
    (w : World) (hw : I0 w) : Calls Tryd.prog 20 #[.slice (some ⟨g, 0, none⟩) 2 cap] w fun e w' => e = .returned (.int .i64 r) ∧ I1 w' := by
  have Q0 := Lib.hid hw
  clear hw
  go_enter Tryd.func20, Tryd.ntmps20
  go_wp2
  refine wp_loop_rounds 3 ?_
  rw [rounds_succ]
  have d0 : w.cell? ⟨g, 0, none⟩ = some (.func (.func k0) #[] C0) := by rw [cell_of_row w g 0 _ _ _ (R0 _ Q0.out)]; rfl
  go_wp2_with fail
  refine (H0 _ Q0.out).mono ?_
  rintro e w1 ⟨rfl, q1⟩
  have Q1 := Lib.hid q1
  clear q1
  go_wp2_with fail
  go_ret
  exact ⟨rfl, Q1.out⟩
set_option maxRecDepth 100000 in
theorem chain2_end (g cap k0 k1 t : Nat) (C0 C1 : Array Value) (r : Int) (I0 I1 I2 : World → Prop)
    (R0 : ∀ w, I0 w → w.heap[g]? = some (.cells #[Value.func (.func k0) #[] C0, Value.func (.func k1) #[] C1] t (0, 0)))
    (R1 : ∀ w, I1 w → w.heap[g]? = some (.cells #[Value.func (.func k0) #[] C0, Value.func (.func k1) #[] C1] t (0, 0)))
    (E0 : ∀ (args : Array Value) (w : World), (callFunc k0 args).run Tryd.prog w = .ok (.enter k0 args) w)
    (H0 : ∀ w, I0 w → Calls Tryd.prog k0 C0 w fun e w' => e = .returned (.int .i64 0) ∧ I1 w')
    (E1 : ∀ (args : Array Value) (w : World), (callFunc k1 args).run Tryd.prog w = .ok (.enter k1 args) w)
    (H1 : ∀ w, I1 w → Calls Tryd.prog k1 C1 w fun e w' => e = .returned (.int .i64 r) ∧ I2 w')
    (w : World) (hw : I0 w) : Calls Tryd.prog 20 #[.slice (some ⟨g, 0, none⟩) 2 cap] w fun e w' => e = .returned (.int .i64 r) ∧ I2 w' := by
  have Q0 := Lib.hid hw
  clear hw
  go_enter Tryd.func20, Tryd.ntmps20
  go_wp2
  refine wp_loop_rounds 3 ?_
  rw [rounds_succ]
  have d0 : w.cell? ⟨g, 0, none⟩ = some (.func (.func k0) #[] C0) := by rw [cell_of_row w g 0 _ _ _ (R0 _ Q0.out)]; rfl
  go_wp2_with fail
  refine (H0 _ Q0.out).mono ?_
  rintro e w1 ⟨rfl, q1⟩
  have Q1 := Lib.hid q1
  clear q1
  go_wp2_with fail
  rw [rounds_succ]
  have d1 : w1.cell? ⟨g, 1, none⟩ = some (.func (.func k1) #[] C1) := by rw [cell_of_row w1 g 1 _ _ _ (R1 _ Q1.out)]; rfl
  go_wp2_with fail
  refine (H1 _ Q1.out).mono ?_
  rintro e w2 ⟨rfl, q2⟩
  have Q2 := Lib.hid q2
  clear q2
  by_cases hr : r = 0
  · subst hr
    go_wp2_with fail
    rw [rounds_succ]
    go_wp2_with fail
    go_ret
    exact ⟨rfl, Q2.out⟩
  · have hr : (r != 0) = true := by simpa using hr
    go_wp2_with fail
    go_ret
    exact ⟨rfl, Q2.out⟩
set_option maxRecDepth 100000 in
theorem chain3_at0 (g cap k0 k1 k2 t : Nat) (C0 C1 C2 : Array Value) (r : Int) (I0 I1 : World → Prop)
    (R0 : ∀ w, I0 w → w.heap[g]? = some (.cells #[Value.func (.func k0) #[] C0, Value.func (.func k1) #[] C1, Value.func (.func k2) #[] C2] t (0, 0)))
    (E0 : ∀ (args : Array Value) (w : World), (callFunc k0 args).run Tryd.prog w = .ok (.enter k0 args) w)
    (H0 : ∀ w, I0 w → Calls Tryd.prog k0 C0 w fun e w' => e = .returned (.int .i64 r) ∧ I1 w')
    (hr : (r != 0) = true)
    (w : World) (hw : I0 w) : Calls Tryd.prog 20 #[.slice (some ⟨g, 0, none⟩) 3 cap] w fun e w' => e = .returned (.int .i64 r) ∧ I1 w' := by
  have Q0 := Lib.hid hw
  clear hw
  go_enter Tryd.func20, Tryd.ntmps20
  go_wp2
  refine wp_loop_rounds 4 ?_
  rw [rounds_succ]
  have d0 : w.cell? ⟨g, 0, none⟩ = some (.func (.func k0) #[] C0) := by rw [cell_of_row w g 0 _ _ _ (R0 _ Q0.out)]; rfl
  go_wp2_with fail
  refine (H0 _ Q0.out).mono ?_
  rintro e w1 ⟨rfl, q1⟩
  have Q1 := Lib.hid q1
  clear q1
  go_wp2_with fail
  go_ret
  exact ⟨rfl, Q1.out⟩
set_option maxRecDepth 100000 in
theorem chain3_end (g cap k0 k1 k2 t : Nat) (C0 C1 C2 : Array Value) (r : Int) (I0 I1 I2 I3 : World → Prop)
    (R0 : ∀ w, I0 w → w.heap[g]? = some (.cells #[Value.func (.func k0) #[] C0, Value.func (.func k1) #[] C1, Value.func (.func k2) #[] C2] t (0, 0)))
    (R1 : ∀ w, I1 w → w.heap[g]? = some (.cells #[Value.func (.func k0) #[] C0, Value.func (.func k1) #[] C1, Value.func (.func k2) #[] C2] t (0, 0)))
    (R2 : ∀ w, I2 w → w.heap[g]? = some (.cells #[Value.func (.func k0) #[] C0, Value.func (.func k1) #[] C1, Value.func (.func k2) #[] C2] t (0, 0)))
    (E0 : ∀ (args : Array Value) (w : World), (callFunc k0 args).run Tryd.prog w = .ok (.enter k0 args) w)
    (H0 : ∀ w, I0 w → Calls Tryd.prog k0 C0 w fun e w' => e = .returned (.int .i64 0) ∧ I1 w')
    (E1 : ∀ (args : Array Value) (w : World), (callFunc k1 args).run Tryd.prog w = .ok (.enter k1 args) w)
    (H1 : ∀ w, I1 w → Calls Tryd.prog k1 C1 w fun e w' => e = .returned (.int .i64 0) ∧ I2 w')
    (E2 : ∀ (args : Array Value) (w : World), (callFunc k2 args).run Tryd.prog w = .ok (.enter k2 args) w)
    (H2 : ∀ w, I2 w → Calls Tryd.prog k2 C2 w fun e w' => e = .returned (.int .i64 r) ∧ I3 w')
    (w : World) (hw : I0 w) : Calls Tryd.prog 20 #[.slice (some ⟨g, 0, none⟩) 3 cap] w fun e w' => e = .returned (.int .i64 r) ∧ I3 w' := by
  have Q0 := Lib.hid hw
  clear hw
  go_enter Tryd.func20, Tryd.ntmps20
  go_wp2
  refine wp_loop_rounds 4 ?_
  rw [rounds_succ]
  have d0 : w.cell? ⟨g, 0, none⟩ = some (.func (.func k0) #[] C0) := by rw [cell_of_row w g 0 _ _ _ (R0 _ Q0.out)]; rfl
  go_wp2_with fail
  refine (H0 _ Q0.out).mono ?_
  rintro e w1 ⟨rfl, q1⟩
  have Q1 := Lib.hid q1
  clear q1
  go_wp2_with fail
  rw [rounds_succ]
  have d1 : w1.cell? ⟨g, 1, none⟩ = some (.func (.func k1) #[] C1) := by rw [cell_of_row w1 g 1 _ _ _ (R1 _ Q1.out)]; rfl
  go_wp2_with fail
  refine (H1 _ Q1.out).mono ?_
  rintro e w2 ⟨rfl, q2⟩
  have Q2 := Lib.hid q2
  clear q2
  go_wp2_with fail
  rw [rounds_succ]
  have d2 : w2.cell? ⟨g, 2, none⟩ = some (.func (.func k2) #[] C2) := by rw [cell_of_row w2 g 2 _ _ _ (R2 _ Q2.out)]; rfl
  go_wp2_with fail
  refine (H2 _ Q2.out).mono ?_
  rintro e w3 ⟨rfl, q3⟩
  have Q3 := Lib.hid q3
  clear q3
  by_cases hr : r = 0
  · subst hr
    go_wp2_with fail
    rw [rounds_succ]
    go_wp2_with fail
    go_ret
    exact ⟨rfl, Q3.out⟩
  · have hr : (r != 0) = true := by simpa using hr
    go_wp2_with fail
    go_ret
    exact ⟨rfl, Q3.out⟩
end Go.Proofs.YtnfeihbkemgecaaDoor

namespace Go.Proofs.YtnfeihbkemgecaaDoor
open Go.RowKit

/-- The tables read as laid, what was in memory is as it was, and the blocks made since hold l. -/
structure Own (W : World) (l : List Obj) (u : World) : Prop where
  p : PT W
  s : PSt W u
  r : ∀ (i : Nat) (o : Obj), l[i]? = some o → u.heap[W.heap.size + i]? = some o
theorem Own.on {W u u' : World} {l : List Obj} (h : Own W l u) (hb : Below u.heap.size u u') : Own W l u' := ⟨h.p, h.s.on hb, fun i o hi => row_on (h.r i o hi) hb⟩
theorem Own.nil {W : World} (ht : PT W) : Own W [] W := ⟨ht, PSt.start ht, fun i o hi => by simp at hi⟩
theorem Own.al {W u : World} {l : List Obj} (h : Own W l u) (hs : u.heap.size = W.heap.size + l.length) (o : Obj) : Own W (l ++ [o]) (u.alloc o) ∧ (u.alloc o).heap.size = W.heap.size + (l ++ [o]).length := by
  refine ⟨⟨h.p, h.s.al o, fun i x hi => ?_⟩, by simp; omega⟩
  rcases Nat.lt_or_ge i l.length with g | g
  · rw [List.getElem?_append_left g] at hi; exact row_al (h.r i x hi) o
  · rw [List.getElem?_append_right g] at hi
    have : i - l.length = 0 := by
      rcases Nat.eq_zero_or_pos (i - l.length) with e | e
      · exact e
      · rw [List.getElem?_eq_none (by simp; omega)] at hi; cases hi
    rw [this] at hi; simp at hi; subst hi
    have e : W.heap.size + i = u.heap.size := by omega
    rw [e]; exact heap_alloc_new u o
theorem Own.six {W : World} (ht : PT W) (o0 o1 o2 o3 o4 o5 : Obj) : Own W [o0, o1, o2, o3, o4, o5] ((((((W.alloc o0).alloc o1).alloc o2).alloc o3).alloc o4).alloc o5) := by
  have h0 := Own.al (Own.nil ht) (by simp) o0
  have h1 := Own.al h0.1 h0.2 o1
  have h2 := Own.al h1.1 h1.2 o2
  have h3 := Own.al h2.1 h2.2 o3
  have h4 := Own.al h3.1 h3.2 o4
  exact (Own.al h4.1 h4.2 o5).1
theorem Own.put {W u u' : World} {l : List Obj} (h : Own W l u) (k : Nat) (o : Obj) (hb : Below W.heap.size W u') (hk : u'.heap[W.heap.size + k]? = some o) (ho : ∀ b, b ≠ W.heap.size + k → u'.heap[b]? = u.heap[b]?) : Own W (l.set k o) u' := by
  refine ⟨h.p, ⟨h.p.on hb, hb⟩, fun i x hi => ?_⟩
  rcases Nat.eq_or_lt_of_le (Nat.le_refl i) with _ | g
  · by_cases e : i = k
    · subst e
      rw [List.getElem?_set_self'] at hi
      cases hl : l[i]? with
      | none => rw [hl] at hi; simp at hi
      | some y => rw [hl] at hi; simp at hi; subst hi; exact hk
    · rw [List.getElem?_set_ne (Ne.symm e)] at hi
      rw [ho _ (by omega)]; exact h.r i x hi
  · exact absurd g (Nat.lt_irrefl i)
theorem Own.w1 {W u : World} {l : List Obj} (h : Own W l u) (k : Nat) {x : Value} {t : Nat} (hk : l[k]? = some (.cells #[x] t (0, 0))) (v : Value) : Own W (l.set k (.cells #[v] t (0, 0))) (u.setCell ⟨W.heap.size + k, 0, none⟩ v) :=
  h.put k _ (h.s.b.setCell (p := ⟨W.heap.size + k, 0, none⟩) (Nat.le_add_right _ _) v) (heap_setCell_same u _ 0 _ _ v (h.r k _ hk)) (fun _ hb => heap_setCell_other _ _ _ _ hb)
theorem Own.w3 {W u : World} {l : List Obj} (h : Own W l u) (k : Nat) {x y z : Value} {t : Nat} (hk : l[k]? = some (.cells #[x, y, z] t (0, 0))) (a b c : Value) : Own W (l.set k (.cells #[a, b, c] t (0, 0))) (set3 u (W.heap.size + k) a b c) :=
  h.put k _ (below_set3 h.s.b (Nat.le_add_right _ _) a b c rfl) (row_set (h.r k _ hk) a b c) (fun _ hx => by unfold set3; rw [heap_setCell_other _ _ _ _ hx, heap_setCell_other _ _ _ _ hx, heap_setCell_other _ _ _ _ hx])
theorem Own.one {W u : World} {l : List Obj} (h : Own W l u) (k : Nat) {x : Value} {t : Nat} (hk : l[k]? = some (.cells #[x] t (0, 0))) :
    u.cell? ⟨W.heap.size + k, 0, none⟩ = some x ∧ u.frozen? ⟨W.heap.size + k, 0, none⟩ = false ∧ W.heap.size + k < u.heap.size := by
  have h0 : u.cell? ⟨W.heap.size + k, 0, none⟩ = some x := by rw [cell_of_row u _ 0 _ _ _ (h.r k _ hk)]; rfl
  exact ⟨h0, frozen_of_row u _ 0 _ _ (h.r k _ hk), World.block_lt_of_cell? u _ h0⟩
abbrev one (v : Int) : Obj := .cells #[.int .i64 v] 3 (0, 0)
abbrev tri (y m d : Int) : Obj := .cells #[.int .i64 y, .int .i64 m, .int .i64 d] 24 (0, 0)
theorem mk_func (fn : Fn) (first cap : Array Value) (w : World) : (Instr.makeFunc fn first cap).run Tryd.prog w = .ok (.func fn first cap) w := rfl
/-- The steps of Day, Date and Offset, as they lie in memory. -/
abbrev fnDay (W : World) : Obj := (.cells #[.func (.func 21) #[] #[.pointer (some ⟨W.heap.size, 0, none⟩), .pointer (some ⟨W.heap.size + 1, 0, none⟩), .pointer (some ⟨W.heap.size + 2, 0, none⟩)], .func (.func 23) #[] #[.pointer (some ⟨W.heap.size, 0, none⟩), .pointer (some ⟨W.heap.size + 2, 0, none⟩), .pointer (some ⟨W.heap.size + 3, 0, none⟩)], .func (.func 25) #[] #[.pointer (some ⟨W.heap.size + 3, 0, none⟩), .pointer (some ⟨W.heap.size + 4, 0, none⟩)]] 54 (0, 0))
abbrev fnDate (W : World) : Obj := (.cells #[.func (.func 37) #[] #[.pointer (some ⟨W.heap.size, 0, none⟩), .pointer (some ⟨W.heap.size + 1, 0, none⟩), .pointer (some ⟨W.heap.size + 3, 0, none⟩)], .func (.func 38) #[] #[.pointer (some ⟨W.heap.size, 0, none⟩), .pointer (some ⟨W.heap.size + 3, 0, none⟩), .pointer (some ⟨W.heap.size + 4, 0, none⟩)]] 54 (0, 0))
section
variable (W : World) (c y m d : Int) (x2 x3 x4 x5 : Obj)
theorem day_1 (a b f k : Int) (H : ∀ w, PT w → Calls Tryd.prog 22 #[.int .i64 c, .int .i64 y] w fun e w' => e = .returned (datv a b f k) ∧ Below w.heap.size w w') (u : World) (hu : Own W [one c, one y, tri 0 0 0, x3, x4, x5] u) : Calls Tryd.prog 21 #[.pointer (some ⟨W.heap.size, 0, none⟩), .pointer (some ⟨W.heap.size + 1, 0, none⟩), .pointer (some ⟨W.heap.size + 2, 0, none⟩)] u fun e u' => e = .returned (.int .i64 k) ∧ Own W [one c, one y, tri a b f, x3, x4, x5] u' := by
  have Q0 := Lib.hid hu
  clear hu
  obtain ⟨c0, g0, z0⟩ := Q0.out.one 0 rfl
  rw [Nat.add_zero] at c0 g0 z0
  obtain ⟨c1, g1, z1⟩ := Q0.out.one 1 rfl
  obtain ⟨c20, c21, c22, g20, g21, g22, z2⟩ := row3 (Q0.out.r 2 _ rfl)
  go_enter Tryd.func21, Tryd.ntmps21
  go_wp2_with fail
  refine (H _ Q0.out.s.t).mono ?_
  rintro e u1 ⟨rfl, hb⟩
  have Q1 := Lib.hid (Q0.out.on hb)
  clear hb
  clear c0 g0 z0 c1 g1 z1 c20 c21 c22 g20 g21 g22 z2
  obtain ⟨c20, c21, c22, g20, g21, g22, z2⟩ := row3 (Q1.out.r 2 _ rfl)
  go_wp2_with fail
  go_ret
  exact ⟨rfl, Q1.out.w3 2 rfl (.int .i64 a) (.int .i64 b) (.int .i64 f)⟩
theorem day_2 (a b f n k : Int) (H : ∀ w, PT w → Calls Tryd.prog 24 #[.int .i64 c, dtv a b f] w fun e w' => e = .returned (numv n k) ∧ Below w.heap.size w w') (u : World) (hu : Own W [one c, one y, tri a b f, one 0, x4, x5] u) : Calls Tryd.prog 23 #[.pointer (some ⟨W.heap.size, 0, none⟩), .pointer (some ⟨W.heap.size + 2, 0, none⟩), .pointer (some ⟨W.heap.size + 3, 0, none⟩)] u fun e u' => e = .returned (.int .i64 k) ∧ Own W [one c, one y, tri a b f, one n, x4, x5] u' := by
  have Q0 := Lib.hid hu
  clear hu
  obtain ⟨c0, g0, z0⟩ := Q0.out.one 0 rfl
  rw [Nat.add_zero] at c0 g0 z0
  obtain ⟨c20, c21, c22, g20, g21, g22, z2⟩ := row3 (Q0.out.r 2 _ rfl)
  obtain ⟨c3, g3, z3⟩ := Q0.out.one 3 rfl
  go_enter Tryd.func23, Tryd.ntmps23
  go_wp2_with fail
  refine (H _ Q0.out.s.t).mono ?_
  rintro e u1 ⟨rfl, hb⟩
  have Q1 := Lib.hid (Q0.out.on hb)
  clear hb
  clear c0 g0 z0 c20 c21 c22 g20 g21 g22 z2 c3 g3 z3
  obtain ⟨c3, g3, z3⟩ := Q1.out.one 3 rfl
  go_wp2_with fail
  go_ret
  exact ⟨rfl, Q1.out.w1 3 rfl (.int .i64 n)⟩
theorem day_3 (n1 n k : Int) (b1 : -1 ≤ n1) (b2 : n1 ≤ 365250000100) (H : ∀ w, Calls Tryd.prog 26 #[.int .i64 (n1 + 1), .int .i64 0] w fun e w' => e = .returned (numv n k) ∧ Below w.heap.size w w') (u : World) (hu : Own W [one c, one y, x2, one n1, one 0, x5] u) : Calls Tryd.prog 25 #[.pointer (some ⟨W.heap.size + 3, 0, none⟩), .pointer (some ⟨W.heap.size + 4, 0, none⟩)] u fun e u' => e = .returned (.int .i64 k) ∧ Own W [one c, one y, x2, one n1, one n, x5] u' := by
  have Q0 := Lib.hid hu
  clear hu
  obtain ⟨c3, g3, z3⟩ := Q0.out.one 3 rfl
  obtain ⟨c4, g4, z4⟩ := Q0.out.one 4 rfl
  go_enter Tryd.func25, Tryd.ntmps25
  go_wp2_with fail
  refine (H _).mono ?_
  rintro e u1 ⟨rfl, hb⟩
  have Q1 := Lib.hid (Q0.out.on hb)
  clear hb
  clear c3 g3 z3 c4 g4 z4
  obtain ⟨c4, g4, z4⟩ := Q1.out.one 4 rfl
  go_wp2_with fail
  go_ret
  exact ⟨rfl, Q1.out.w1 4 rfl (.int .i64 n)⟩
theorem date_1 (n k : Int) (H : ∀ w, PT w → Calls Tryd.prog 9 #[.int .i64 c, .int .i64 y] w fun e w' => e = .returned (numv n k) ∧ Below w.heap.size w w') (u : World) (hu : Own W [one c, one y, x2, one 0, x4, x5] u) : Calls Tryd.prog 37 #[.pointer (some ⟨W.heap.size, 0, none⟩), .pointer (some ⟨W.heap.size + 1, 0, none⟩), .pointer (some ⟨W.heap.size + 3, 0, none⟩)] u fun e u' => e = .returned (.int .i64 k) ∧ Own W [one c, one y, x2, one n, x4, x5] u' := by
  have Q0 := Lib.hid hu
  clear hu
  obtain ⟨c0, g0, z0⟩ := Q0.out.one 0 rfl
  rw [Nat.add_zero] at c0 g0 z0
  obtain ⟨c1, g1, z1⟩ := Q0.out.one 1 rfl
  obtain ⟨c3, g3, z3⟩ := Q0.out.one 3 rfl
  go_enter Tryd.func37, Tryd.ntmps37
  go_wp2_with fail
  refine (H _ Q0.out.s.t).mono ?_
  rintro e u1 ⟨rfl, hb⟩
  have Q1 := Lib.hid (Q0.out.on hb)
  clear hb
  clear c0 g0 z0 c1 g1 z1 c3 g3 z3
  obtain ⟨c3, g3, z3⟩ := Q1.out.one 3 rfl
  go_wp2_with fail
  go_ret
  exact ⟨rfl, Q1.out.w1 3 rfl (.int .i64 n)⟩
theorem date_2 (n a b f k : Int) (H : ∀ w, PT w → Calls Tryd.prog 39 #[.int .i64 c, .int .i64 n] w fun e w' => e = .returned (datv a b f k) ∧ Below w.heap.size w w') (u : World) (hu : Own W [one c, one y, x2, one n, tri 0 0 0, x5] u) : Calls Tryd.prog 38 #[.pointer (some ⟨W.heap.size, 0, none⟩), .pointer (some ⟨W.heap.size + 3, 0, none⟩), .pointer (some ⟨W.heap.size + 4, 0, none⟩)] u fun e u' => e = .returned (.int .i64 k) ∧ Own W [one c, one y, x2, one n, tri a b f, x5] u' := by
  have Q0 := Lib.hid hu
  clear hu
  obtain ⟨c0, g0, z0⟩ := Q0.out.one 0 rfl
  rw [Nat.add_zero] at c0 g0 z0
  obtain ⟨c3, g3, z3⟩ := Q0.out.one 3 rfl
  obtain ⟨c40, c41, c42, g40, g41, g42, z4⟩ := row3 (Q0.out.r 4 _ rfl)
  go_enter Tryd.func38, Tryd.ntmps38
  go_wp2_with fail
  refine (H _ Q0.out.s.t).mono ?_
  rintro e u1 ⟨rfl, hb⟩
  have Q1 := Lib.hid (Q0.out.on hb)
  clear hb
  clear c0 g0 z0 c3 g3 z3 c40 c41 c42 g40 g41 g42 z4
  obtain ⟨c40, c41, c42, g40, g41, g42, z4⟩ := row3 (Q1.out.r 4 _ rfl)
  go_wp2_with fail
  go_ret
  exact ⟨rfl, Q1.out.w3 4 rfl (.int .i64 a) (.int .i64 b) (.int .i64 f)⟩
end
end Go.Proofs.YtnfeihbkemgecaaDoor

namespace Go.Proofs.YtnfeihbkemgecaaDoor
open Go.RowKit

section
variable (c y m d : Int) (W : World)
theorem pday_e1 (a b f k : Int) (HM : ∀ w, PT w → Calls Tryd.prog 22 #[.int .i64 c, .int .i64 y] w fun e w' => e = .returned (datv a b f k) ∧ Below w.heap.size w w') (hr : (k != 0) = true) (ht : PT W) : Calls Tryd.prog 9 #[.int .i64 c, .int .i64 y] W fun e w' => e = .returned (numv 0 k) ∧ Below W.heap.size W w' := by
  have hmf := mk_func
  have hT := ht
  clear ht
  go_enter Tryd.func9, Tryd.ntmps9
  go_wp2_with fail
  refine (chain3_at0 _ _ _ _ _ _ _ _ _ _ (Own W [one c, one y, tri 0 0 0, one 0, one 0, fnDay W]) (Own W [one c, one y, tri a b f, one 0, one 0, fnDay W]) (fun _ h => h.r 5 _ rfl) Tryd.call21 (fun u hu => day_1 W c y _ _ _ a b f k HM u hu) hr _ (Own.six hT _ _ _ _ _ _)).mono ?_
  rintro e w1 ⟨rfl, q⟩
  have Q := Lib.hid q
  clear q
  obtain ⟨c4, g4, z4⟩ := Q.out.one 4 rfl
  go_wp2_with fail
  go_ret2
  exact ⟨rfl, Q.out.s.b⟩
theorem pday_ok (a b f n1 n : Int) (b1 : -1 ≤ n1) (b2 : n1 ≤ 365250000100) (HM : ∀ w, PT w → Calls Tryd.prog 22 #[.int .i64 c, .int .i64 y] w fun e w' => e = .returned (datv a b f 0) ∧ Below w.heap.size w w') (HT : ∀ w, PT w → Calls Tryd.prog 24 #[.int .i64 c, dtv a b f] w fun e w' => e = .returned (numv n1 0) ∧ Below w.heap.size w w') (HO : ∀ w, Calls Tryd.prog 26 #[.int .i64 (n1 + 1), .int .i64 0] w fun e w' => e = .returned (numv n 0) ∧ Below w.heap.size w w') (ht : PT W) : Calls Tryd.prog 9 #[.int .i64 c, .int .i64 y] W fun e w' => e = .returned (numv n 0) ∧ Below W.heap.size W w' := by
  have hmf := mk_func
  have hT := ht
  clear ht
  go_enter Tryd.func9, Tryd.ntmps9
  go_wp2_with fail
  refine (chain3_end _ _ _ _ _ _ _ _ _ _ (Own W [one c, one y, tri 0 0 0, one 0, one 0, fnDay W]) (Own W [one c, one y, tri a b f, one 0, one 0, fnDay W]) (Own W [one c, one y, tri a b f, one n1, one 0, fnDay W]) (Own W [one c, one y, tri a b f, one n1, one n, fnDay W]) (fun _ h => h.r 5 _ rfl) (fun _ h => h.r 5 _ rfl) (fun _ h => h.r 5 _ rfl) Tryd.call21 (fun u hu => day_1 W c y _ _ _ a b f 0 HM u hu) Tryd.call23 (fun u hu => day_2 W c y _ _ a b f n1 0 HT u hu) Tryd.call25 (fun u hu => day_3 W c y _ _ n1 n 0 b1 b2 HO u hu) _ (Own.six hT _ _ _ _ _ _)).mono ?_
  rintro e w1 ⟨rfl, q⟩
  have Q := Lib.hid q
  clear q
  obtain ⟨c4, g4, z4⟩ := Q.out.one 4 rfl
  go_wp2_with fail
  go_ret2
  exact ⟨rfl, Q.out.s.b⟩
theorem pday_any (hw : (Lit.int .i64 c).wf = true) (ht : PT W) : Calls Tryd.prog 9 #[.int .i64 c, .int .i64 y] W fun e w' => e = .returned (numv (edN c y) (epE c y)) ∧ Below W.heap.size W w' := by
  have HM := fun w ht => pfu_any c y w hw ht
  by_cases h : epE c y = 0
  · have hc := epE_okC h
    obtain ⟨y1, y2⟩ := epE_inY h
    obtain ⟨l1, l2⟩ := lab_bd c y
    have f1 := (off_all l1 l2).1
    obtain ⟨n1, n2⟩ := marN_bd hc y1 y2
    obtain ⟨t1, t2⟩ := mar_to hc y1 y2 (k := off (lab c y)) (by omega) (by omega)
    have HT := fun w (ht : PT w) => ctoday_any y (pfM (lab c y)) (pfD (lab c y)) w c ht.c
    rw [show tE c y (pfM (lab c y)) (pfD (lab c y)) = 0 from t1, show tN c y (pfM (lab c y)) (pfD (lab c y)) = marN c y + off (lab c y) from t2] at HT
    rw [(pu_ok h).1, (pu_ok h).2.1, (pu_ok h).2.2, h] at HM
    have HO := fun w => aft_yes (marN c y + off (lab c y) + 1) 0 w (wOk_iff.2 (by omega))
    rw [eaN_aft] at HO
    rw [(ed_ok h).1, h]
    exact pday_ok c y W _ _ _ _ _ (by omega) (by omega) HM HT HO ht
  · rw [(ed_no h).1]
    exact pday_e1 c y W _ _ _ _ HM (tE_ne h) ht
theorem pdate_e1 (n k : Int) (HD : ∀ w, PT w → Calls Tryd.prog 9 #[.int .i64 c, .int .i64 y] w fun e w' => e = .returned (numv n k) ∧ Below w.heap.size w w') (hr : (k != 0) = true) (ht : PT W) : Calls Tryd.prog 16 #[.int .i64 c, .int .i64 y] W fun e w' => e = .returned (datv 0 0 0 k) ∧ Below W.heap.size W w' := by
  have hmf := mk_func
  have hT := ht
  clear ht
  go_enter Tryd.func16, Tryd.ntmps16
  go_wp2_with fail
  refine (chain2_at0 _ _ _ _ _ _ _ _ (Own W [one c, one y, tri 0 0 0, one 0, tri 0 0 0, fnDate W]) (Own W [one c, one y, tri 0 0 0, one n, tri 0 0 0, fnDate W]) (fun _ h => h.r 5 _ rfl) Tryd.call37 (fun u hu => date_1 W c y _ _ _ n k HD u hu) hr _ (Own.six hT _ _ _ _ _ _)).mono ?_
  rintro e w1 ⟨rfl, q⟩
  have Q := Lib.hid q
  clear q
  obtain ⟨c20, c21, c22, g20, g21, g22, z2⟩ := row3 (Q.out.r 2 _ rfl)
  obtain ⟨c40, c41, c42, g40, g41, g42, z4⟩ := row3 (Q.out.r 4 _ rfl)
  go_wp2_with fail
  generalize hu : (((w1.setCell ⟨W.heap.size + 2, 0, none⟩ (.int .i64 0)).setCell ⟨W.heap.size + 2, 1, none⟩ (.int .i64 0)).setCell ⟨W.heap.size + 2, 2, none⟩ (.int .i64 0)) = u
  obtain ⟨k0, k1, k2⟩ := three_set _ _ _ (Q.out.r 2 _ rfl) hu
  have Hb := Lib.hid (below_set3 Q.out.s.b (Nat.le_add_right _ _) _ _ _ hu)
  clear hu
  exact bodyPost_ret (v := datv (0) (0) (0) (k)) (by simp [results, Tryd.results16, go_sem, k0, k1, k2]) rfl ⟨rfl, Hb.out⟩
theorem pdate_ok (n a b f k : Int) (HD : ∀ w, PT w → Calls Tryd.prog 9 #[.int .i64 c, .int .i64 y] w fun e w' => e = .returned (numv n 0) ∧ Below w.heap.size w w') (HF : ∀ w, PT w → Calls Tryd.prog 39 #[.int .i64 c, .int .i64 n] w fun e w' => e = .returned (datv a b f k) ∧ Below w.heap.size w w') (ht : PT W) : Calls Tryd.prog 16 #[.int .i64 c, .int .i64 y] W fun e w' => e = .returned (datv a b f k) ∧ Below W.heap.size W w' := by
  have hmf := mk_func
  have hT := ht
  clear ht
  go_enter Tryd.func16, Tryd.ntmps16
  go_wp2_with fail
  refine (chain2_end _ _ _ _ _ _ _ _ (Own W [one c, one y, tri 0 0 0, one 0, tri 0 0 0, fnDate W]) (Own W [one c, one y, tri 0 0 0, one n, tri 0 0 0, fnDate W]) (Own W [one c, one y, tri 0 0 0, one n, tri a b f, fnDate W]) (fun _ h => h.r 5 _ rfl) (fun _ h => h.r 5 _ rfl) Tryd.call37 (fun u hu => date_1 W c y _ _ _ n 0 HD u hu) Tryd.call38 (fun u hu => date_2 W c y _ _ n a b f k HF u hu) _ (Own.six hT _ _ _ _ _ _)).mono ?_
  rintro e w1 ⟨rfl, q⟩
  have Q := Lib.hid q
  clear q
  obtain ⟨c20, c21, c22, g20, g21, g22, z2⟩ := row3 (Q.out.r 2 _ rfl)
  obtain ⟨c40, c41, c42, g40, g41, g42, z4⟩ := row3 (Q.out.r 4 _ rfl)
  go_wp2_with fail
  generalize hu : (((w1.setCell ⟨W.heap.size + 2, 0, none⟩ (.int .i64 a)).setCell ⟨W.heap.size + 2, 1, none⟩ (.int .i64 b)).setCell ⟨W.heap.size + 2, 2, none⟩ (.int .i64 f)) = u
  obtain ⟨k0, k1, k2⟩ := three_set _ _ _ (Q.out.r 2 _ rfl) hu
  have Hb := Lib.hid (below_set3 Q.out.s.b (Nat.le_add_right _ _) _ _ _ hu)
  clear hu
  exact bodyPost_ret (v := datv (a) (b) (f) (k)) (by simp [results, Tryd.results16, go_sem, k0, k1, k2]) rfl ⟨rfl, Hb.out⟩
theorem pdate_any (hw : (Lit.int .i64 c).wf = true) (ht : PT W) : Calls Tryd.prog 16 #[.int .i64 c, .int .i64 y] W fun e w' => e = .returned (datv (edY c y) (edM c y) (edD c y) (epE c y)) ∧ Below W.heap.size W w' := by
  have HD := fun w ht => pday_any c y w hw ht
  by_cases h : epE c y = 0
  · rw [(ed_ok h).1, h] at HD
    have HF := fun w (ht : PT w) => cfrom_any (eaN c y) w c ht.c
    rw [(ea_from h).1, (ea_from h).2.1, (ea_from h).2.2.1, (ea_from h).2.2.2] at HF
    rw [(ed_ok h).2.1, (ed_ok h).2.2.1, (ed_ok h).2.2.2, h]
    exact pdate_ok c y W _ _ _ _ _ HD HF ht
  · rw [(ed_no h).2.1, (ed_no h).2.2.1, (ed_no h).2.2.2]
    exact pdate_e1 c y W _ _ HD (tE_ne h) ht
end
end Go.Proofs.YtnfeihbkemgecaaDoor
