/- Scanners in memory; a deferred closure that recovers in a region that draws its order; caught, mustExist, mustBeGood, next, acceptBetween, New. -/
import Derived.Test.YtlodijncaojifaaDoorNa
import Derived.Test.YtlodijncaojifaaDoorKa
import Derived.Defers
import Derived.Recover
namespace Go.Proofs.YtlodijncaojifaaDoor
open Go.RowKit

/-! Every block but one is as it was. -/
structure Bt (b : Nat) (w w' : World) : Prop where
  os : w'.os = w.os
  tape : w'.tape = w.tape
  output : w'.output = w.output
  size : w.heap.size ≤ w'.heap.size
  block : ∀ j, j < w.heap.size → j ≠ b → w'.heap[j]? = w.heap[j]?
theorem Bt.refl (b : Nat) (w : World) : Bt b w w := ⟨rfl, rfl, rfl, Nat.le_refl _, fun _ _ _ => rfl⟩
theorem Bt.trans {b : Nat} {w w' w'' : World} (h : Bt b w w') (h' : Bt b w' w'') : Bt b w w'' :=
  ⟨h'.os.trans h.os, h'.tape.trans h.tape, h'.output.trans h.output, Nat.le_trans h.size h'.size, fun j h1 h2 => (h'.block j (Nat.lt_of_lt_of_le h1 h.size) h2).trans (h.block j h1 h2)⟩
theorem Bt.of_below {b : Nat} {w w' : World} (h : Below w.heap.size w w') : Bt b w w' := ⟨h.os, h.tape, h.output, h.size, fun j h1 _ => h.block j h1⟩
theorem Bt.dn (b : Nat) (w : World) (n : Nat) : Bt b w (w.drewN n) := ⟨rfl, rfl, rfl, Nat.le_refl _, fun _ _ _ => rfl⟩
theorem Bt.set (b : Nat) (w : World) (o : Nat) (v : Value) : Bt b w (w.setCell ⟨b, o, none⟩ v) := ⟨rfl, rfl, rfl, by simp, fun j _ h2 => Below.heap_setCell _ _ _ _ h2⟩
theorem Bt.al (b : Nat) (w : World) (o : Obj) : Bt b w (w.alloc o) := .of_below ((Below.refl _ _).alloc (Nat.le_refl _) o)
theorem Bt.below {b B : Nat} {w w' : World} (h : Bt b w w') (hB : B ≤ b) (hs : B ≤ w.heap.size) : Below B w w' := ⟨h.os, h.tape, h.output, h.size, fun j hj => h.block j (by omega) (by omega)⟩
theorem Bt.row {b c : Nat} {o : Obj} {w w' : World} (h : Bt b w w') (hn : c ≠ b) (hr : w.heap[c]? = some o) : w'.heap[c]? = some o := by
  rw [h.block c (Array.getElem?_eq_some_iff.1 hr).1 hn]; exact hr
theorem Bt.cell {b c i : Nat} {v : Value} {w w' : World} (h : Bt b w w') (hn : c ≠ b) (hr : w.cell? ⟨c, i, none⟩ = some v) : w'.cell? ⟨c, i, none⟩ = some v :=
  (World.cell?_of_block (a := ⟨c, i, none⟩) (h.block c (World.block_lt_of_cell? w _ hr) hn)).trans hr
theorem Bt.frozen {b c i : Nat} {w w' : World} (h : Bt b w w') (hn : c ≠ b) (hl : c < w.heap.size) (hr : w.frozen? ⟨c, i, none⟩ = false) : w'.frozen? ⟨c, i, none⟩ = false :=
  (World.frozen?_of_block (a := ⟨c, i, none⟩) (h.block c hl hn)).trans hr
theorem row_dn {w : World} {b : Nat} {o : Obj} (h : w.heap[b]? = some o) (n : Nat) : (w.drewN n).heap[b]? = some o := h
theorem row_lt {w : World} {b : Nat} {o : Obj} (h : w.heap[b]? = some o) : b < w.heap.size := (Array.getElem?_eq_some_iff.1 h).1
theorem row_kept {w w' : World} {b : Nat} {o : Obj} (h : w.heap[b]? = some o) (hb : Below w.heap.size w w') : w'.heap[b]? = some o := by
  rw [hb.block _ (row_lt h)]; exact h

/-- A scanner in memory. -/
abbrev scO (S : ByteArray) (k : Nat) (bad : Bool) : Obj := .cells #[.string S, .int .i64 k, .bool bad] 52
theorem sc_facts {w : World} {b k : Nat} {S : ByteArray} {bad : Bool} (h : w.heap[b]? = some (scO S k bad)) :
    w.cell? ⟨b, 0, none⟩ = some (.string S) ∧ w.cell? ⟨b, 1, none⟩ = some (.int .i64 k) ∧ w.cell? ⟨b, 2, none⟩ = some (.bool bad) ∧
    w.frozen? ⟨b, 0, none⟩ = false ∧ w.frozen? ⟨b, 1, none⟩ = false ∧ w.frozen? ⟨b, 2, none⟩ = false ∧ b < w.heap.size :=
  ⟨by rw [cell_of_row w b 0 _ _ _ h]; rfl, by rw [cell_of_row w b 1 _ _ _ h]; rfl, by rw [cell_of_row w b 2 _ _ _ h]; rfl, frozen_of_row w b 0 _ _ h, frozen_of_row w b 1 _ _ h, frozen_of_row w b 2 _ _ h, row_lt h⟩
theorem sc_bad {w : World} {b k : Nat} {S : ByteArray} {bad : Bool} (h : w.heap[b]? = some (scO S k bad)) : (w.setCell ⟨b, 2, none⟩ (.bool true)).heap[b]? = some (scO S k true) := heap_setCell_same w b 2 _ _ _ h
theorem sc_at {w : World} {b k : Nat} {S : ByteArray} {bad : Bool} (h : w.heap[b]? = some (scO S k bad)) (n : Nat) : (w.setCell ⟨b, 1, none⟩ (.int .i64 n)).heap[b]? = some (scO S n bad) := heap_setCell_same w b 1 _ _ _ h
abbrev sgV : Value := .iface 42 (.int .i64 6)
abbrev sgP : PanicEntry := { v := sgV, recovered := false }
abbrev xp (b : Nat) : Value := .pointer (some ⟨b, 0, none⟩)

/-! A region that draws its order, in a deferred call. -/
theorem wpS_region_draw {P : Program} {ops : Array Oper} {Q : Exit → Act → List Frame → World → Prop} {a : Act} {cs : List Frame} {w : World} {id : Nat}
    (h : ∀ t, wpOpsS P ops Q (Region.schedule (P.follows .mixedOrders) ops t) a cs { w with drawn := w.drawn + 1 }) : (Code.region id ops true).wpS P Q a cs w :=
  fun b k hb hr => let ⟨e, a', cs', w', q, r⟩ := wp_opsS _ a cs _ (h _) b k hb hr; ⟨e, a', cs', w', q, .of_steps (.one step_region_draw) r⟩
theorem sched3 {ops : Array Oper} (hs : ops.size = 3) (h0 : Region.ready .any ops #[false, false, false] = [0, 1]) (h1 : Region.ready .any ops #[true, false, false] = [1]) (h2 : Region.ready .any ops #[false, true, false] = [0]) (h3 : Region.ready .any ops #[true, true, false] = [2]) (t : Nat) :
    Region.schedule true ops t = [0, 1, 2] ∨ Region.schedule true ops t = [1, 0, 2] := by
  have go : ∀ (n t : Nat) (L : Array Bool) (acc rs : List Nat), Region.ready .any ops L = rs → Region.linearise.go .any ops (n + 1) t L acc = match rs[t % rs.length]? with | some i => Region.linearise.go .any ops n (t / rs.length) (L.setIfInBounds i true) (i :: acc) | none => acc.reverse := by
    intro n t L acc rs e; subst e; rfl
  have e : Region.schedule true ops t = Region.linearise.go .any ops 3 t #[false, false, false] [] := by
    simp only [Region.schedule, Bool.true_or, if_true, Region.linearise, hs]; rfl
  rw [e, go 2 t _ _ _ h0]
  have : t % 2 = 0 ∨ t % 2 = 1 := by omega
  rcases this with g | g
  · left
    simp only [List.length_cons, List.length_nil, g]
    show Region.linearise.go .any ops 2 _ #[true, false, false] [0] = _
    rw [go 1 _ _ _ _ h1]
    simp only [List.length_cons, List.length_nil, Nat.zero_add, Nat.mod_one]
    show Region.linearise.go .any ops 1 _ #[true, true, false] [1, 0] = _
    rw [go 0 _ _ _ _ h3]
    simp only [List.length_cons, List.length_nil, Nat.zero_add, Nat.mod_one]
    rfl
  · right
    simp only [List.length_cons, List.length_nil, g]
    show Region.linearise.go .any ops 2 _ #[false, true, false] [1] = _
    rw [go 1 _ _ _ _ h2]
    simp only [List.length_cons, List.length_nil, Nat.zero_add, Nat.mod_one]
    show Region.linearise.go .any ops 1 _ #[true, true, false] [0, 1] = _
    rw [go 0 _ _ _ _ h3]
    simp only [List.length_cons, List.length_nil, Nat.zero_add, Nat.mod_one]
    rfl

/-! caught -/
theorem cau_idle (x : Value) (w : World) : Calls Tryd.prog 24 #[x, .nilIface] w fun e w' => e = .returned (.bool false) ∧ w' = w := by
  have hq : ∀ w, (binOp .eql 20 .nilIface .nilIface).run Tryd.prog w = .ok (.bool true) w := fun _ => by kernel_rfl
  go_enter Tryd.func24, Tryd.ntmps24
  go_wp2
  go_ret
  exact ⟨rfl, rfl⟩
set_option maxRecDepth 100000 in
theorem cau_some {S : ByteArray} {b k : Nat} {bad : Bool} {w : World} (h : w.heap[b]? = some (scO S k bad)) : Calls Tryd.prog 24 #[xp b, sgV] w fun e w' => e = .returned (.bool true) ∧ w' = w.setCell ⟨b, 2, none⟩ (.bool true) := by
  obtain ⟨c0, c1, c2, f0, f1, f2, hl⟩ := sc_facts h
  have hq : ∀ w, (binOp .eql 20 sgV .nilIface).run Tryd.prog w = .ok (.bool false) w := fun _ => by kernel_rfl
  go_enter Tryd.func24, Tryd.ntmps24
  go_wp2
  go_ret
  exact ⟨rfl, rfl⟩
set_option maxRecDepth 100000 in
theorem cau_nil (w : World) : Calls Tryd.prog 24 #[.pointer none, sgV] w fun e w' => e = .returned (.bool true) ∧ w' = w := by
  have hq : ∀ w, (binOp .eql 20 sgV .nilIface).run Tryd.prog w = .ok (.bool false) w := fun _ => by kernel_rfl
  go_enter Tryd.func24, Tryd.ntmps24
  go_wp2
  go_ret
  exact ⟨rfl, rfl⟩
/-! mustExist, mustBeGood -/
theorem mex_ok (b : Nat) (w : World) : Calls Tryd.prog 41 #[xp b] w fun e w' => e = .returned (.tuple #[]) ∧ w = w' := by
  go_enter Tryd.func41, Tryd.ntmps41
  go_wp2
  go_end0
  exact ⟨rfl, rfl⟩
theorem mex_nil (w : World) : Calls Tryd.prog 41 #[.pointer none] w fun e w' => e = .panicked [sgP] ∧ w = w' := by
  go_enter Tryd.func41, Tryd.ntmps41
  go_wp2
  exact ⟨rfl, rfl, rfl⟩
theorem mbg_nil (w : World) : Calls Tryd.prog 25 #[.pointer none] w fun e w' => e = .panicked [sgP] ∧ w = w' := by
  go_enter Tryd.func25, Tryd.ntmps25
  go_wp2_with fail
  refine (mex_nil _).mono ?_
  rintro e w' ⟨rfl, rfl⟩
  exact ⟨rfl, rfl, rfl⟩
theorem mbg_ok {S : ByteArray} {b k : Nat} {w : World} (h : w.heap[b]? = some (scO S k false)) : Calls Tryd.prog 25 #[xp b] w fun e w' => e = .returned (.tuple #[]) ∧ w = w' := by
  obtain ⟨c0, c1, c2, f0, f1, f2, hl⟩ := sc_facts h
  go_enter Tryd.func25, Tryd.ntmps25
  go_wp2_with fail
  refine (mex_ok b _).mono ?_
  rintro e w' ⟨rfl, rfl⟩
  go_wp2_with fail
  go_end0
  exact ⟨rfl, rfl⟩
theorem mbg_bad {S : ByteArray} {b k : Nat} {w : World} (h : w.heap[b]? = some (scO S k true)) : Calls Tryd.prog 25 #[xp b] w fun e w' => e = .panicked [sgP] ∧ w = w' := by
  obtain ⟨c0, c1, c2, f0, f1, f2, hl⟩ := sc_facts h
  go_enter Tryd.func25, Tryd.ntmps25
  go_wp2_with fail
  refine (mex_ok b _).mono ?_
  rintro e w' ⟨rfl, rfl⟩
  go_wp2_with fail
  exact ⟨rfl, rfl, rfl⟩
/-! New -/
theorem new25_any (S : ByteArray) (w : World) : Calls Tryd.prog 8 #[.string S] w fun e w' => e = .returned (xp w.heap.size) ∧ w'.heap[w.heap.size]? = some (scO S 0 false) ∧ Below w.heap.size w w' := by
  go_enter Tryd.func8, Tryd.ntmps8
  go_wp2
  go_ret
  exact ⟨rfl, heap_alloc_new w _, (Below.refl _ _).alloc (Nat.le_refl _) _⟩
/-! next, acceptBetween -/
def nxB (S : ByteArray) (k : Nat) : Int := if k < S.size then bt S k else 0
theorem nxt_any {S : ByteArray} {b k : Nat} {bad : Bool} {w : World} (h : w.heap[b]? = some (scO S k bad)) (hk : k ≤ S.size) : Calls Tryd.prog 38 #[xp b] w fun e w' => e = .returned (.int .u8 (nxB S k)) ∧ ∃ m, w' = w.drewN m := by
  obtain ⟨c0, c1, c2, f0, f1, f2, hl⟩ := sc_facts h
  clear h
  by_cases hlt : k < S.size
  · have e1 : ((k : Int) == (S.size : Int)) = false := beq_eq_false_iff_ne.2 (by omega)
    have hx := idx_str S k (by omega) (by omega)
    rw [Int.toNat_natCast] at hx
    have e2 : nxB S k = bt S k := if_pos hlt
    have E := Lib.hid e2
    generalize bt S k = x at *
    generalize nxB S k = y at *
    clear e2 hlt hk
    go_enter Tryd.func38, Tryd.ntmps38
    go_wp2_with fail
    go_quiet (fail)
    go_wp2_with fail
    go_quiet (fail)
    go_wp2_with fail
    go_ret
    exact ⟨by rw [E.out]; rfl, _, dn_dn _ _ _⟩
  · have e1 : ((k : Int) == (S.size : Int)) = true := beq_iff_eq.2 (by omega)
    have e2 : nxB S k = 0 := if_neg hlt
    have E := Lib.hid e2
    generalize nxB S k = y at *
    clear e2 hlt hk
    go_enter Tryd.func38, Tryd.ntmps38
    go_wp2_with fail
    go_quiet (fail)
    go_wp2_with fail
    go_ret
    exact ⟨by rw [E.out]; rfl, _, rfl⟩
end Go.Proofs.YtlodijncaojifaaDoor
