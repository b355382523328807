/- Package linescan: Err, Peek, End. -/
import Derived.Test.YtlodijncaojifaaDoorNd
namespace Go.Proofs.YtlodijncaojifaaDoor
open Go.RowKit

theorem Bt.drew {b : Nat} {w w' : World} (h : Bt b w w') : Bt b w w'.drew := ⟨h.os, h.tape, h.output, h.size, h.block⟩
/-- A scanner that has failed is as it was when it fails once more. -/
theorem same_bad {w : World} {b k B : Nat} {S : ByteArray} (h : w.heap[b]? = some (scO S k true)) : Below B w (w.setCell ⟨b, 2, none⟩ (.bool true)) := by
  refine ⟨rfl, rfl, rfl, by simp, fun j _ => ?_⟩
  by_cases e : j = b
  · rw [e, sc_bad h, h]
  · exact Below.heap_setCell _ _ _ _ e
theorem two_new (w : World) (x y : Array Value) (t1 t2 : TypeId) (v : Value) (h : y[0]? = some v) : ((w.alloc (.cells x t1)).alloc (.cells y t2)).cell? ⟨w.heap.size + 1, 0, none⟩ = some v ∧ ((w.alloc (.cells x t1)).alloc (.cells y t2)).frozen? ⟨w.heap.size + 1, 0, none⟩ = false := by
  have hr := heap_alloc_new (w.alloc (.cells x t1)) (.cells y t2)
  rw [show (w.alloc (.cells x t1)).heap.size = w.heap.size + 1 from by simp] at hr
  exact ⟨by rw [cell_of_row _ _ 0 _ _ _ hr]; exact h, frozen_of_row _ _ 0 _ _ hr⟩
theorem one_new (w : World) (x : Array Value) (o : Obj) (t1 : TypeId) (v : Value) (h : x[0]? = some v) : ((w.alloc (.cells x t1)).alloc o).cell? ⟨w.heap.size, 0, none⟩ = some v := by
  have := cell_new w x t1 v h
  exact (((Below.refl (w.alloc (.cells x t1)).heap.size _).alloc (Nat.le_refl _) o).cell (p := ⟨w.heap.size, 0, none⟩) (by simp)).trans this
theorem al2 (w : World) (o o' : Obj) : Below w.heap.size w ((w.alloc o).alloc o') := ((Below.refl _ _).alloc (Nat.le_refl _) o).alloc (by simp) o'
theorem err_ok {S : ByteArray} {b k : Nat} {w : World} (h : w.heap[b]? = some (scO S k false)) :
    Calls Tryd.prog 20 #[xp b] w fun e w' => e = .returned (.int .i64 0) ∧ Below w.heap.size w w' := by
  have hmf : ∀ (fn : Fn) (first cap : Array Value) (w : World), (Instr.makeFunc fn first cap).run Tryd.prog w = .ok (.func fn first cap) w := fun _ _ _ _ => rfl
  go_enter_defers Tryd.func20, Tryd.ntmps20
  go_wp2_with fail
  refine (mbg_ok (row_kept h (al2 w _ _))).mono ?_
  rintro e w1 ⟨rfl, rfl⟩
  go_wp2_with fail
  refine leaves_cons (f := 42) (args := #[xp w.heap.size, xp (w.heap.size + 1)]) (by simp) (by simp [go_sem]) ?_
  refine (erc25_idl (x := xp b) (by rw [← one_new w #[xp b] (.cells #[.int .i64 0] 42) 24 (xp b) rfl])).mono ?_
  rintro e u' w'' ⟨rfl, rfl, rfl⟩
  simp [Leaves, settle, results, Tryd.results20, go_sem]
  exact (((Below.refl _ _).alloc (Nat.le_refl _) _).alloc (by simp) _).drew
theorem err_bad {S : ByteArray} {b k : Nat} {w : World} (h : w.heap[b]? = some (scO S k true)) :
    Calls Tryd.prog 20 #[xp b] w fun e w' => e = .returned (.int .i64 6) ∧ Below w.heap.size w w' := by
  have hmf : ∀ (fn : Fn) (first cap : Array Value) (w : World), (Instr.makeFunc fn first cap).run Tryd.prog w = .ok (.func fn first cap) w := fun _ _ _ _ => rfl
  have hl := row_lt h
  go_enter_defers Tryd.func20, Tryd.ntmps20
  go_wp2_with fail
  have hr := row_kept h (al2 w (.cells #[xp b] 24) (.cells #[.int .i64 0] 42))
  refine (mbg_bad hr).mono ?_
  rintro e w1 ⟨rfl, rfl⟩
  refine leaves_cons (f := 42) (args := #[xp w.heap.size, xp (w.heap.size + 1)]) (by simp) (by simp [go_sem]) ?_
  have hq := two_new w #[xp b] #[.int .i64 0] 24 42 (.int .i64 0) rfl
  refine (erc25_cat (one_new w _ _ _ _ rfl) hr hq.1 hq.2 (by omega) []).mono ?_
  rintro e u' w'' ⟨rfl, rfl, rfl⟩
  have B1 := ((al2 w (.cells #[xp b] 24) (.cells #[.int .i64 0] 42)).trans (same_bad hr)).setCell (p := ⟨w.heap.size + 1, 0, none⟩) (by simp) (.int .i64 6)
  have C1 : (((w.alloc (.cells #[xp b] 24)).alloc (.cells #[.int .i64 0] 42)).setCell ⟨b, 2, none⟩ (.bool true)).heap[w.heap.size + 1]? = some (.cells #[.int .i64 0] 42) := by
    rw [Below.heap_setCell _ _ _ _ (by show w.heap.size + 1 ≠ b; omega)]
    exact row_new1 w _ _
  have C2 := heap_setCell_same _ _ 0 _ _ (.int .i64 6) C1
  have C3 : ((((w.alloc (.cells #[xp b] 24)).alloc (.cells #[.int .i64 0] 42)).setCell ⟨b, 2, none⟩ (.bool true)).setCell ⟨w.heap.size + 1, 0, none⟩ (.int .i64 6)).cell? ⟨w.heap.size + 1, 0, none⟩ = some (.int .i64 6) := by
    rw [cell_of_row _ _ 0 _ _ _ C2]; rfl
  generalize ((((w.alloc (.cells #[xp b] 24)).alloc (.cells #[.int .i64 0] 42)).setCell ⟨b, 2, none⟩ (.bool true)).setCell ⟨w.heap.size + 1, 0, none⟩ (.int .i64 6)) = u at *
  simp [Leaves, settle, results, Tryd.results20, go_sem, C3]
  exact B1.drew
theorem err_nil (w : World) :
    Calls Tryd.prog 20 #[.pointer none] w fun e w' => e = .returned (.int .i64 6) ∧ Below w.heap.size w w' := by
  have hmf : ∀ (fn : Fn) (first cap : Array Value) (w : World), (Instr.makeFunc fn first cap).run Tryd.prog w = .ok (.func fn first cap) w := fun _ _ _ _ => rfl
  go_enter_defers Tryd.func20, Tryd.ntmps20
  go_wp2_with fail
  refine (mbg_nil _).mono ?_
  rintro e w1 ⟨rfl, rfl⟩
  refine leaves_cons (f := 42) (args := #[xp w.heap.size, xp (w.heap.size + 1)]) (by simp) (by simp [go_sem]) ?_
  have hq := two_new w #[.pointer none] #[.int .i64 0] 24 42 (.int .i64 0) rfl
  refine (erc25_cnil (one_new w _ _ _ _ rfl) hq.1 hq.2 []).mono ?_
  rintro e u' w'' ⟨rfl, rfl, rfl⟩
  have B1 := (al2 w (.cells #[.pointer none] 24) (.cells #[.int .i64 0] 42)).setCell (p := ⟨w.heap.size + 1, 0, none⟩) (by simp) (.int .i64 6)
  have C2 := heap_setCell_same _ _ 0 _ _ (.int .i64 6) (row_new1 w (.cells #[.pointer none] 24) (.cells #[.int .i64 0] 42))
  have C3 : (((w.alloc (.cells #[.pointer none] 24)).alloc (.cells #[.int .i64 0] 42)).setCell ⟨w.heap.size + 1, 0, none⟩ (.int .i64 6)).cell? ⟨w.heap.size + 1, 0, none⟩ = some (.int .i64 6) := by
    rw [cell_of_row _ _ 0 _ _ _ C2]; rfl
  generalize (((w.alloc (.cells #[.pointer none] 24)).alloc (.cells #[.int .i64 0] 42)).setCell ⟨w.heap.size + 1, 0, none⟩ (.int .i64 6)) = u at *
  simp [Leaves, settle, results, Tryd.results20, go_sem, C3]
  exact B1.drew
/-! Peek -/
abbrev bx1 (b : Nat) : Obj := .cells #[xp b] 24
theorem al1 (w : World) (o : Obj) : Below w.heap.size w (w.alloc o) := (Below.refl _ _).alloc (Nat.le_refl _) o
theorem pk_ok {S : ByteArray} {b k : Nat} {w : World} (h : w.heap[b]? = some (scO S k false)) (hk : k ≤ S.size) :
    Calls Tryd.prog 16 #[xp b] w fun e w' => e = .returned (.int .u8 (nxB S k)) ∧ Below w.heap.size w w' := by
  have hmf : ∀ (fn : Fn) (first cap : Array Value) (w : World), (Instr.makeFunc fn first cap).run Tryd.prog w = .ok (.func fn first cap) w := fun _ _ _ _ => rfl
  go_enter_defers Tryd.func16, Tryd.ntmps16
  go_wp2_with fail
  have hr := row_kept h (al1 w (bx1 b))
  refine (mbg_ok hr).mono ?_
  rintro e w1 ⟨rfl, rfl⟩
  go_wp2_with fail
  have hb := al1 w (bx1 b)
  have hp := cell_new w #[xp b] 24 _ rfl
  generalize w.alloc (bx1 b) = u at *
  refine (nxt_any hr hk).mono ?_
  rintro e w1 ⟨rfl, m, rfl⟩
  go_wp2_with fail
  refine leaves_cons (f := 37) (args := #[xp w.heap.size]) (by simp) (by simp [go_sem]) ?_
  refine (pkc25_idl (x := xp b) (w := u.drewN m) hp).mono ?_
  rintro e u' w'' ⟨rfl, rfl, rfl⟩
  exact ⟨_, results_tmp rfl _ _ _, rfl, (below_dn hb m).drew⟩
theorem pk_bad {S : ByteArray} {b k : Nat} {w : World} (h : w.heap[b]? = some (scO S k true)) :
    Calls Tryd.prog 16 #[xp b] w fun e w' => e = .returned (.int .u8 0) ∧ Below w.heap.size w w' := by
  have hmf : ∀ (fn : Fn) (first cap : Array Value) (w : World), (Instr.makeFunc fn first cap).run Tryd.prog w = .ok (.func fn first cap) w := fun _ _ _ _ => rfl
  go_enter_defers Tryd.func16, Tryd.ntmps16
  go_wp2_with fail
  have hr := row_kept h (al1 w (bx1 b))
  refine (mbg_bad hr).mono ?_
  rintro e w1 ⟨rfl, rfl⟩
  refine leaves_cons (f := 37) (args := #[xp w.heap.size]) (by simp) (by simp [go_sem]) ?_
  refine (pkc25_cat (cell_new w _ _ _ rfl) hr []).mono ?_
  rintro e u' w'' ⟨rfl, rfl, rfl⟩
  exact ⟨_, results_tmp rfl _ _ _, rfl, ((al1 w (bx1 b)).trans (same_bad hr)).drew⟩
/-! End -/
theorem end_ok {S : ByteArray} {b k : Nat} {w : World} (h : w.heap[b]? = some (scO S k false)) (hk : S.size ≤ k) :
    Calls Tryd.prog 17 #[xp b] w fun e w' => e = .returned (.tuple #[]) ∧ Below w.heap.size w w' := by
  have hmf : ∀ (fn : Fn) (first cap : Array Value) (w : World), (Instr.makeFunc fn first cap).run Tryd.prog w = .ok (.func fn first cap) w := fun _ _ _ _ => rfl
  have d1 : decide ((k : Int) < (S.size : Int)) = false := dfalse (by omega)
  have d2 : decide (k < S.size) = false := dfalse (by omega)
  have d3 : ¬ k < S.size := by omega
  clear hk
  go_enter_defers Tryd.func17, Tryd.ntmps17
  go_wp2_with fail
  have hr := row_kept h (al1 w (bx1 b))
  refine (mbg_ok hr).mono ?_
  rintro e w1 ⟨rfl, rfl⟩
  have hb := al1 w (bx1 b)
  have hp := cell_new w #[xp b] 24 _ rfl
  generalize w.alloc (bx1 b) = u at *
  obtain ⟨c0, c1, c2, f0, f1, f2, hl⟩ := sc_facts hr
  go_wp2_with fail
  go_quiet (fail)
  go_wp2_with fail
  refine leaves_cons (f := 39) (args := #[xp w.heap.size]) (by simp) (by simp [go_sem]) ?_
  refine (enc25_idl (x := xp b) (w := World.drewN u _) hp).mono ?_
  rintro e u' w'' ⟨rfl, rfl, rfl⟩
  exact ⟨_, results_none rfl _ _ _, rfl, (below_dn hb _).drew⟩
theorem end_no {S : ByteArray} {b k : Nat} {w : World} (h : w.heap[b]? = some (scO S k false)) (hk : k < S.size) :
    Calls Tryd.prog 17 #[xp b] w fun e w' => e = .returned (.tuple #[]) ∧ w'.heap[b]? = some (scO S k true) ∧ Bt b w w' := by
  have hmf : ∀ (fn : Fn) (first cap : Array Value) (w : World), (Instr.makeFunc fn first cap).run Tryd.prog w = .ok (.func fn first cap) w := fun _ _ _ _ => rfl
  have d1 : decide ((k : Int) < (S.size : Int)) = true := dtrue (by omega)
  have d2 : decide (k < S.size) = true := dtrue (by omega)
  have d3 := hk
  clear hk
  go_enter_defers Tryd.func17, Tryd.ntmps17
  go_wp2_with fail
  have hr := row_kept h (al1 w (bx1 b))
  refine (mbg_ok hr).mono ?_
  rintro e w1 ⟨rfl, rfl⟩
  have hb := Bt.al b w (bx1 b)
  have hp := cell_new w #[xp b] 24 _ rfl
  generalize w.alloc (bx1 b) = u at *
  obtain ⟨c0, c1, c2, f0, f1, f2, hl⟩ := sc_facts hr
  go_wp2_with fail
  go_quiet (fail)
  go_wp2_with fail
  refine leaves_cons (f := 39) (args := #[xp w.heap.size]) (by simp) (by simp [go_sem]) ?_
  refine (enc25_cat (b := b) (w := World.drewN u _) hp hr []).mono ?_
  rintro e u' w'' ⟨rfl, rfl, rfl⟩
  exact ⟨_, results_none rfl _ _ _, rfl, sc_bad (w := World.drewN u _) hr, hb.trans ((Bt.dn b u _).trans (Bt.set b _ 2 _).drew)⟩
theorem end_bad {S : ByteArray} {b k : Nat} {w : World} (h : w.heap[b]? = some (scO S k true)) :
    Calls Tryd.prog 17 #[xp b] w fun e w' => e = .returned (.tuple #[]) ∧ Below w.heap.size w w' := by
  have hmf : ∀ (fn : Fn) (first cap : Array Value) (w : World), (Instr.makeFunc fn first cap).run Tryd.prog w = .ok (.func fn first cap) w := fun _ _ _ _ => rfl
  go_enter_defers Tryd.func17, Tryd.ntmps17
  go_wp2_with fail
  have hr := row_kept h (al1 w (bx1 b))
  refine (mbg_bad hr).mono ?_
  rintro e w1 ⟨rfl, rfl⟩
  refine leaves_cons (f := 39) (args := #[xp w.heap.size]) (by simp) (by simp [go_sem]) ?_
  refine (enc25_cat (cell_new w _ _ _ rfl) hr []).mono ?_
  rintro e u' w'' ⟨rfl, rfl, rfl⟩
  exact ⟨_, results_none rfl _ _ _, rfl, ((al1 w (bx1 b)).trans (same_bad hr)).drew⟩
end Go.Proofs.YtlodijncaojifaaDoor
