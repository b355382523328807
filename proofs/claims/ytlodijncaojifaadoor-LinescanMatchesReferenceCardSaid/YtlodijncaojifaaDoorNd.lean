/- Package linescan: acceptBetween; Offset, Err, Peek, End. -/
import Derived.Test.YtlodijncaojifaaDoorNc
namespace Go.Proofs.YtlodijncaojifaaDoor
open Go.RowKit

abbrev big : Nat := 4611686018427387904
theorem sc_next {w : World} {b k : Nat} {S : ByteArray} {bad : Bool} (h : w.heap[b]? = some (scO S k bad)) : (w.setCell ⟨b, 1, none⟩ (.int .i64 ((k : Int) + 1))).heap[b]? = some (scO S (k + 1) bad) := sc_at h (k + 1)
theorem nx_lt {S : ByteArray} {k : Nat} (h : k < S.size) : nxB S k = bt S k := if_pos h
theorem nx_ge {S : ByteArray} {k : Nat} (h : ¬ k < S.size) : nxB S k = 0 := if_neg h
theorem abt_yes {S : ByteArray} {b k : Nat} {w : World} (h : w.heap[b]? = some (scO S k false)) (hk : k < S.size) (hs : S.size < big) {f l : Int} (h1 : f ≤ bt S k) (h2 : bt S k ≤ l) :
    Calls Tryd.prog 48 #[xp b, .int .u8 f, .int .u8 l] w fun e w' => e = .returned (.bool true) ∧ w'.heap[b]? = some (scO S (k + 1) false) ∧ Bt b w w' := by
  have hn := nxt_any h (by omega)
  rw [nx_lt hk] at hn
  generalize bt S k = x at *
  have d1 : decide (x < f) = false := dfalse (by omega)
  have d2 : decide (l < x) = false := dfalse (by omega)
  have d3 : ¬ x < f := by omega
  have d4 : ¬ l < x := by omega
  have kb : (k : Int) + 1 ≤ 9223372036854775807 := by have : k < 4611686018427387904 := Nat.lt_trans hk hs; omega
  clear h1 h2 hk hs
  go_enter Tryd.func48, Tryd.ntmps48
  go_wp2_with fail
  refine hn.mono ?_
  rintro e w1 ⟨rfl, m, rfl⟩
  have hr := row_dn h m
  have hb := Bt.dn b w m
  clear hn
  generalize w.drewN m = u at *
  obtain ⟨c0, c1, c2, f0, f1, f2, hl⟩ := sc_facts hr
  go_wp2_with fail
  go_ret
  exact ⟨rfl, sc_next hr, hb.trans (Bt.set b u 1 _)⟩
theorem abt_no {S : ByteArray} {b k : Nat} {w : World} (h : w.heap[b]? = some (scO S k false)) (hk : k ≤ S.size) {f l : Int} (hn : nxB S k < f ∨ l < nxB S k) :
    Calls Tryd.prog 48 #[xp b, .int .u8 f, .int .u8 l] w fun e w' => e = .returned (.bool false) ∧ w'.heap[b]? = some (scO S k false) ∧ Bt b w w' := by
  have hq := nxt_any h hk
  generalize nxB S k = x at *
  by_cases g : x < f
  · have d1 : decide (x < f) = true := dtrue g
    clear hn
    go_enter Tryd.func48, Tryd.ntmps48
    go_wp2_with fail
    refine hq.mono ?_
    rintro e w1 ⟨rfl, m, rfl⟩
    go_wp2_with fail
    go_ret
    exact ⟨rfl, row_dn h m, Bt.dn b w m⟩
  · have d1 : decide (x < f) = false := dfalse g
    have g2 : l < x := by omega
    have d2 : decide (l < x) = true := dtrue g2
    clear hn
    go_enter Tryd.func48, Tryd.ntmps48
    go_wp2_with fail
    refine hq.mono ?_
    rintro e w1 ⟨rfl, m, rfl⟩
    go_wp2_with fail
    go_ret
    exact ⟨rfl, row_dn h m, Bt.dn b w m⟩
/-! Offset -/
theorem cell_new (w : World) (o : Array Value) (t : TypeId) (v : Value) (h : o[0]? = some v) : (w.alloc (.cells o t)).cell? ⟨w.heap.size, 0, none⟩ = some v := by
  rw [cell_of_row _ _ 0 _ _ _ (heap_alloc_new w _)]; exact h
theorem off_any {S : ByteArray} {b k : Nat} {bad : Bool} {w : World} (h : w.heap[b]? = some (scO S k bad)) :
    Calls Tryd.prog 19 #[xp b] w fun e w' => e = .returned (.int .i64 k) ∧ Below w.heap.size w w' := by
  have hmf : ∀ (fn : Fn) (first cap : Array Value) (w : World), (Instr.makeFunc fn first cap).run Tryd.prog w = .ok (.func fn first cap) w := fun _ _ _ _ => rfl
  obtain ⟨c0, c1, c2, f0, f1, f2, hl⟩ := sc_facts h
  go_enter_defers Tryd.func19, Tryd.ntmps19
  go_wp2_with fail
  refine (mex_ok b _).mono ?_
  rintro e w1 ⟨rfl, rfl⟩
  go_wp2_with fail
  refine leaves_cons (f := 40) (args := #[xp w.heap.size]) (by simp) (by simp [go_sem]) ?_
  refine (ofc25_idl (x := xp b) (cell_new w _ _ _ rfl)).mono ?_
  rintro e u' w'' ⟨rfl, rfl, rfl⟩
  exact ⟨_, results_tmp rfl _ _ _, rfl, ((Below.refl _ _).alloc (Nat.le_refl _) _).drew⟩
theorem off_nil (w : World) :
    Calls Tryd.prog 19 #[.pointer none] w fun e w' => e = .returned (.int .i64 0) ∧ Below w.heap.size w w' := by
  have hmf : ∀ (fn : Fn) (first cap : Array Value) (w : World), (Instr.makeFunc fn first cap).run Tryd.prog w = .ok (.func fn first cap) w := fun _ _ _ _ => rfl
  go_enter_defers Tryd.func19, Tryd.ntmps19
  go_wp2_with fail
  refine (mex_nil _).mono ?_
  rintro e w1 ⟨rfl, rfl⟩
  refine leaves_cons (f := 40) (args := #[xp w.heap.size]) (by simp) (by simp [go_sem]) ?_
  refine (ofc25_cnil (cell_new w _ _ _ rfl) []).mono ?_
  rintro e u' w'' ⟨rfl, rfl, rfl⟩
  exact ⟨_, results_tmp rfl _ _ _, rfl, ((Below.refl _ _).alloc (Nat.le_refl _) _).drew⟩
end Go.Proofs.YtlodijncaojifaaDoor
