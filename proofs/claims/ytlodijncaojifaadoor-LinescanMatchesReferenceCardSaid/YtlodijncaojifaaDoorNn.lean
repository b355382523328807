/- Package linescan: Word. -/
import Derived.Test.YtlodijncaojifaaDoorNm
namespace Go.Proofs.YtlodijncaojifaaDoor
open Go.RowKit

theorem same_cell {w : World} {q : Nat} {v0 v : Value} (h : w.cell? ⟨q, 0, none⟩ = some v0) : (w.setCell ⟨q, 0, none⟩ v).cell? ⟨q, 0, none⟩ = some v := World.cell?_setCell_same w ⟨q, 0, none⟩ v h
theorem wo_ok {S : ByteArray} {b k g cap i : Nat} {ws : List ByteArray} {w : World} (h : w.heap[b]? = some (scO S k false)) (hk : k ≤ S.size) (hs : S.size < big) (hW : StrsIn g cap ws w) (hgb : g ≠ b) (hw : Wok ws) (h1 : 1 ≤ ws.length) (h2 : ws.length ≤ 1000000) (h3 : lgW ws < big) (hf : wdF S k ws = some i) :
    Calls Tryd.prog 9 #[xp b, .slice (some ⟨g, 0, none⟩) ws.length cap] w fun e w' => e = .returned (.int .i64 i) ∧ w'.heap[b]? = some (scO S (wdK S k ws) false) ∧ Bt b w w' := by
  have hmf : ∀ (fn : Fn) (first cap : Array Value) (w : World), (Instr.makeFunc fn first cap).run Tryd.prog w = .ok (.func fn first cap) w := fun _ _ _ _ => rfl
  have HA := Lib.hid (fun (u : World) (h : u.heap[b]? = some (scO S k false)) (hW : StrsIn g cap ws u) => acw_any h hk hs hW hgb hw h1 h2 h3)
  have HF := Lib.hid hf
  have hl := row_lt h
  clear hf hk hs hw h1 h2 h3
  go_enter_defers Tryd.func9, Tryd.ntmps9
  go_wp2_with fail
  obtain ⟨u, hu⟩ : ∃ u, u = (w.alloc (bx1 b)).alloc (.cells #[.int .i64 0] 3) := ⟨_, rfl⟩
  have B0 : Below w.heap.size w u := hu ▸ al2 w _ _
  have cp : u.cell? ⟨w.heap.size, 0, none⟩ = some (xp b) := hu ▸ one_new w #[xp b] _ _ _ rfl
  have cq : u.cell? ⟨w.heap.size + 1, 0, none⟩ = some (.int .i64 0) ∧ u.frozen? ⟨w.heap.size + 1, 0, none⟩ = false := hu ▸ two_new w _ _ _ _ _ rfl
  rw [← hu]
  clear hu
  have hr := row_kept h B0
  have hb := Bt.of_below (b := b) B0
  refine (mbg_ok hr).mono ?_
  rintro e w1 ⟨rfl, rfl⟩
  go_wp2_with fail
  refine (HA.out _ hr (hW.on B0)).mono ?_
  rintro e w2 ⟨hc, hr2, hb2⟩
  rcases hc with ⟨i', hi', rfl⟩ | ⟨hn, _⟩
  · obtain rfl : i = i' := by have := HF.out.symm.trans hi'; injection this
    have cp2 := hb2.cell (show w.heap.size ≠ b by omega) cp
    have cq2 := hb2.cell (show w.heap.size + 1 ≠ b by omega) cq.1
    have fq2 := hb2.frozen (show w.heap.size + 1 ≠ b by omega) (World.block_lt_of_cell? u _ cq.1) cq.2
    have c3 := same_cell (v := .int .i64 (i : Int)) cq2
    have cp3 := (Bt.set (w.heap.size + 1) w2 0 (.int .i64 (i : Int))).cell (show w.heap.size ≠ w.heap.size + 1 by omega) cp2
    have hr3 := (Bt.set (w.heap.size + 1) w2 0 (.int .i64 (i : Int))).row (show b ≠ w.heap.size + 1 by omega) hr2
    have hb3 := (hb.trans hb2).over (Bt.set (w.heap.size + 1) w2 0 (.int .i64 (i : Int))) (by omega)
    clear hi' cp cq hr hb hb2 hr2 cp2
    go_wp2_with fail
    refine leaves_cons (f := 23) (args := #[xp w.heap.size, xp (w.heap.size + 1)]) (by simp) (by simp [go_sem]) ?_
    refine (woc25_idl (x := xp b) cp3).mono ?_
    rintro e u' w'' ⟨rfl, rfl, rfl⟩
    generalize w2.setCell ⟨w.heap.size + 1, 0, none⟩ (.int .i64 (i : Int)) = u3 at *
    simp [Leaves, settle, results, Tryd.results9, go_sem, c3]
    exact ⟨hr3, hb3.drew⟩
  · rw [HF.out] at hn; cases hn
theorem wo_no {S : ByteArray} {b k g cap : Nat} {ws : List ByteArray} {w : World} (h : w.heap[b]? = some (scO S k false)) (hk : k ≤ S.size) (hs : S.size < big) (hW : StrsIn g cap ws w) (hgb : g ≠ b) (hw : Wok ws) (h1 : 1 ≤ ws.length) (h2 : ws.length ≤ 1000000) (h3 : lgW ws < big) (hf : wdF S k ws = none) :
    Calls Tryd.prog 9 #[xp b, .slice (some ⟨g, 0, none⟩) ws.length cap] w fun e w' => e = .returned (.int .i64 (-1)) ∧ w'.heap[b]? = some (scO S (wdK S k ws) true) ∧ Bt b w w' := by
  have hmf : ∀ (fn : Fn) (first cap : Array Value) (w : World), (Instr.makeFunc fn first cap).run Tryd.prog w = .ok (.func fn first cap) w := fun _ _ _ _ => rfl
  have HA := Lib.hid (fun (u : World) (h : u.heap[b]? = some (scO S k false)) (hW : StrsIn g cap ws u) => acw_any h hk hs hW hgb hw h1 h2 h3)
  have HF := Lib.hid hf
  have hl := row_lt h
  clear hf hk hs hw h1 h2 h3
  go_enter_defers Tryd.func9, Tryd.ntmps9
  go_wp2_with fail
  obtain ⟨u, hu⟩ : ∃ u, u = (w.alloc (bx1 b)).alloc (.cells #[.int .i64 0] 3) := ⟨_, rfl⟩
  have B0 : Below w.heap.size w u := hu ▸ al2 w _ _
  have cp : u.cell? ⟨w.heap.size, 0, none⟩ = some (xp b) := hu ▸ one_new w #[xp b] _ _ _ rfl
  have cq : u.cell? ⟨w.heap.size + 1, 0, none⟩ = some (.int .i64 0) ∧ u.frozen? ⟨w.heap.size + 1, 0, none⟩ = false := hu ▸ two_new w _ _ _ _ _ rfl
  rw [← hu]
  clear hu
  have hr := row_kept h B0
  have hb := Bt.of_below (b := b) B0
  refine (mbg_ok hr).mono ?_
  rintro e w1 ⟨rfl, rfl⟩
  go_wp2_with fail
  refine (HA.out _ hr (hW.on B0)).mono ?_
  rintro e w2 ⟨hc, hr2, hb2⟩
  rcases hc with ⟨i', hi', rfl⟩ | ⟨_, rfl⟩
  · rw [HF.out] at hi'; cases hi'
  · have cp2 := hb2.cell (show w.heap.size ≠ b by omega) cp
    have cq2 := hb2.cell (show w.heap.size + 1 ≠ b by omega) cq.1
    have fq2 := hb2.frozen (show w.heap.size + 1 ≠ b by omega) (World.block_lt_of_cell? u _ cq.1) cq.2
    have cq3 := (Bt.set b w2 2 (.bool true)).cell (show w.heap.size + 1 ≠ b by omega) cq2
    have c3 := same_cell (v := .int .i64 (-1)) cq3
    have hr3 := (Bt.set (w.heap.size + 1) (w2.setCell ⟨b, 2, none⟩ (.bool true)) 0 (.int .i64 (-1))).row (show b ≠ w.heap.size + 1 by omega) (sc_bad hr2)
    have hb3 := ((hb.trans hb2).trans (Bt.set b w2 2 (.bool true))).over (Bt.set (w.heap.size + 1) (w2.setCell ⟨b, 2, none⟩ (.bool true)) 0 (.int .i64 (-1))) (by omega)
    refine leaves_cons (f := 23) (args := #[xp w.heap.size, xp (w.heap.size + 1)]) (by simp) (by simp [go_sem]) ?_
    refine (woc25_cat cp2 hr2 cq2 fq2 (by omega) []).mono ?_
    rintro e u' w'' ⟨rfl, rfl, rfl⟩
    generalize (w2.setCell ⟨b, 2, none⟩ (.bool true)).setCell ⟨w.heap.size + 1, 0, none⟩ (.int .i64 (-1)) = u3 at *
    simp [Leaves, settle, results, Tryd.results9, go_sem, c3]
    exact ⟨hr3, hb3.drew⟩
theorem wo_bad {S : ByteArray} {b k : Nat} (v : Value) {w : World} (h : w.heap[b]? = some (scO S k true)) :
    Calls Tryd.prog 9 #[xp b, v] w fun e w' => e = .returned (.int .i64 (-1)) ∧ Below w.heap.size w w' := by
  have hmf : ∀ (fn : Fn) (first cap : Array Value) (w : World), (Instr.makeFunc fn first cap).run Tryd.prog w = .ok (.func fn first cap) w := fun _ _ _ _ => rfl
  have hl := row_lt h
  go_enter_defers Tryd.func9, Tryd.ntmps9
  go_wp2_with fail
  obtain ⟨u, hu⟩ : ∃ u, u = (w.alloc (bx1 b)).alloc (.cells #[.int .i64 0] 3) := ⟨_, rfl⟩
  have B0 : Below w.heap.size w u := hu ▸ al2 w _ _
  have cp : u.cell? ⟨w.heap.size, 0, none⟩ = some (xp b) := hu ▸ one_new w #[xp b] _ _ _ rfl
  have cq : u.cell? ⟨w.heap.size + 1, 0, none⟩ = some (.int .i64 0) ∧ u.frozen? ⟨w.heap.size + 1, 0, none⟩ = false := hu ▸ two_new w _ _ _ _ _ rfl
  rw [← hu]
  clear hu
  have hr := row_kept h B0
  refine (mbg_bad hr).mono ?_
  rintro e w1 ⟨rfl, rfl⟩
  have cq3 := (Bt.set b u 2 (.bool true)).cell (show w.heap.size + 1 ≠ b by omega) cq.1
  have c3 := same_cell (v := .int .i64 (-1)) cq3
  have hb3 := (B0.trans (same_bad hr)).setCell (p := ⟨w.heap.size + 1, 0, none⟩) (by simp) (.int .i64 (-1))
  refine leaves_cons (f := 23) (args := #[xp w.heap.size, xp (w.heap.size + 1)]) (by simp) (by simp [go_sem]) ?_
  refine (woc25_cat cp hr cq.1 cq.2 (by omega) []).mono ?_
  rintro e u' w'' ⟨rfl, rfl, rfl⟩
  generalize (u.setCell ⟨b, 2, none⟩ (.bool true)).setCell ⟨w.heap.size + 1, 0, none⟩ (.int .i64 (-1)) = u3 at *
  simp [Leaves, settle, results, Tryd.results9, go_sem, c3]
  exact hb3.drew
theorem wo_nil (v : Value) (w : World) :
    Calls Tryd.prog 9 #[.pointer none, v] w fun e w' => e = .returned (.int .i64 (-1)) ∧ Below w.heap.size w w' := by
  have hmf : ∀ (fn : Fn) (first cap : Array Value) (w : World), (Instr.makeFunc fn first cap).run Tryd.prog w = .ok (.func fn first cap) w := fun _ _ _ _ => rfl
  go_enter_defers Tryd.func9, Tryd.ntmps9
  go_wp2_with fail
  obtain ⟨u, hu⟩ : ∃ u, u = (w.alloc (.cells #[.pointer none] 24)).alloc (.cells #[.int .i64 0] 3) := ⟨_, rfl⟩
  have B0 : Below w.heap.size w u := hu ▸ al2 w _ _
  have cp : u.cell? ⟨w.heap.size, 0, none⟩ = some (.pointer none) := hu ▸ one_new w #[.pointer none] _ _ _ rfl
  have cq : u.cell? ⟨w.heap.size + 1, 0, none⟩ = some (.int .i64 0) ∧ u.frozen? ⟨w.heap.size + 1, 0, none⟩ = false := hu ▸ two_new w _ _ _ _ _ rfl
  rw [← hu]
  clear hu
  refine (mbg_nil _).mono ?_
  rintro e w1 ⟨rfl, rfl⟩
  have c3 := same_cell (v := .int .i64 (-1)) cq.1
  have hb3 := B0.setCell (p := ⟨w.heap.size + 1, 0, none⟩) (by simp) (.int .i64 (-1))
  refine leaves_cons (f := 23) (args := #[xp w.heap.size, xp (w.heap.size + 1)]) (by simp) (by simp [go_sem]) ?_
  refine (woc25_cnil cp cq.1 cq.2 []).mono ?_
  rintro e u' w'' ⟨rfl, rfl, rfl⟩
  generalize u.setCell ⟨w.heap.size + 1, 0, none⟩ (.int .i64 (-1)) = u3 at *
  simp [Leaves, settle, results, Tryd.results9, go_sem, c3]
  exact hb3.drew
end Go.Proofs.YtlodijncaojifaaDoor
