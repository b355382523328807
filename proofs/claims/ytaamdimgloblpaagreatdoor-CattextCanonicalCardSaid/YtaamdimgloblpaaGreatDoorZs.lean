/- The laws Lines, Canonical, Offsets. -/
import Derived.Test.YtaamdimgloblpaaGreatDoorZr
namespace Go.Proofs.YtaamdimgloblpaaGreatDoor
open Go.RowKit

theorem c26few (free : Int) (n m : Nat) (A1 A2 : Option Addr) (c1 c2 : Nat) (w : World) : Calls Tryz.prog 7 #[.agg #[.int .i64 free, .slice A1 n c1, .slice A2 m c2]] w fun e w' => e = .returned (.bool (decide (n ≤ 30) && decide (m ≤ 60))) ∧ Below w.heap.size w w' := by
  have R0 := heap_alloc_new w (.cells #[.int .i64 free, .slice A1 n c1, .slice A2 m c2] 25)
  have g1 : (w.alloc (.cells #[.int .i64 free, .slice A1 n c1, .slice A2 m c2] 25)).cell? ⟨w.heap.size, 1, none⟩ = some (.slice A1 n c1) := by rw [cell_of_row _ _ _ _ _ _ R0]; rfl
  have g2 : (w.alloc (.cells #[.int .i64 free, .slice A1 n c1, .slice A2 m c2] 25)).cell? ⟨w.heap.size, 2, none⟩ = some (.slice A2 m c2) := by rw [cell_of_row _ _ _ _ _ _ R0]; rfl
  have e1 : decide (n ≤ 30) = decide ((n : Int) ≤ 30) := by congr 1; exact propext ⟨fun h => by omega, fun h => by omega⟩
  have e2 : decide (m ≤ 60) = decide ((m : Int) ≤ 60) := by congr 1; exact propext ⟨fun h => by omega, fun h => by omega⟩
  rw [e1, e2]
  clear R0 e1 e2
  cases h0 : decide ((n : Int) ≤ 30) <;> cases h1 : decide ((m : Int) ≤ 60)
  all_goals
    go_enter Tryz.func7, Tryz.ntmps7
    go_wp2_with fail
    go_ret
    exact ⟨ret_bool (by simp), al1 w _⟩
/-- Parse, of a printed text. -/
theorem p26can {c : Cat} {w : World} (hT : T26 w) (ho : okCt c = true) (n1 : c.ss.length ≤ 30) (n2 : c.fs.length ≤ 60) :
    Calls Tryz.prog 10 #[.string (txC c)] w fun e w' => ∃ vS vF, e = .returned (.tuple #[.agg #[.int .i64 c.free, vS, vF], .int .i64 0, .int .i64 0]) ∧ SlAt w' vS c.ss ∧ SlAt w' vF c.fs ∧ Below w.heap.size w w' := by
  have hz := txC_size ho n1 n2
  have hb := body_all (N := 30000) ho (by omega) (by omega)
  have he : (pEnd 30000 (txC c)).b = false := by rw [(pEnd_co (N := 30000) ho (by omega) (by omega)).1]
  have := p26par_yes (S := txC c) (N := 30000) (w := w) (by omega) (by omega) (by omega) hT.wk he
  rw [hb] at this
  exact this
theorem p26bad {S : ByteArray} {k : Nat} {w : World} (hT : T26 w) (hs : S.size ≤ 20001) (he : pEnd 30000 S = ⟨k, true⟩) :
    Calls Tryz.prog 10 #[.string S] w fun e w' => e = .returned (.tuple #[.agg #[.int .i64 0, .slice none 0 0, .slice none 0 0], .int .i64 k, .int .i64 6]) ∧ Below w.heap.size w w' := by
  have := p26par_no (S := S) (N := 30000) (w := w) (by omega) (by omega) (by omega) hT.wk (by rw [he])
  rw [he] at this
  exact this
/-- A catalogue in a box of the law's own. -/
structure LB (W : World) (free : Int) (ss fs : List Itm) (A1 A2 : Option Addr) (c1 c2 : Nat) (u : World) : Prop where
  row : u.heap[W.heap.size]? = some (.cells #[.int .i64 free, .slice A1 ss.length c1, .slice A2 fs.length c2] 25 (0, 0))
  s : SlAt u (.slice A1 ss.length c1) ss
  f : SlAt u (.slice A2 fs.length c2) fs
  bl : Below W.heap.size W u
  t : T26 u
theorem LB.on {W : World} {free : Int} {ss fs : List Itm} {A1 A2 : Option Addr} {c1 c2 : Nat} {u u' : World} (h : LB W free ss fs A1 A2 c1 c2 u) (hb : Below u.heap.size u u') : LB W free ss fs A1 A2 c1 c2 u' := ⟨row_kept h.row hb, h.s.on hb, h.f.on hb, below_on h.bl hb, h.t.on hb⟩
theorem LB.new {W : World} {free : Int} {ss fs : List Itm} {A1 A2 : Option Addr} {c1 c2 : Nat} (hT : T26 W) (h1 : SlAt W (.slice A1 ss.length c1) ss) (h2 : SlAt W (.slice A2 fs.length c2) fs) : LB W free ss fs A1 A2 c1 c2 (W.alloc (.cells #[.int .i64 free, .slice A1 ss.length c1, .slice A2 fs.length c2] 25)) :=
  ⟨heap_alloc_new W _, h1.on (al1 W _), h2.on (al1 W _), al1 W _, hT.on (al1 W _)⟩
theorem LB.cells {W : World} {free : Int} {ss fs : List Itm} {A1 A2 : Option Addr} {c1 c2 : Nat} {u : World} (h : LB W free ss fs A1 A2 c1 c2 u) : u.cell? ⟨W.heap.size, 0, none⟩ = some (.int .i64 free) ∧ u.cell? ⟨W.heap.size, 1, none⟩ = some (.slice A1 ss.length c1) ∧ u.cell? ⟨W.heap.size, 2, none⟩ = some (.slice A2 fs.length c2) := by
  refine ⟨?_, ?_, ?_⟩ <;> (rw [cell_of_row _ _ _ _ _ _ h.row]; rfl)
set_option maxRecDepth 100000 in
theorem l26l_few (free : Int) (ss fs : List Itm) (A1 A2 : Option Addr) (c1 c2 : Nat) (W : World) (hT : T26 W) (h1 : SlAt W (.slice A1 ss.length c1) ss) (h2 : SlAt W (.slice A2 fs.length c2) fs) (hf : (decide (ss.length ≤ 30) && decide (fs.length ≤ 60)) = false) :
    Calls Tryz.prog 5 #[.agg #[.int .i64 free, .slice A1 ss.length c1, .slice A2 fs.length c2]] W fun e w' => e = .returned (.bool true) ∧ Below W.heap.size W w' := by
  have L0 := Lib.hid (LB.new (free := free) hT h1 h2)
  have HA := Lib.hid (fun (u : World) (h : T26 u) => c26awake_any u h)
  have HW := Lib.hid (fun (u : World) => c26few free ss.length fs.length A1 A2 c1 c2 u)
  rw [hf] at HW
  obtain ⟨q0, q1, q2⟩ := L0.out.cells
  go_enter Tryz.func5, Tryz.ntmps5
  go_wp2_with fail
  clear q0 q1 q2
  refine (HA.out _ L0.out.t).mono ?_
  rintro e u1 ⟨rfl, hb⟩
  have L1 := Lib.hid (L0.out.on hb)
  clear hb
  obtain ⟨q0, q1, q2⟩ := L1.out.cells
  go_wp2_with fail
  clear q0 q1 q2
  refine (HW.out _).mono ?_
  rintro e u2 ⟨rfl, hb⟩
  have L2 := Lib.hid (L1.out.on hb)
  clear hb
  obtain ⟨q0, q1, q2⟩ := L2.out.cells
  go_wp2_with fail
  clear q0 q1 q2
  refine (HA.out _ L2.out.t).mono ?_
  rintro e u3 ⟨rfl, hb⟩
  have L3 := Lib.hid (L2.out.on hb)
  clear hb
  obtain ⟨q0, q1, q2⟩ := L3.out.cells
  go_wp2_with fail
  go_ret
  exact ⟨rfl, L3.out.bl⟩
set_option maxRecDepth 100000 in
theorem l26l_prn (free : Int) (ss fs : List Itm) (A1 A2 : Option Addr) (c1 c2 : Nat) (W : World) (hT : T26 W) (h1 : SlAt W (.slice A1 ss.length c1) ss) (h2 : SlAt W (.slice A2 fs.length c2) fs) (hf : (decide (ss.length ≤ 30) && decide (fs.length ≤ 60)) = true) (ho : okCt ⟨free, ss, fs⟩ = false) :
    Calls Tryz.prog 5 #[.agg #[.int .i64 free, .slice A1 ss.length c1, .slice A2 fs.length c2]] W fun e w' => e = .returned (.bool true) ∧ Below W.heap.size W w' := by
  have L0 := Lib.hid (LB.new (free := free) hT h1 h2)
  have HA := Lib.hid (fun (u : World) (h : T26 u) => c26awake_any u h)
  have HW := Lib.hid (fun (u : World) => c26few free ss.length fs.length A1 A2 c1 c2 u)
  have n12 : ss.length ≤ 30 ∧ fs.length ≤ 60 := by simpa using hf
  have HR := Lib.hid (fun (u : World) (h : LB W free ss fs A1 A2 c1 c2 u) => r26prn (c := ⟨free, ss, fs⟩) h.s h.f (by show ss.length ≤ 100000; omega) (by show fs.length ≤ 100000; omega))
  rw [hf] at HW
  rw [ho] at HR
  obtain ⟨q0, q1, q2⟩ := L0.out.cells
  go_enter Tryz.func5, Tryz.ntmps5
  go_wp2_with fail
  clear q0 q1 q2
  refine (HA.out _ L0.out.t).mono ?_
  rintro e u1 ⟨rfl, hb⟩
  have L1 := Lib.hid (L0.out.on hb)
  clear hb
  obtain ⟨q0, q1, q2⟩ := L1.out.cells
  go_wp2_with fail
  clear q0 q1 q2
  refine (HW.out _).mono ?_
  rintro e u2 ⟨rfl, hb⟩
  have L2 := Lib.hid (L1.out.on hb)
  clear hb
  obtain ⟨q0, q1, q2⟩ := L2.out.cells
  go_wp2_with fail
  clear q0 q1 q2
  refine (HR.out _ L2.out).mono ?_
  rintro e u3 ⟨rfl, hb⟩
  have L3 := Lib.hid (L2.out.on hb)
  clear hb
  obtain ⟨q0, q1, q2⟩ := L3.out.cells
  go_wp2_with fail
  clear q0 q1 q2
  refine (HA.out _ L3.out.t).mono ?_
  rintro e u4 ⟨rfl, hb⟩
  have L4 := Lib.hid (L3.out.on hb)
  clear hb
  obtain ⟨q0, q1, q2⟩ := L4.out.cells
  go_wp2_with fail
  go_ret
  exact ⟨rfl, L4.out.bl⟩
set_option maxRecDepth 100000 in
theorem l26c_few (free : Int) (ss fs : List Itm) (A1 A2 : Option Addr) (c1 c2 : Nat) (W : World) (hT : T26 W) (h1 : SlAt W (.slice A1 ss.length c1) ss) (h2 : SlAt W (.slice A2 fs.length c2) fs) (hf : (decide (ss.length ≤ 30) && decide (fs.length ≤ 60)) = false) :
    Calls Tryz.prog 3 #[.agg #[.int .i64 free, .slice A1 ss.length c1, .slice A2 fs.length c2]] W fun e w' => e = .returned (.bool true) ∧ Below W.heap.size W w' := by
  have L0 := Lib.hid (LB.new (free := free) hT h1 h2)
  have HA := Lib.hid (fun (u : World) (h : T26 u) => c26awake_any u h)
  have HW := Lib.hid (fun (u : World) => c26few free ss.length fs.length A1 A2 c1 c2 u)
  rw [hf] at HW
  obtain ⟨q0, q1, q2⟩ := L0.out.cells
  go_enter Tryz.func3, Tryz.ntmps3
  go_wp2_with fail
  clear q0 q1 q2
  refine (HA.out _ L0.out.t).mono ?_
  rintro e u1 ⟨rfl, hb⟩
  have L1 := Lib.hid (L0.out.on hb)
  clear hb
  obtain ⟨q0, q1, q2⟩ := L1.out.cells
  go_wp2_with fail
  clear q0 q1 q2
  refine (HW.out _).mono ?_
  rintro e u2 ⟨rfl, hb⟩
  have L2 := Lib.hid (L1.out.on hb)
  clear hb
  obtain ⟨q0, q1, q2⟩ := L2.out.cells
  go_wp2_with fail
  clear q0 q1 q2
  refine (HA.out _ L2.out.t).mono ?_
  rintro e u3 ⟨rfl, hb⟩
  have L3 := Lib.hid (L2.out.on hb)
  clear hb
  obtain ⟨q0, q1, q2⟩ := L3.out.cells
  go_wp2_with fail
  go_ret
  exact ⟨rfl, L3.out.bl⟩
set_option maxRecDepth 100000 in
theorem l26c_prn (free : Int) (ss fs : List Itm) (A1 A2 : Option Addr) (c1 c2 : Nat) (W : World) (hT : T26 W) (h1 : SlAt W (.slice A1 ss.length c1) ss) (h2 : SlAt W (.slice A2 fs.length c2) fs) (hf : (decide (ss.length ≤ 30) && decide (fs.length ≤ 60)) = true) (ho : okCt ⟨free, ss, fs⟩ = false) :
    Calls Tryz.prog 3 #[.agg #[.int .i64 free, .slice A1 ss.length c1, .slice A2 fs.length c2]] W fun e w' => e = .returned (.bool true) ∧ Below W.heap.size W w' := by
  have L0 := Lib.hid (LB.new (free := free) hT h1 h2)
  have HA := Lib.hid (fun (u : World) (h : T26 u) => c26awake_any u h)
  have HW := Lib.hid (fun (u : World) => c26few free ss.length fs.length A1 A2 c1 c2 u)
  have n12 : ss.length ≤ 30 ∧ fs.length ≤ 60 := by simpa using hf
  have HR := Lib.hid (fun (u : World) (h : LB W free ss fs A1 A2 c1 c2 u) => r26prn (c := ⟨free, ss, fs⟩) h.s h.f (by show ss.length ≤ 100000; omega) (by show fs.length ≤ 100000; omega))
  rw [hf] at HW
  rw [ho] at HR
  obtain ⟨q0, q1, q2⟩ := L0.out.cells
  go_enter Tryz.func3, Tryz.ntmps3
  go_wp2_with fail
  clear q0 q1 q2
  refine (HA.out _ L0.out.t).mono ?_
  rintro e u1 ⟨rfl, hb⟩
  have L1 := Lib.hid (L0.out.on hb)
  clear hb
  obtain ⟨q0, q1, q2⟩ := L1.out.cells
  go_wp2_with fail
  clear q0 q1 q2
  refine (HW.out _).mono ?_
  rintro e u2 ⟨rfl, hb⟩
  have L2 := Lib.hid (L1.out.on hb)
  clear hb
  obtain ⟨q0, q1, q2⟩ := L2.out.cells
  go_wp2_with fail
  clear q0 q1 q2
  refine (HR.out _ L2.out).mono ?_
  rintro e u3 ⟨rfl, hb⟩
  have L3 := Lib.hid (L2.out.on hb)
  clear hb
  obtain ⟨q0, q1, q2⟩ := L3.out.cells
  go_wp2_with fail
  clear q0 q1 q2
  refine (HA.out _ L3.out.t).mono ?_
  rintro e u4 ⟨rfl, hb⟩
  have L4 := Lib.hid (L3.out.on hb)
  clear hb
  obtain ⟨q0, q1, q2⟩ := L4.out.cells
  go_wp2_with fail
  go_ret
  exact ⟨rfl, L4.out.bl⟩
set_option maxRecDepth 100000 in
theorem l26o_few (free : Int) (ss fs : List Itm) (A1 A2 : Option Addr) (c1 c2 : Nat) (a : Int) (W : World) (hT : T26 W) (h1 : SlAt W (.slice A1 ss.length c1) ss) (h2 : SlAt W (.slice A2 fs.length c2) fs) (hf : (decide (ss.length ≤ 30) && decide (fs.length ≤ 60)) = false) :
    Calls Tryz.prog 4 #[.agg #[.int .i64 free, .slice A1 ss.length c1, .slice A2 fs.length c2], .int .u16 a] W fun e w' => e = .returned (.bool true) ∧ Below W.heap.size W w' := by
  have L0 := Lib.hid (LB.new (free := free) hT h1 h2)
  have HA := Lib.hid (fun (u : World) (h : T26 u) => c26awake_any u h)
  have HW := Lib.hid (fun (u : World) => c26few free ss.length fs.length A1 A2 c1 c2 u)
  rw [hf] at HW
  obtain ⟨q0, q1, q2⟩ := L0.out.cells
  go_enter Tryz.func4, Tryz.ntmps4
  go_wp2_with fail
  clear q0 q1 q2
  refine (HA.out _ L0.out.t).mono ?_
  rintro e u1 ⟨rfl, hb⟩
  have L1 := Lib.hid (L0.out.on hb)
  clear hb
  obtain ⟨q0, q1, q2⟩ := L1.out.cells
  go_wp2_with fail
  clear q0 q1 q2
  refine (HW.out _).mono ?_
  rintro e u2 ⟨rfl, hb⟩
  have L2 := Lib.hid (L1.out.on hb)
  clear hb
  obtain ⟨q0, q1, q2⟩ := L2.out.cells
  go_wp2_with fail
  clear q0 q1 q2
  refine (HA.out _ L2.out.t).mono ?_
  rintro e u3 ⟨rfl, hb⟩
  have L3 := Lib.hid (L2.out.on hb)
  clear hb
  obtain ⟨q0, q1, q2⟩ := L3.out.cells
  go_wp2_with fail
  go_ret
  exact ⟨rfl, L3.out.bl⟩
set_option maxRecDepth 100000 in
theorem l26o_prn (free : Int) (ss fs : List Itm) (A1 A2 : Option Addr) (c1 c2 : Nat) (a : Int) (W : World) (hT : T26 W) (h1 : SlAt W (.slice A1 ss.length c1) ss) (h2 : SlAt W (.slice A2 fs.length c2) fs) (hf : (decide (ss.length ≤ 30) && decide (fs.length ≤ 60)) = true) (ho : okCt ⟨free, ss, fs⟩ = false) :
    Calls Tryz.prog 4 #[.agg #[.int .i64 free, .slice A1 ss.length c1, .slice A2 fs.length c2], .int .u16 a] W fun e w' => e = .returned (.bool true) ∧ Below W.heap.size W w' := by
  have L0 := Lib.hid (LB.new (free := free) hT h1 h2)
  have HA := Lib.hid (fun (u : World) (h : T26 u) => c26awake_any u h)
  have HW := Lib.hid (fun (u : World) => c26few free ss.length fs.length A1 A2 c1 c2 u)
  have n12 : ss.length ≤ 30 ∧ fs.length ≤ 60 := by simpa using hf
  have HR := Lib.hid (fun (u : World) (h : LB W free ss fs A1 A2 c1 c2 u) => r26prn (c := ⟨free, ss, fs⟩) h.s h.f (by show ss.length ≤ 100000; omega) (by show fs.length ≤ 100000; omega))
  rw [hf] at HW
  rw [ho] at HR
  obtain ⟨q0, q1, q2⟩ := L0.out.cells
  go_enter Tryz.func4, Tryz.ntmps4
  go_wp2_with fail
  clear q0 q1 q2
  refine (HA.out _ L0.out.t).mono ?_
  rintro e u1 ⟨rfl, hb⟩
  have L1 := Lib.hid (L0.out.on hb)
  clear hb
  obtain ⟨q0, q1, q2⟩ := L1.out.cells
  go_wp2_with fail
  clear q0 q1 q2
  refine (HW.out _).mono ?_
  rintro e u2 ⟨rfl, hb⟩
  have L2 := Lib.hid (L1.out.on hb)
  clear hb
  obtain ⟨q0, q1, q2⟩ := L2.out.cells
  go_wp2_with fail
  clear q0 q1 q2
  refine (HR.out _ L2.out).mono ?_
  rintro e u3 ⟨rfl, hb⟩
  have L3 := Lib.hid (L2.out.on hb)
  clear hb
  obtain ⟨q0, q1, q2⟩ := L3.out.cells
  go_wp2_with fail
  clear q0 q1 q2
  refine (HA.out _ L3.out.t).mono ?_
  rintro e u4 ⟨rfl, hb⟩
  have L4 := Lib.hid (L3.out.on hb)
  clear hb
  obtain ⟨q0, q1, q2⟩ := L4.out.cells
  go_wp2_with fail
  go_ret
  exact ⟨rfl, L4.out.bl⟩
set_option maxRecDepth 100000 in
set_option maxHeartbeats 2000000 in
theorem l26l_yes (free : Int) (ss fs : List Itm) (A1 A2 : Option Addr) (c1 c2 : Nat) (W : World) (hT : T26 W) (h1 : SlAt W (.slice A1 ss.length c1) ss) (h2 : SlAt W (.slice A2 fs.length c2) fs) (hf : (decide (ss.length ≤ 30) && decide (fs.length ≤ 60)) = true) (ho : okCt ⟨free, ss, fs⟩ = true) :
    Calls Tryz.prog 5 #[.agg #[.int .i64 free, .slice A1 ss.length c1, .slice A2 fs.length c2]] W fun e w' => e = .returned (.bool true) ∧ Below W.heap.size W w' := by
  have L0 := Lib.hid (LB.new (free := free) hT h1 h2)
  have HA := Lib.hid (fun (u : World) (h : T26 u) => c26awake_any u h)
  have HW := Lib.hid (fun (u : World) => c26few free ss.length fs.length A1 A2 c1 c2 u)
  have n12 : ss.length ≤ 30 ∧ fs.length ≤ 60 := by simpa using hf
  have HR := Lib.hid (fun (u : World) (h : LB W free ss fs A1 A2 c1 c2 u) => r26prn (c := ⟨free, ss, fs⟩) h.s h.f (by show ss.length ≤ 100000; omega) (by show fs.length ≤ 100000; omega))
  rw [hf] at HW
  rw [ho] at HR
  have hzS := txC_size ho n12.1 n12.2
  have HQ := Lib.hid (fun (u : World) (h : LB W free ss fs A1 A2 c1 c2 u) => p26prt (c := ⟨free, ss, fs⟩) h.t h.s h.f ho (by show ss.length ≤ 100000; omega) (by show fs.length ≤ 100000; omega))
  have hn := nlf_txC ho
  obtain ⟨hl1, hl2⟩ := txC_last ⟨free, ss, fs⟩
  simp only at hn HQ
  generalize txC ⟨free, ss, fs⟩ = S at *
  obtain ⟨q0, q1, q2⟩ := L0.out.cells
  go_enter Tryz.func5, Tryz.ntmps5
  go_wp2_with fail
  clear q0 q1 q2
  refine (HA.out _ L0.out.t).mono ?_
  rintro e u1 ⟨rfl, hb⟩
  have L1 := Lib.hid (L0.out.on hb)
  clear hb
  obtain ⟨q0, q1, q2⟩ := L1.out.cells
  go_wp2_with fail
  clear q0 q1 q2
  refine (HW.out _).mono ?_
  rintro e u2 ⟨rfl, hb⟩
  have L2 := Lib.hid (L1.out.on hb)
  clear hb
  obtain ⟨q0, q1, q2⟩ := L2.out.cells
  go_wp2_with fail
  clear q0 q1 q2
  refine (HR.out _ L2.out).mono ?_
  rintro e u3 ⟨rfl, hb⟩
  have L3 := Lib.hid (L2.out.on hb)
  clear hb
  obtain ⟨q0, q1, q2⟩ := L3.out.cells
  go_wp2_with fail
  clear q0 q1 q2
  refine (HQ.out _ L3.out).mono ?_
  rintro e u4 ⟨rfl, hb⟩
  have L4 := Lib.hid (L3.out.on hb)
  clear hb
  obtain ⟨q0, q1, q2⟩ := L4.out.cells
  have hT4 := nlfT_all S
  go_wp2_with fail
  go_loop [4, 5] (fun n i => ∃ k : Nat, k ≤ S.size ∧ i = .int .i64 k ∧ n = .int .i64 (nlfT S k)) (fun _ i => S.size - (intOf i).toNat)
  case atStart => exact ⟨0, Nat.zero_le _, rfl, by rw [nlfT_zero]; rfl⟩
  case round =>
    obtain ⟨k, hk, rfl, rfl⟩ := hrel
    have hkn := nlfT_le S k
    by_cases hlt : k < S.size
    · have hix := fun u : World => idx_at25 (S := S) (i := k) rfl hlt u
      have hs := nlfT_succ hlt
      have hw : IntKind.i64.wrap ((nlfT S k : Int) + 1) = (nlfT S k : Int) + 1 := by rw [IntKind.wrap_i64]; omega
      by_cases c : bt S k = 10
      · rw [if_pos c] at hs
        rw [c] at hix
        go_wp2_with fail
        go_round
        case rel => exact ⟨k + 1, by omega, by go_num, by rw [hs]; rfl⟩
        case measure => simp [intOf]; omega
      · rw [if_neg c] at hs
        have c' : (bt S k == 10) = false := beq_eq_false_iff_ne.2 c
        go_wp2_with fail
        go_round
        case rel => exact ⟨k + 1, by omega, by go_num, by rw [hs]; rfl⟩
        case measure => simp [intOf]; omega
    · obtain rfl : k = S.size := by omega
      have hix := fun u : World => idx_at25 (S := S) (i := S.size - 1) (x := (S.size : Int) - 1) (by omega) (by omega) u
      rw [hl1] at hix
      have hw1 : IntKind.i64.wrap ((S.size : Int) - 1) = (S.size : Int) - 1 := by rw [IntKind.wrap_i64]; omega
      have hw2 : IntKind.i64.wrap (3 + (ss.length : Int)) = 3 + (ss.length : Int) := by rw [IntKind.wrap_i64]; omega
      have hw3 : IntKind.i64.wrap (3 + (ss.length : Int) + (fs.length : Int)) = 3 + (ss.length : Int) + (fs.length : Int) := by rw [IntKind.wrap_i64]; omega
      have hN : (nlfT S S.size : Int) = 3 + (ss.length : Int) + (fs.length : Int) := by rw [hT4]; omega
      rw [hN]
      go_wp2_with fail
      go_ret
      exact ⟨rfl, L4.out.bl⟩
set_option maxRecDepth 100000 in
set_option maxHeartbeats 2000000 in
theorem l26c_yes (free : Int) (ss fs : List Itm) (A1 A2 : Option Addr) (c1 c2 : Nat) (W : World) (hT : T26 W) (h1 : SlAt W (.slice A1 ss.length c1) ss) (h2 : SlAt W (.slice A2 fs.length c2) fs) (hf : (decide (ss.length ≤ 30) && decide (fs.length ≤ 60)) = true) (ho : okCt ⟨free, ss, fs⟩ = true) :
    Calls Tryz.prog 3 #[.agg #[.int .i64 free, .slice A1 ss.length c1, .slice A2 fs.length c2]] W fun e w' => e = .returned (.bool true) ∧ Below W.heap.size W w' := by
  have L0 := Lib.hid (LB.new (free := free) hT h1 h2)
  have HA := Lib.hid (fun (u : World) (h : T26 u) => c26awake_any u h)
  have HW := Lib.hid (fun (u : World) => c26few free ss.length fs.length A1 A2 c1 c2 u)
  have n12 : ss.length ≤ 30 ∧ fs.length ≤ 60 := by simpa using hf
  have HR := Lib.hid (fun (u : World) (h : LB W free ss fs A1 A2 c1 c2 u) => r26prn (c := ⟨free, ss, fs⟩) h.s h.f (by show ss.length ≤ 100000; omega) (by show fs.length ≤ 100000; omega))
  rw [hf] at HW
  rw [ho] at HR
  have hzS := txC_size ho n12.1 n12.2
  have HQ := Lib.hid (fun (u : World) (h : LB W free ss fs A1 A2 c1 c2 u) => p26prt (c := ⟨free, ss, fs⟩) h.t h.s h.f ho (by show ss.length ≤ 100000; omega) (by show fs.length ≤ 100000; omega))
  have HP := Lib.hid (fun (u : World) (h : T26 u) => p26can (c := ⟨free, ss, fs⟩) (w := u) h ho n12.1 n12.2)
  have HF := Lib.hid (fun (u : World) (h : LB W free ss fs A1 A2 c1 c2 u) => r26pri (c := ⟨free, ss, fs⟩) h.s h.f ho (by show ss.length ≤ 1000; omega) (by show fs.length ≤ 1000; omega))
  have HS := Lib.hid (fun (u : World) (v1 v2 v1' v2' : Value) (a : SlAt u v1 ss) (b : SlAt u v2 fs) (c : SlAt u v1' ss) (d : SlAt u v2' fs) => r17same_big free v1 v2 v1' v2' ss fs u (by omega) (by omega) a b c d)
  simp only at HQ HP HF
  generalize txC ⟨free, ss, fs⟩ = S at *
  obtain ⟨q0, q1, q2⟩ := L0.out.cells
  go_enter Tryz.func3, Tryz.ntmps3
  go_wp2_with fail
  clear q0 q1 q2
  refine (HA.out _ L0.out.t).mono ?_
  rintro e u1 ⟨rfl, hb⟩
  have L1 := Lib.hid (L0.out.on hb)
  clear hb
  obtain ⟨q0, q1, q2⟩ := L1.out.cells
  go_wp2_with fail
  clear q0 q1 q2
  refine (HW.out _).mono ?_
  rintro e u2 ⟨rfl, hb⟩
  have L2 := Lib.hid (L1.out.on hb)
  clear hb
  obtain ⟨q0, q1, q2⟩ := L2.out.cells
  go_wp2_with fail
  clear q0 q1 q2
  refine (HR.out _ L2.out).mono ?_
  rintro e u3 ⟨rfl, hb⟩
  have L3 := Lib.hid (L2.out.on hb)
  clear hb
  obtain ⟨q0, q1, q2⟩ := L3.out.cells
  go_wp2_with fail
  clear q0 q1 q2
  refine (HQ.out _ L3.out).mono ?_
  rintro e u4 ⟨rfl, hb⟩
  have L4 := Lib.hid (L3.out.on hb)
  clear hb
  obtain ⟨q0, q1, q2⟩ := L4.out.cells
  go_wp2_with fail
  clear q0 q1 q2
  refine (HP.out _ L4.out.t).mono ?_
  rintro e u5 ⟨vS, vF, rfl, hS, hF, hb⟩
  have hS0 := hS
  have hF0 := hF
  obtain ⟨AS, cS, rfl, -⟩ := hS0
  obtain ⟨AF, cF, rfl, -⟩ := hF0
  have L5 := Lib.hid ((L4.out.on hb).on (al1 u5 (.cells #[.int .i64 free, .slice AS ss.length cS, .slice AF fs.length cF] 25)))
  have S5 := Lib.hid (hS.on (al1 u5 (.cells #[.int .i64 free, .slice AS ss.length cS, .slice AF fs.length cF] 25)))
  have F5 := Lib.hid (hF.on (al1 u5 (.cells #[.int .i64 free, .slice AS ss.length cS, .slice AF fs.length cF] 25)))
  have R5 := heap_alloc_new u5 (.cells #[.int .i64 free, .slice AS ss.length cS, .slice AF fs.length cF] 25)
  clear hS hF hb
  obtain ⟨q0, q1, q2⟩ := L5.out.cells
  have k0 : (u5.alloc (.cells #[.int .i64 free, .slice AS ss.length cS, .slice AF fs.length cF] 25)).cell? ⟨u5.heap.size, 0, none⟩ = some (.int .i64 free) := by rw [cell_of_row _ _ _ _ _ _ R5]; rfl
  have k1 : (u5.alloc (.cells #[.int .i64 free, .slice AS ss.length cS, .slice AF fs.length cF] 25)).cell? ⟨u5.heap.size, 1, none⟩ = some (.slice AS ss.length cS) := by rw [cell_of_row _ _ _ _ _ _ R5]; rfl
  have k2 : (u5.alloc (.cells #[.int .i64 free, .slice AS ss.length cS, .slice AF fs.length cF] 25)).cell? ⟨u5.heap.size, 2, none⟩ = some (.slice AF fs.length cF) := by rw [cell_of_row _ _ _ _ _ _ R5]; rfl
  have R5 := Lib.hid R5
  go_wp2_with fail
  clear q0 q1 q2 k0 k1 k2
  refine (HF.out _ L5.out).mono ?_
  rintro e u6 ⟨rfl, hb⟩
  have L6 := Lib.hid (L5.out.on hb)
  have S6 := Lib.hid (S5.out.on hb)
  have F6 := Lib.hid (F5.out.on hb)
  have R6 := row_kept R5.out hb
  clear hb S5 F5 R5
  obtain ⟨q0, q1, q2⟩ := L6.out.cells
  have k0 : u6.cell? ⟨u5.heap.size, 0, none⟩ = some (.int .i64 free) := by rw [cell_of_row _ _ _ _ _ _ R6]; rfl
  have k1 : u6.cell? ⟨u5.heap.size, 1, none⟩ = some (.slice AS ss.length cS) := by rw [cell_of_row _ _ _ _ _ _ R6]; rfl
  have k2 : u6.cell? ⟨u5.heap.size, 2, none⟩ = some (.slice AF fs.length cF) := by rw [cell_of_row _ _ _ _ _ _ R6]; rfl
  clear R6
  go_wp2_with fail
  clear q0 q1 q2 k0 k1 k2
  refine (HS.out _ _ _ _ _ L6.out.s L6.out.f S6.out F6.out).mono ?_
  rintro e u7 ⟨rfl, hb⟩
  have B7 := Lib.hid (below_on L6.out.bl hb)
  clear hb
  go_wp2_with fail
  go_ret
  exact ⟨ret_bool (by simp), B7.out⟩
set_option maxRecDepth 100000 in
set_option maxHeartbeats 2000000 in
theorem l26o_yes (free : Int) (ss fs : List Itm) (A1 A2 : Option Addr) (c1 c2 : Nat) (a : Int) (ha : 0 ≤ a ∧ a ≤ 65535) (W : World) (hT : T26 W) (h1 : SlAt W (.slice A1 ss.length c1) ss) (h2 : SlAt W (.slice A2 fs.length c2) fs) (hf : (decide (ss.length ≤ 30) && decide (fs.length ≤ 60)) = true) (ho : okCt ⟨free, ss, fs⟩ = true) :
    Calls Tryz.prog 4 #[.agg #[.int .i64 free, .slice A1 ss.length c1, .slice A2 fs.length c2], .int .u16 a] W fun e w' => e = .returned (.bool true) ∧ Below W.heap.size W w' := by
  have L0 := Lib.hid (LB.new (free := free) hT h1 h2)
  have HA := Lib.hid (fun (u : World) (h : T26 u) => c26awake_any u h)
  have HW := Lib.hid (fun (u : World) => c26few free ss.length fs.length A1 A2 c1 c2 u)
  have n12 : ss.length ≤ 30 ∧ fs.length ≤ 60 := by simpa using hf
  have HR := Lib.hid (fun (u : World) (h : LB W free ss fs A1 A2 c1 c2 u) => r26prn (c := ⟨free, ss, fs⟩) h.s h.f (by show ss.length ≤ 100000; omega) (by show fs.length ≤ 100000; omega))
  rw [hf] at HW
  rw [ho] at HR
  have hzS := txC_size ho n12.1 n12.2
  have HF := Lib.hid (fun (u : World) (h : LB W free ss fs A1 A2 c1 c2 u) => r26pri (c := ⟨free, ss, fs⟩) h.s h.f ho (by show ss.length ≤ 1000; omega) (by show fs.length ≤ 1000; omega))
  obtain ⟨-, hl2⟩ := txC_last ⟨free, ss, fs⟩
  have hx1 := fun (k : Nat) (hk : k < (txC ⟨free, ss, fs⟩).size) => body_cut (N := 30000) ho (by show ss.length < 30000; omega) (by show fs.length < 30000; omega) hk
  have hx2 := fun (k : Nat) (hk : k < (txC ⟨free, ss, fs⟩).size) (R : ByteArray) => body_ex (N := 30000) ho (by show ss.length < 30000; omega) (by show fs.length < 30000; omega) hk R
  have hx3 := body_more (N := 30000) ho (by show ss.length < 30000; omega) (by show fs.length < 30000; omega)
  simp only at HF
  generalize txC ⟨free, ss, fs⟩ = S at *
  obtain ⟨a, rfl⟩ : ∃ n : Nat, a = (n : Int) := ⟨a.toNat, by omega⟩
  have hlt : a % S.size < S.size := Nat.mod_lt _ (by omega)
  have wS : wEx.size = 1 := rfl
  have z1 : (S.extract 0 (a % S.size)).size = a % S.size := by rw [ext_size (by omega) (by omega)]; omega
  have z2 : (S.extract (a % S.size + 1) S.size).size = S.size - (a % S.size + 1) := by rw [ext_size (by omega) (by omega)]
  have HP1 := Lib.hid (fun (u : World) (h : T26 u) => p26bad (w := u) h (by omega) (hx1 _ hlt))
  have HP2 := Lib.hid (fun (u : World) (h : T26 u) => p26bad (w := u) h (by simp only [ByteArray.size_append]; omega) (hx2 _ hlt (S.extract (a % S.size + 1) S.size)))
  have HP3 := Lib.hid (fun (u : World) (h : T26 u) => p26bad (w := u) h (by simp only [ByteArray.size_append]; omega) hx3)
  have am : (a : Int).tmod (S.size : Int) = ((a % S.size : Nat) : Int) := by rw [Int.tmod_eq_emod_of_nonneg (by omega)]; rfl
  have hne : ((S.size : Int) == 0) = false := beq_eq_false_iff_ne.2 (by omega)
  have cv : ∀ u : World, (convert 33 3 (.int .u16 (a : Int))).run Tryz.prog u = .ok (.int .i64 (a : Int)) u := fun u => by
    have : IntKind.i64.wrap (a : Int) = (a : Int) := by rw [IntKind.wrap_i64]; omega
    simp [go_sem, this]
  have r1 : ∀ u : World, (Instr.slice 9 (.string S) none (some (.int .i64 ((a % S.size : Nat) : Int))) none).run Tryz.prog u = .ok (.string (S.extract 0 (a % S.size))) u := fun u => by
    rw [run_slice_string_h u 9 S Tryz.underlying9 .i64 _ (by omega) (by omega)]; rfl
  have r2 : ∀ u : World, (Instr.slice 9 (.string S) (some (.int .i64 (((a % S.size : Nat) : Int) + 1))) none none).run Tryz.prog u = .ok (.string (S.extract (a % S.size + 1) S.size)) u := fun u => by
    rw [run_slice_string_from_if u 9 S .i64 _ Tryz.underlying9, if_pos ⟨by omega, by omega⟩]; rfl
  have wk : IntKind.i64.wrap ((a % S.size : Nat) : Int) = ((a % S.size : Nat) : Int) := by rw [IntKind.wrap_i64]; omega
  have wk1 : IntKind.i64.wrap (((a % S.size : Nat) : Int) + 1) = ((a % S.size : Nat) : Int) + 1 := by rw [IntKind.wrap_i64]; omega
  have s1 : ∀ u : World, (Op.stringOp .add (S.extract 0 (a % S.size)) ⟨#[33]⟩).run Tryz.prog u = .ok (.string (S.extract 0 (a % S.size) ++ wEx)) u := fun u => sadd (b := wEx) (by omega) u
  have s2 := fun u : World => sadd (a := S.extract 0 (a % S.size) ++ wEx) (b := S.extract (a % S.size + 1) S.size) (by simp only [ByteArray.size_append]; omega) u
  have s3 : ∀ u : World, (Op.stringOp .add S ⟨#[33]⟩).run Tryz.prog u = .ok (.string (S ++ wEx)) u := fun u => sadd (b := wEx) (by omega) u
  clear hx1 hx2 hx3 z1 z2
  generalize S.extract (a % S.size + 1) S.size = t2 at *
  generalize S.extract 0 (a % S.size) = t1 at *
  generalize S ++ wEx = t3 at *
  generalize hE1 : t1 ++ wEx = t4 at *
  generalize hE2 : t4 ++ t2 = t5 at *
  clear hE1 hE2 wS
  generalize a % S.size = k at *
  obtain ⟨q0, q1, q2⟩ := L0.out.cells
  go_enter Tryz.func4, Tryz.ntmps4
  go_wp2_with fail
  clear q0 q1 q2
  refine (HA.out _ L0.out.t).mono ?_
  rintro e u1 ⟨rfl, hb⟩
  have L1 := Lib.hid (L0.out.on hb)
  clear hb
  obtain ⟨q0, q1, q2⟩ := L1.out.cells
  go_wp2_with fail
  clear q0 q1 q2
  refine (HW.out _).mono ?_
  rintro e u2 ⟨rfl, hb⟩
  have L2 := Lib.hid (L1.out.on hb)
  clear hb
  obtain ⟨q0, q1, q2⟩ := L2.out.cells
  go_wp2_with fail
  clear q0 q1 q2
  refine (HR.out _ L2.out).mono ?_
  rintro e u3 ⟨rfl, hb⟩
  have L3 := Lib.hid (L2.out.on hb)
  clear hb
  obtain ⟨q0, q1, q2⟩ := L3.out.cells
  go_wp2_with fail
  clear q0 q1 q2
  refine (HF.out _ L3.out).mono ?_
  rintro e u4 ⟨rfl, hb⟩
  have L4 := Lib.hid (L3.out.on hb)
  clear hb
  obtain ⟨q0, q1, q2⟩ := L4.out.cells
  go_wp2_with fail
  refine (HP1.out _ L4.out.t).mono ?_
  rintro e u5 ⟨rfl, hb⟩
  have L5 := Lib.hid ((L4.out.on hb).on (al1 u5 (.cells #[.int .i64 0, .slice none 0 0, .slice none 0 0] 25)))
  clear hb
  go_wp2_with fail
  have B5 := Lib.hid L5.out.bl
  have hT := Lib.hid hT
  clear L0 L1 L2 L3 L4 L5 q0 q1 q2
  refine wp_region_held_drew (S := fun u => Below W.heap.size W u) (by kernel_rfl) (below_dn B5.out 1) (fun hHeld => ?_)
  refine wpAnyH_take (i := 0) (oi := { dst := some 45, op := _, type := _, pos := _, after := _, guard := _ }) (v := ?v1_0) rfl (by kernel_rfl) (by kernel_rfl) (by kernel_rfl) (fun _ _ _ h => h) (Or.inl ⟨by rfl, ?hy1_0⟩) hHeld ?_
  case hy1_0 => (intro w hSw; (try dsimp only at hSw); go_simp; try with_reducible rfl)
  simp only [Act.put, List.setIfInBounds_toArray, List.set_cons_zero, List.set_cons_succ]
  refine wpAnyH_take (i := 1) (oi := { dst := some 46, op := _, type := _, pos := _, after := _, guard := _ }) (v := ?v1_1) rfl (by kernel_rfl) (by kernel_rfl) (by kernel_rfl) (fun _ _ _ h => h) (Or.inl ⟨by rfl, ?hy1_1⟩) hHeld ?_
  case hy1_1 => (intro w hSw; (try dsimp only at hSw); go_simp; try with_reducible rfl)
  simp only [Act.put, List.setIfInBounds_toArray, List.set_cons_zero, List.set_cons_succ]
  refine wpAnyH_take (i := 2) (oi := { dst := some 47, op := _, type := _, pos := _, after := _, guard := _ }) (v := ?v1_2) rfl (by kernel_rfl) (by kernel_rfl) (by kernel_rfl) (fun _ _ _ h => h) (Or.inl ⟨by rfl, ?hy1_2⟩) hHeld ?_
  case hy1_2 => (intro w hSw; (try dsimp only at hSw); go_simp; try with_reducible rfl)
  simp only [Act.put, List.setIfInBounds_toArray, List.set_cons_zero, List.set_cons_succ]
  refine wpAnyH_take (i := 3) (oi := { dst := some 48, op := _, type := _, pos := _, after := _, guard := _ }) (v := ?v1_3) rfl (by kernel_rfl) (by kernel_rfl) (by kernel_rfl) (fun _ _ _ h => h) (Or.inl ⟨by rfl, ?hy1_3⟩) hHeld ?_
  case hy1_3 => (intro w hSw; (try dsimp only at hSw); go_simp; try with_reducible rfl)
  simp only [Act.put, List.setIfInBounds_toArray, List.set_cons_zero, List.set_cons_succ]
  refine wpAnyH_take (i := 4) (oi := { dst := some 49, op := _, type := _, pos := _, after := _, guard := _ }) (v := ?v1_4) rfl (by kernel_rfl) (by kernel_rfl) (by kernel_rfl) (fun _ _ _ h => h) (Or.inl ⟨by rfl, ?hy1_4⟩) hHeld ?_
  case hy1_4 => (intro w hSw; (try dsimp only at hSw); go_simp; try with_reducible rfl)
  simp only [Act.put, List.setIfInBounds_toArray, List.set_cons_zero, List.set_cons_succ]
  refine wpAnyH_take (i := 5) (oi := { dst := some 50, op := _, type := _, pos := _, after := _, guard := _ }) (v := ?v1_5) rfl (by kernel_rfl) (by kernel_rfl) (by kernel_rfl) (fun _ _ _ h => h) (Or.inl ⟨by rfl, ?hy1_5⟩) hHeld ?_
  case hy1_5 => (intro w hSw; (try dsimp only at hSw); go_simp; try with_reducible rfl)
  simp only [Act.put, List.setIfInBounds_toArray, List.set_cons_zero, List.set_cons_succ]
  refine wpAnyH_take (i := 6) (oi := { dst := some 51, op := _, type := _, pos := _, after := _, guard := _ }) (v := ?v1_6) rfl (by kernel_rfl) (by kernel_rfl) (by kernel_rfl) (fun _ _ _ h => h) (Or.inl ⟨by rfl, ?hy1_6⟩) hHeld ?_
  case hy1_6 => (intro w hSw; (try dsimp only at hSw); go_simp; try with_reducible rfl)
  simp only [Act.put, List.setIfInBounds_toArray, List.set_cons_zero, List.set_cons_succ]
  refine wpAnyH_take (i := 7) (oi := { dst := some 52, op := _, type := _, pos := _, after := _, guard := _ }) (v := ?v1_7) rfl (by kernel_rfl) (by kernel_rfl) (by kernel_rfl) (fun _ _ _ h => h) (Or.inl ⟨by rfl, ?hy1_7⟩) hHeld ?_
  case hy1_7 => (intro w hSw; (try dsimp only at hSw); go_simp; try with_reducible rfl)
  simp only [Act.put, List.setIfInBounds_toArray, List.set_cons_zero, List.set_cons_succ]
  refine wpAnyH_take (i := 8) (oi := { dst := some 53, op := _, type := _, pos := _, after := _, guard := _ }) (v := ?v1_8) rfl (by kernel_rfl) (by kernel_rfl) (by kernel_rfl) (fun _ _ _ h => h) (Or.inl ⟨by rfl, ?hy1_8⟩) hHeld ?_
  case hy1_8 => (intro w hSw; (try dsimp only at hSw); go_simp; try with_reducible rfl)
  simp only [Act.put, List.setIfInBounds_toArray, List.set_cons_zero, List.set_cons_succ]
  obtain ⟨wd, hwd⟩ : ∃ wd, wd = (u5.alloc (.cells #[.int .i64 0, .slice none 0 0, .slice none 0 0] 25)).drew := ⟨_, rfl⟩
  rw [← hwd] at hHeld ⊢
  clear hwd
  refine wpAnyH_ready (rs := [9, 14]) (by kernel_rfl) (by simp) ?_
  refine AllReadyH.cons (o := { dst := some 54, op := _, type := _, pos := _, after := _, guard := _ }) rfl (fun K hK => ?_) (AllReadyH.cons (o := { dst := some 10, op := _, type := _, pos := _, after := _, guard := _ }) rfl (fun K hK => ?_) AllReadyH.nil)
  · go_simp
    go_at_call 10
    refine (HP2.out _ (hT.out.on hHeld)).mono ?_
    rintro e u6 ⟨rfl, hb⟩
    have Hu6 := below_on hHeld hb
    refine hK.out _ _ Hu6 (fun hHeld => ?_)
    clear hK K
    refine wpAnyH_take (i := 10) (oi := { dst := some 44, op := _, type := _, pos := _, after := _, guard := _ }) (v := ?v2_10) rfl (by kernel_rfl) (by kernel_rfl) (by kernel_rfl) (fun _ _ _ h => h) (Or.inl ⟨by rfl, ?hy2_10⟩) hHeld ?_
    case hy2_10 => (intro w hSw; (try dsimp only at hSw); go_simp; try with_reducible rfl)
    simp only [Act.put, List.setIfInBounds_toArray, List.set_cons_zero, List.set_cons_succ]
    refine wpAnyH_take (i := 11) (oi := { dst := some 55, op := _, type := _, pos := _, after := _, guard := _ }) (v := ?v2_11) rfl (by kernel_rfl) (by kernel_rfl) (by kernel_rfl) (fun _ _ _ h => h) (Or.inl ⟨by rfl, ?hy2_11⟩) hHeld ?_
    case hy2_11 => (intro w hSw; (try dsimp only at hSw); go_simp; try with_reducible rfl)
    simp only [Act.put, List.setIfInBounds_toArray, List.set_cons_zero, List.set_cons_succ]
    refine wpAnyH_take (i := 12) (oi := { dst := some 56, op := _, type := _, pos := _, after := _, guard := _ }) (v := ?v2_12) rfl (by kernel_rfl) (by kernel_rfl) (by kernel_rfl) (fun _ _ _ h => h) (Or.inl ⟨by rfl, ?hy2_12⟩) hHeld ?_
    case hy2_12 => (intro w hSw; (try dsimp only at hSw); go_simp; try with_reducible rfl)
    simp only [Act.put, List.setIfInBounds_toArray, List.set_cons_zero, List.set_cons_succ]
    refine wpAnyH_take (i := 13) (oi := { dst := some 57, op := _, type := _, pos := _, after := _, guard := _ }) (v := ?v2_13) rfl (by kernel_rfl) (by kernel_rfl) (by kernel_rfl) (fun _ _ _ h => h) (Or.inl ⟨by rfl, ?hy2_13⟩) hHeld ?_
    case hy2_13 => (intro w hSw; (try dsimp only at hSw); go_simp; try with_reducible rfl)
    simp only [Act.put, List.setIfInBounds_toArray, List.set_cons_zero, List.set_cons_succ]
    refine wpAnyH_ready (rs := [14]) (by kernel_rfl) (by simp) ?_
    refine AllReadyH.cons (o := { dst := some 10, op := _, type := _, pos := _, after := _, guard := _ }) rfl (fun K hK => ?_) AllReadyH.nil
    go_simp
    have hz : W.heap.size ≤ u6.heap.size := Hu6.size
    have rz := heap_alloc_new u6 (.cells #[.int .i64 0, .slice none 0 0, .slice none 0 0] 25)
    have H3 := below_on Hu6 (al1 u6 (.cells #[.int .i64 0, .slice none 0 0, .slice none 0 0] 25))
    refine hK.out _ _ H3 (fun hHeld => ?_)
    clear hK K
    generalize u6.heap.size = zb at *
    generalize u6.alloc (.cells #[.int .i64 0, .slice none 0 0, .slice none 0 0] 25) = u3 at *
    refine wpAnyH_ready (rs := [15]) (by kernel_rfl) (by simp) ?_
    refine AllReadyH.cons (o := { dst := none, op := _, type := _, pos := _, after := _, guard := _ }) rfl (fun K hK => ?_) AllReadyH.nil
    go_simp
    obtain ⟨s0, s1, s2, f0, f1, f2, -⟩ := row3 rz
    go_simp
    obtain ⟨u9, hu9⟩ : ∃ u9, u9 = ((u3.setCell ⟨zb, 0, none⟩ (.int .i64 0)).setCell ⟨zb, 1, none⟩ (.slice none 0 0)).setCell ⟨zb, 2, none⟩ (.slice none 0 0) := ⟨_, rfl⟩
    have H9 : Below W.heap.size W u9 := below_set3 hHeld hz _ _ _ hu9.symm
    rw [← hu9]
    refine hK.out _ _ H9 (fun hHeld => ?_)
    clear hK K hu9 s0 s1 s2 f0 f1 f2 rz
    refine wpAnyH_take (i := 16) (oi := { dst := some 11, op := _, type := _, pos := _, after := _, guard := _ }) (v := ?v3_16) rfl (by kernel_rfl) (by kernel_rfl) (by kernel_rfl) (fun _ _ _ h => h) (Or.inl ⟨by rfl, ?hy3_16⟩) hHeld ?_
    case hy3_16 => (intro w hSw; (try dsimp only at hSw); go_simp; try with_reducible rfl)
    simp only [Act.put, List.setIfInBounds_toArray, List.set_cons_zero, List.set_cons_succ]
    refine wpAnyH_ready (rs := [17]) (by kernel_rfl) (by simp) ?_
    refine AllReadyH.cons (o := { dst := some 12, op := _, type := _, pos := _, after := _, guard := _ }) rfl (fun K hK => ?_) AllReadyH.nil
    go_simp
    refine hK.out _ _ H9 (fun hHeld => ?_)
    clear hK K
    refine wpAnyH_done (by kernel_rfl) ?_ _
    go_wp2_with fail
    refine (HP3.out _ (hT.out.on H9)).mono ?_
    rintro e u7 ⟨rfl, hb⟩
    have B7 := Lib.hid (below_on (below_on H9 hb) (al1 u7 (.cells #[.int .i64 0, .slice none 0 0, .slice none 0 0] 25)))
    clear hb
    go_wp2_with fail
    go_ret
    exact ⟨ret_bool (by simp), B7.out⟩
  · go_simp
    have hz : W.heap.size ≤ wd.heap.size := hHeld.size
    have rz := heap_alloc_new wd (.cells #[.int .i64 0, .slice none 0 0, .slice none 0 0] 25)
    have H3 := below_on hHeld (al1 wd (.cells #[.int .i64 0, .slice none 0 0, .slice none 0 0] 25))
    refine hK.out _ _ H3 (fun hHeld => ?_)
    clear hK K H3
    generalize wd.heap.size = zb at *
    generalize wd.alloc (.cells #[.int .i64 0, .slice none 0 0, .slice none 0 0] 25) = u3 at *
    refine wpAnyH_ready (rs := [9]) (by kernel_rfl) (by simp) ?_
    refine AllReadyH.cons (o := { dst := some 54, op := _, type := _, pos := _, after := _, guard := _ }) rfl (fun K hK => ?_) AllReadyH.nil
    go_simp
    go_at_call 10
    refine (HP2.out _ (hT.out.on hHeld)).mono ?_
    rintro e u6 ⟨rfl, hb⟩
    have Hu6 := below_on hHeld hb
    refine hK.out _ _ Hu6 (fun hHeld => ?_)
    clear hK K
    replace rz := row_kept rz hb
    refine wpAnyH_take (i := 10) (oi := { dst := some 44, op := _, type := _, pos := _, after := _, guard := _ }) (v := ?v4_10) rfl (by kernel_rfl) (by kernel_rfl) (by kernel_rfl) (fun _ _ _ h => h) (Or.inl ⟨by rfl, ?hy4_10⟩) hHeld ?_
    case hy4_10 => (intro w hSw; (try dsimp only at hSw); go_simp; try with_reducible rfl)
    simp only [Act.put, List.setIfInBounds_toArray, List.set_cons_zero, List.set_cons_succ]
    refine wpAnyH_take (i := 11) (oi := { dst := some 55, op := _, type := _, pos := _, after := _, guard := _ }) (v := ?v4_11) rfl (by kernel_rfl) (by kernel_rfl) (by kernel_rfl) (fun _ _ _ h => h) (Or.inl ⟨by rfl, ?hy4_11⟩) hHeld ?_
    case hy4_11 => (intro w hSw; (try dsimp only at hSw); go_simp; try with_reducible rfl)
    simp only [Act.put, List.setIfInBounds_toArray, List.set_cons_zero, List.set_cons_succ]
    refine wpAnyH_take (i := 12) (oi := { dst := some 56, op := _, type := _, pos := _, after := _, guard := _ }) (v := ?v4_12) rfl (by kernel_rfl) (by kernel_rfl) (by kernel_rfl) (fun _ _ _ h => h) (Or.inl ⟨by rfl, ?hy4_12⟩) hHeld ?_
    case hy4_12 => (intro w hSw; (try dsimp only at hSw); go_simp; try with_reducible rfl)
    simp only [Act.put, List.setIfInBounds_toArray, List.set_cons_zero, List.set_cons_succ]
    refine wpAnyH_take (i := 13) (oi := { dst := some 57, op := _, type := _, pos := _, after := _, guard := _ }) (v := ?v4_13) rfl (by kernel_rfl) (by kernel_rfl) (by kernel_rfl) (fun _ _ _ h => h) (Or.inl ⟨by rfl, ?hy4_13⟩) hHeld ?_
    case hy4_13 => (intro w hSw; (try dsimp only at hSw); go_simp; try with_reducible rfl)
    simp only [Act.put, List.setIfInBounds_toArray, List.set_cons_zero, List.set_cons_succ]
    refine wpAnyH_ready (rs := [15]) (by kernel_rfl) (by simp) ?_
    refine AllReadyH.cons (o := { dst := none, op := _, type := _, pos := _, after := _, guard := _ }) rfl (fun K hK => ?_) AllReadyH.nil
    go_simp
    obtain ⟨s0, s1, s2, f0, f1, f2, -⟩ := row3 rz
    go_simp
    obtain ⟨u9, hu9⟩ : ∃ u9, u9 = ((u6.setCell ⟨zb, 0, none⟩ (.int .i64 0)).setCell ⟨zb, 1, none⟩ (.slice none 0 0)).setCell ⟨zb, 2, none⟩ (.slice none 0 0) := ⟨_, rfl⟩
    have H9 : Below W.heap.size W u9 := below_set3 hHeld hz _ _ _ hu9.symm
    rw [← hu9]
    refine hK.out _ _ H9 (fun hHeld => ?_)
    clear hK K hu9 s0 s1 s2 f0 f1 f2 rz
    refine wpAnyH_take (i := 16) (oi := { dst := some 11, op := _, type := _, pos := _, after := _, guard := _ }) (v := ?v5_16) rfl (by kernel_rfl) (by kernel_rfl) (by kernel_rfl) (fun _ _ _ h => h) (Or.inl ⟨by rfl, ?hy5_16⟩) hHeld ?_
    case hy5_16 => (intro w hSw; (try dsimp only at hSw); go_simp; try with_reducible rfl)
    simp only [Act.put, List.setIfInBounds_toArray, List.set_cons_zero, List.set_cons_succ]
    refine wpAnyH_ready (rs := [17]) (by kernel_rfl) (by simp) ?_
    refine AllReadyH.cons (o := { dst := some 12, op := _, type := _, pos := _, after := _, guard := _ }) rfl (fun K hK => ?_) AllReadyH.nil
    go_simp
    refine hK.out _ _ H9 (fun hHeld => ?_)
    clear hK K
    refine wpAnyH_done (by kernel_rfl) ?_ _
    go_wp2_with fail
    refine (HP3.out _ (hT.out.on H9)).mono ?_
    rintro e u7 ⟨rfl, hb⟩
    have B7 := Lib.hid (below_on (below_on H9 hb) (al1 u7 (.cells #[.int .i64 0, .slice none 0 0, .slice none 0 0] 25)))
    clear hb
    go_wp2_with fail
    go_ret
    exact ⟨ret_bool (by simp), B7.out⟩
theorem l26l_any (c : Cat) (v : Value) (W : World) (hT : T26 W) (h : CatAt W v c) :
    Calls Tryz.prog 5 #[v] W fun e w' => e = .returned (.bool true) ∧ Below W.heap.size W w' := by
  obtain ⟨free, ss, fs⟩ := c
  obtain ⟨vs, vf, rfl, h1, h2⟩ := h.v
  have h10 := h1
  have h20 := h2
  obtain ⟨A1, c1, rfl, -⟩ := h10
  obtain ⟨A2, c2, rfl, -⟩ := h20
  cases hf : (decide (ss.length ≤ 30) && decide (fs.length ≤ 60))
  · exact l26l_few free ss fs A1 A2 c1 c2 W hT h1 h2 hf
  · cases ho : okCt ⟨free, ss, fs⟩
    · exact l26l_prn free ss fs A1 A2 c1 c2 W hT h1 h2 hf ho
    · exact l26l_yes free ss fs A1 A2 c1 c2 W hT h1 h2 hf ho
theorem l26c_any (c : Cat) (v : Value) (W : World) (hT : T26 W) (h : CatAt W v c) :
    Calls Tryz.prog 3 #[v] W fun e w' => e = .returned (.bool true) ∧ Below W.heap.size W w' := by
  obtain ⟨free, ss, fs⟩ := c
  obtain ⟨vs, vf, rfl, h1, h2⟩ := h.v
  have h10 := h1
  have h20 := h2
  obtain ⟨A1, c1, rfl, -⟩ := h10
  obtain ⟨A2, c2, rfl, -⟩ := h20
  cases hf : (decide (ss.length ≤ 30) && decide (fs.length ≤ 60))
  · exact l26c_few free ss fs A1 A2 c1 c2 W hT h1 h2 hf
  · cases ho : okCt ⟨free, ss, fs⟩
    · exact l26c_prn free ss fs A1 A2 c1 c2 W hT h1 h2 hf ho
    · exact l26c_yes free ss fs A1 A2 c1 c2 W hT h1 h2 hf ho
theorem l26o_any (c : Cat) (v : Value) (a : Int) (ha : 0 ≤ a ∧ a ≤ 65535) (W : World) (hT : T26 W) (h : CatAt W v c) :
    Calls Tryz.prog 4 #[v, .int .u16 a] W fun e w' => e = .returned (.bool true) ∧ Below W.heap.size W w' := by
  obtain ⟨free, ss, fs⟩ := c
  obtain ⟨vs, vf, rfl, h1, h2⟩ := h.v
  have h10 := h1
  have h20 := h2
  obtain ⟨A1, c1, rfl, -⟩ := h10
  obtain ⟨A2, c2, rfl, -⟩ := h20
  cases hf : (decide (ss.length ≤ 30) && decide (fs.length ≤ 60))
  · exact l26o_few free ss fs A1 A2 c1 c2 a W hT h1 h2 hf
  · cases ho : okCt ⟨free, ss, fs⟩
    · exact l26o_prn free ss fs A1 A2 c1 c2 a W hT h1 h2 hf ho
    · exact l26o_yes free ss fs A1 A2 c1 c2 a ha W hT h1 h2 hf ho
end Go.Proofs.YtaamdimgloblpaaGreatDoor
