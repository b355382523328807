/- What earlier stages proved: Lb Lc Ld Le. -/
import Derived.Test.YtnfeihbkemgecaaDoorKa
import Derived.Laws.AppendOwn
import Derived.Test.YtnfeihbkemgecaaDoorKl
namespace Go.Proofs.YtnfeihbkemgecaaDoor
open Go.RowKit

theorem grown_of_below {w w' : World} (h : Below w.heap.size w w') (row : Option Nat) : w.grownBy w' row := ⟨h.os, h.tape, h.output, h.size, fun k hk _ => h.block k hk⟩
def IntsAt (B : Nat) (v : Value) (xs : List Int) (w : World) : Prop := w.ownsRow B 3 1 v xs.length (xs.map (Value.int .i64))
theorem IntsAt.on {B : Nat} {v : Value} {xs : List Int} {w w' : World} (h : IntsAt B v xs w) (hb : Below w.heap.size w w') : IntsAt B v xs w' :=
  World.ownsRow.kept h (grown_of_below hb none) (by cases hv : v.ownBlock <;> simp)
theorem IntsAt.al {B : Nat} {v : Value} {xs : List Int} {w : World} (h : IntsAt B v xs w) (o : Obj) : IntsAt B v xs (w.alloc o) := h.on ((Below.refl _ _).alloc (Nat.le_refl _) o)
theorem IntsAt.nil (B : Nat) (w : World) : IntsAt B (.slice none 0 0) [] w := World.ownsRow_nil w B _ 1
theorem IntsAt.lower {B B' : Nat} {v : Value} {xs : List Int} {w : World} (h : IntsAt B v xs w) (hB : B' ≤ B) : IntsAt B' v xs w := by
  refine ⟨h.1, ?_⟩
  rcases h.2 with hn | ⟨g, cap, cur, e, hb, rest⟩
  · exact .inl hn
  · exact .inr ⟨g, cap, cur, e, Nat.le_trans hB hb, rest⟩
theorem IntsAt.made1 (w : World) (a : Int) : IntsAt w.heap.size (.slice (some ⟨w.heap.size, 0, none⟩) 1 1) [a] (w.alloc (.cells #[.int .i64 a] 3)) :=
  ⟨by simp, .inr ⟨w.heap.size, 1, #[.int .i64 a], rfl, Nat.le_refl _, heap_alloc_new w _, Nat.le_refl _, by unfold maxLen; omega, rfl, rfl⟩⟩
theorem IntsAt.made2 (w : World) (a b : Int) : IntsAt w.heap.size (.slice (some ⟨w.heap.size, 0, none⟩) 2 2) [a, b] (w.alloc (.cells #[.int .i64 a, .int .i64 b] 3)) :=
  ⟨by simp, .inr ⟨w.heap.size, 2, #[.int .i64 a, .int .i64 b], rfl, Nat.le_refl _, heap_alloc_new w _, Nat.le_refl _, by unfold maxLen; omega, rfl, rfl⟩⟩
/-- What a walk reads of it. -/
structure IntsIn (g cap : Nat) (xs : List Int) (w : World) : Prop where
  lt : g < w.heap.size
  le : xs.length ≤ cap
  mx : cap ≤ maxLen
  cell : ∀ i, i < xs.length → w.cell? ⟨g, i, none⟩ = some (.int .i64 (xs.getD i 0))
theorem IntsIn.on {g cap : Nat} {xs : List Int} {w w' : World} (h : IntsIn g cap xs w) (hb : Below w.heap.size w w') : IntsIn g cap xs w' :=
  ⟨Nat.lt_of_lt_of_le h.lt hb.size, h.le, h.mx, fun i hi => cell_below (h.cell i hi) hb⟩
theorem IntsAt.get {B : Nat} {v : Value} {xs : List Int} {w : World} (h : IntsAt B v xs w) : (v = .slice none 0 0 ∧ xs = []) ∨ ∃ g cap, v = .slice (some ⟨g, 0, none⟩) xs.length cap ∧ IntsIn g cap xs w := by
  rcases h.2 with ⟨rfl, hn⟩ | ⟨g, cap, cur, rfl, hb, hg, hnc, hcm, hcs, htake⟩
  · exact .inl ⟨rfl, List.eq_nil_of_length_eq_zero hn⟩
  · refine .inr ⟨g, cap, rfl, (Array.getElem?_eq_some_iff.1 hg).1, hnc, hcm, fun i hi => ?_⟩
    have := World.ownsRow.cells h (g := g) rfl i (.int .i64 (xs.getD i 0)) (by rw [List.getElem?_map, List.getElem?_eq_getElem hi, List.getD_eq_getElem?_getD, List.getElem?_eq_getElem hi]; rfl)
    rwa [show (⟨g, 0, none⟩ : Addr).add i = ⟨g, i, none⟩ by unfold Addr.add; split <;> simp_all] at this
end Go.Proofs.YtnfeihbkemgecaaDoor

namespace Go.Proofs.YtnfeihbkemgecaaDoor
open Go.RowKit

def bgs : Array Value := #[.int .i64 1, .int .i64 1, .int .i64 1, .int .i64 31, .int .i64 3, .int .i64 1, .int .i64 3, .int .i64 31, .int .i64 4, .int .i64 29, .int .i64 5, .int .i64 29, .int .i64 6, .int .i64 27, .int .i64 7, .int .i64 27, .int .i64 8, .int .i64 25, .int .i64 9, .int .i64 24, .int .i64 10, .int .i64 23, .int .i64 11, .int .i64 22, .int .i64 12, .int .i64 21]
structure LTab (w : World) : Prop where
  len : ∃ t fr, w.heap[4]? = some (.cells (lens.map (Value.int .i64)).toArray t fr)
  beg : ∃ t fr, w.heap[0]? = some (.cells bgs t fr)
theorem lt_of_row {w : World} {g : Nat} {o : Obj} (h : w.heap[g]? = some o) : g < w.heap.size := by
  rcases Nat.lt_or_ge g w.heap.size with k | k
  · exact k
  · rw [Array.getElem?_eq_none k] at h; cases h
theorem LTab.on {w w' : World} (h : LTab w) (hb : Below w.heap.size w w') : LTab w' := by
  obtain ⟨⟨t1, f1, h1⟩, ⟨t2, f2, h2⟩⟩ := h
  exact ⟨⟨t1, f1, by rw [hb.block _ (lt_of_row h1)]; exact h1⟩, ⟨t2, f2, by rw [hb.block _ (lt_of_row h2)]; exact h2⟩⟩
theorem LTab.dn {w : World} (h : LTab w) (n : Nat) : LTab (w.drewN n) := h.on (below_dn (Below.refl w.heap.size w) n)
theorem LTab.al {w : World} (h : LTab w) (o : Obj) : LTab (w.alloc o) := h.on ((Below.refl w.heap.size w).alloc (Nat.le_refl _) o)
theorem LTab.cellL {w : World} (h : LTab w) (i : Nat) (hi : i < 12) : w.cell? ⟨4, i, none⟩ = some (.int .i64 (lens.getD i 0)) := by
  obtain ⟨t, fr, hg⟩ := h.len
  rw [cell_of_row w _ i _ t fr hg]
  have h : i = 0 ∨ i = 1 ∨ i = 2 ∨ i = 3 ∨ i = 4 ∨ i = 5 ∨ i = 6 ∨ i = 7 ∨ i = 8 ∨ i = 9 ∨ i = 10 ∨ i = 11 := by omega
  rcases h with rfl | rfl | rfl | rfl | rfl | rfl | rfl | rfl | rfl | rfl | rfl | rfl
  all_goals rfl
theorem LTab.cellM {w : World} (h : LTab w) (k : Nat) (hk : k < 13) : w.cell? ⟨0, k * 2, none⟩ = some (.int .i64 (begM k)) := by
  obtain ⟨t, fr, hg⟩ := h.beg
  rw [cell_of_row w _ _ _ t fr hg]
  have h : k = 0 ∨ k = 1 ∨ k = 2 ∨ k = 3 ∨ k = 4 ∨ k = 5 ∨ k = 6 ∨ k = 7 ∨ k = 8 ∨ k = 9 ∨ k = 10 ∨ k = 11 ∨ k = 12 := by omega
  rcases h with rfl | rfl | rfl | rfl | rfl | rfl | rfl | rfl | rfl | rfl | rfl | rfl | rfl
  all_goals rfl
theorem LTab.cellD {w : World} (h : LTab w) (k : Nat) (hk : k < 13) : w.cell? ⟨0, k * 2 + 1, none⟩ = some (.int .i64 (begD k)) := by
  obtain ⟨t, fr, hg⟩ := h.beg
  rw [cell_of_row w _ _ _ t fr hg]
  have h : k = 0 ∨ k = 1 ∨ k = 2 ∨ k = 3 ∨ k = 4 ∨ k = 5 ∨ k = 6 ∨ k = 7 ∨ k = 8 ∨ k = 9 ∨ k = 10 ∨ k = 11 ∨ k = 12 := by omega
  rcases h with rfl | rfl | rfl | rfl | rfl | rfl | rfl | rfl | rfl | rfl | rfl | rfl | rfl
  all_goals rfl
theorem lens_dim (m : Int) (h1 : 1 ≤ m) (h2 : m ≤ 12) : lens.getD (m - 1).toNat 0 = dim false m := by
  have h : m = 1 ∨ m = 2 ∨ m = 3 ∨ m = 4 ∨ m = 5 ∨ m = 6 ∨ m = 7 ∨ m = 8 ∨ m = 9 ∨ m = 10 ∨ m = 11 ∨ m = 12 := by omega
  rcases h with rfl | rfl | rfl | rfl | rfl | rfl | rfl | rfl | rfl | rfl | rfl | rfl
  all_goals rfl

theorem lis_any (m d : Int) (w : World) (ht : LTab w) :
    Calls Tryd.prog 84 #[.int .i64 m, .int .i64 d] w fun e w' => e = .returned (.bool (okD m d)) ∧ w = w' := by
  by_cases h : 1 ≤ m ∧ m ≤ 12
  · obtain ⟨m1, m2⟩ := h
    have hc := ht.cellL (m - 1).toNat (by omega)
    rw [lens_dim m m1 m2, show (m - 1).toNat = m.toNat - 1 by omega] at hc
    have e1 : decide (1 ≤ m) = true := by simpa using m1
    have e2 : decide (m ≤ 12) = true := by simpa using m2
    clear ht
    cases h3 : decide (1 ≤ d)
    · have hv := Lib.hid (okD_false (m := m) (d := d) (by simp at h3; omega))
      go_enter Tryd.func84, Tryd.ntmps84
      go_wp2
      go_ret
      exact ⟨ret_bool hv.out.symm, rfl⟩
    · cases h4 : decide (d ≤ dim false m)
      · have hv := Lib.hid (okD_false (m := m) (d := d) (by simp at h3 h4; omega))
        go_enter Tryd.func84, Tryd.ntmps84
        go_wp2
        go_ret
        exact ⟨ret_bool hv.out.symm, rfl⟩
      · have hv := Lib.hid (okD_iff.2 (show 1 ≤ d ∧ d ≤ dim false m by simp at h3 h4; omega))
        go_enter Tryd.func84, Tryd.ntmps84
        go_wp2
        go_ret
        exact ⟨ret_bool hv.out.symm, rfl⟩
  · have hv := Lib.hid (okD_false (m := m) (d := d) (fun g => h (month_of_dim false m (by omega))))
    clear ht
    cases h3 : decide (1 ≤ m)
    · go_enter Tryd.func84, Tryd.ntmps84
      go_wp2
      go_ret
      exact ⟨ret_bool hv.out.symm, rfl⟩
    · have h4 : decide (m ≤ 12) = false := by simp at h3 ⊢; omega
      go_enter Tryd.func84, Tryd.ntmps84
      go_wp2
      go_ret
      exact ⟨ret_bool hv.out.symm, rfl⟩

theorem ldoy_any (m d : Int) (w : World) (ht : LTab w) (m1 : 1 ≤ m) (m2 : m ≤ 12) (d1 : 1 ≤ d) (d2 : d ≤ 31) :
    Calls Tryd.prog 86 #[.int .i64 m, .int .i64 d] w fun e w' => e = .returned (.int .i64 (doy m d)) ∧ w = w' := by
  have hz : cum false 1 = 0 := cum_one false
  have hcs := fun k h1 h2 => cum_succ false k h1 h2
  have hbd := fun k h1 h2 => cum_bd false k h1 h2
  have HS := Lib.hid hcs
  have HB := Lib.hid hbd
  have HZ := Lib.hid hz
  have HT := Lib.hid ht
  clear hz hcs hbd ht
  go_enter Tryd.func86, Tryd.ntmps86
  go_wp2
  go_loop [1, 8] (fun s i => ∃ k : Nat, (k : Int) ≤ m - 1 ∧ i = .int .i64 k ∧ s = .int .i64 (cum false (k + 1) + d)) (fun _ i => (m - 1 - intOf i).toNat)
  case atStart => exact ⟨0, by omega, rfl, by rw [show ((0 : Nat) : Int) + 1 = 1 from rfl, HZ.out]; simp⟩
  case round =>
    obtain ⟨k, hk, rfl, rfl⟩ := hrel
    have hb := HB.out (k + 1) (by omega) (by omega)
    by_cases hlt : (k : Int) < m - 1
    · have hc := HT.out.cellL k (by omega)
      have hl := lens_dim (k + 1) (by omega) (by omega)
      rw [show ((k : Int) + 1 - 1).toNat = k by omega] at hl
      rw [hl] at hc
      have hd := dim_bd false (k + 1) (by omega) (by omega)
      have hs := Lib.hid (HS.out (k + 1) (by omega) (by omega))
      clear hl
      go_wp2
      go_round
      case rel => exact ⟨k + 1, by omega, by go_num, by rw [show (((k + 1 : Nat) : Int) + 1) = (k : Int) + 1 + 1 by omega, hs.out]; go_num⟩
      case measure => simp [intOf]; omega
    · go_wp2
      go_ret
      exact ⟨ret_int (by rw [show (k : Int) + 1 = m by omega]; rfl), rfl⟩

theorem aft_m {k m d : Int} (h : decide (m < begM k) = true) : aftB k m d = true := by simp [aftB, h]
theorem aft_e {k m d : Int} (h : decide (m < begM k) = false) (g : (begM k == m) = false) : aftB k m d = false := by
  rw [beq_eq_false_iff_ne] at g; simp [aftB, h, g]
theorem aft_d {k m d : Int} (b : Bool) (g : (begM k == m) = true) (e : decide (d < begD k) = b) : aftB k m d = b := by
  rw [beq_iff_eq] at g; simp [aftB, g, e]
theorem lbeg_any (k : Nat) (m d : Int) (w : World) (ht : LTab w) (hk : k < 13) :
    Calls Tryd.prog 94 #[.int .i64 k, .int .i64 m, .int .i64 d] w fun e w' => e = .returned (.bool (aftB k m d)) ∧ Below w.heap.size w w' := by
  have c1 := ht.cellM k hk
  have c2 := ht.cellD k hk
  clear ht
  cases h1 : decide (m < begM k)
  · cases h2 : (begM k == m)
    · have hv := Lib.hid (aft_e (d := d) h1 h2)
      go_enter Tryd.func94, Tryd.ntmps94
      go_wp2
      go_ret
      exact ⟨ret_bool hv.out.symm, (Below.refl _ _).alloc (Nat.le_refl _) _⟩
    · cases h3 : decide (d < begD k)
      · have hv := Lib.hid (aft_d _ h2 h3)
        go_enter Tryd.func94, Tryd.ntmps94
        go_wp2
        go_ret
        exact ⟨ret_bool hv.out.symm, (Below.refl _ _).alloc (Nat.le_refl _) _⟩
      · have hv := Lib.hid (aft_d _ h2 h3)
        go_enter Tryd.func94, Tryd.ntmps94
        go_wp2
        go_ret
        exact ⟨ret_bool hv.out.symm, (Below.refl _ _).alloc (Nat.le_refl _) _⟩
  · have hv := Lib.hid (aft_m (d := d) h1)
    go_enter Tryd.func94, Tryd.ntmps94
    go_wp2
    go_ret
    exact ⟨ret_bool hv.out.symm, (Below.refl _ _).alloc (Nat.le_refl _) _⟩
theorem lun_yes {k m d : Int} (h : lunM m d < k) (k1 : 0 ≤ k) (k2 : k ≤ 12) (hd : okD m d = true) : aftB k m d = true := by
  rw [aft_lun k m d k1 k2 hd]; simpa using h
theorem lun_no {k m d : Int} (h : k ≤ lunM m d) (k1 : 0 ≤ k) (k2 : k ≤ 12) (hd : okD m d = true) : aftB k m d = false := by
  rw [aft_lun k m d k1 k2 hd]; simp; omega
theorem llun_any (m d : Int) (w : World) (ht : LTab w) (hd : okD m d = true) :
    Calls Tryd.prog 85 #[.int .i64 m, .int .i64 d] w fun e w' => e = .returned (.int .i64 (lunM m d)) ∧ Below w.heap.size w w' := by
  have hb := lunM_bd m d
  have HT := Lib.hid ht
  have HD := Lib.hid hd
  clear ht hd
  go_enter Tryd.func85, Tryd.ntmps85
  go_wp2
  go_loopw [5] (fun i wr => Below w.heap.size w wr ∧ ∃ k : Nat, lunM m d ≤ k ∧ (k : Int) ≤ 12 ∧ i = .int .i64 k) (fun i _ => (intOf i - lunM m d).toNat)
  case atStart => exact ⟨Below.refl _ _, 12, by omega, by omega, rfl⟩
  case round =>
    obtain ⟨hbw, k, hk1, hk2, rfl⟩ := hrel
    have HW := Lib.hid hbw
    clear hbw
    by_cases hlt : lunM m d < k
    · have H := fun w ht => lbeg_any k m d w ht (by omega)
      simp only [lun_yes hlt (by omega) hk2 HD.out] at H
      have HH := Lib.hid H
      clear H
      go_wp2_with fail
      refine (HH.out _ (HT.out.on HW.out)).mono ?_
      rintro e w1 ⟨rfl, hb1⟩
      have HW1 := Lib.hid (below_on HW.out hb1)
      clear hb1
      go_wp2_with fail
      go_roundw
      case rel => exact ⟨HW1.out, k - 1, by omega, by omega, by rw [show ((k - 1 : Nat) : Int) = (k : Int) - 1 by omega]⟩
      case measure => simp [intOf]; omega
    · have H := fun w ht => lbeg_any k m d w ht (by omega)
      simp only [lun_no (show (k : Int) ≤ lunM m d by omega) (by omega) hk2 HD.out] at H
      have HH := Lib.hid H
      clear H
      go_wp2_with fail
      refine (HH.out _ (HT.out.on HW.out)).mono ?_
      rintro e w1 ⟨rfl, hb1⟩
      have HW1 := Lib.hid (below_on HW.out hb1)
      clear hb1
      go_wp2_with fail
      go_ret
      exact ⟨ret_int (by omega), HW1.out⟩
end Go.Proofs.YtnfeihbkemgecaaDoor

namespace Go.Proofs.YtnfeihbkemgecaaDoor
open Go.RowKit

theorem ret_iib {a b a' b' : Int} {c c' : Bool} (h : a = a') (g : b = b') (k : c = c') : Ending.returned (.tuple #[.int .i64 a, .int .i64 b, .bool c]) = .returned (.tuple #[.int .i64 a', .int .i64 b', .bool c']) := by rw [h, g, k]
theorem lpos_no (m d : Int) (w : World) (ht : LTab w) (hd : okD m d = false) :
    Calls Tryd.prog 66 #[.int .i64 m, .int .i64 d] w fun e w' => e = .returned (.tuple #[.int .i64 0, .int .i64 0, .bool false]) ∧ Below w.heap.size w w' := by
  have H := Lib.hid (fun w ht => by have := lis_any m d w ht; rwa [hd] at this : ∀ w, LTab w → Calls Tryd.prog 84 #[.int .i64 m, .int .i64 d] w fun e w' => e = .returned (.bool false) ∧ w = w')
  have HT := Lib.hid ht
  clear hd ht
  go_enter Tryd.func66, Tryd.ntmps66
  go_wp2_with fail
  refine (H.out _ HT.out).mono ?_
  rintro e w1 ⟨rfl, rfl⟩
  go_wp2_with fail
  go_ret3
  exact ⟨rfl, Below.refl _ _⟩
theorem lpos_yes (m d : Int) (w : World) (ht : LTab w) (hd : okD m d = true) :
    Calls Tryd.prog 66 #[.int .i64 m, .int .i64 d] w fun e w' => e = .returned (.tuple #[.int .i64 (lunM m d), .int .i64 (posM m d), .bool true]) ∧ Below w.heap.size w w' := by
  have H := Lib.hid (fun w ht => by have := lis_any m d w ht; rwa [hd] at this : ∀ w, LTab w → Calls Tryd.prog 84 #[.int .i64 m, .int .i64 d] w fun e w' => e = .returned (.bool true) ∧ w = w')
  have HL := Lib.hid (fun w ht => llun_any m d w ht hd)
  obtain ⟨k, hk, hk2⟩ : ∃ k : Nat, lunM m d = k ∧ k < 13 := by
    have := lunM_bd m d
    exact ⟨(lunM m d).toNat, by omega, by omega⟩
  have HK := Lib.hid hk
  have hp := Lib.hid (posM_eq hd)
  obtain ⟨m1, m2, d1, d2⟩ := okD_bd hd
  have hb := beg_doy k (by omega) (by omega)
  obtain ⟨n1, n2, e1, e2⟩ := okD_bd hb.1
  have q0 := doy_bd hd
  have q1 := doy_bd hb.1
  have HT := Lib.hid ht
  clear hd ht hb hk
  go_enter Tryd.func66, Tryd.ntmps66
  go_wp2_with fail
  refine (H.out _ HT.out).mono ?_
  rintro e w1 ⟨rfl, rfl⟩
  go_wp2_with fail
  refine (HL.out _ HT.out).mono ?_
  rw [HK.out]
  rintro e w1 ⟨rfl, hb1⟩
  have T1 := Lib.hid (HT.out.on hb1)
  have c1 := T1.out.cellM k hk2
  have c2 := T1.out.cellD k hk2
  have HB1 := Lib.hid hb1
  clear hb1
  go_wp2_with fail
  have T2 := Lib.hid (fun n o => (T1.out.al o).dn n)
  go_quiet ((go_at_call 86; exact quiet_same (ldoy_any _ _ _ (T2.out _ _) (by assumption) (by assumption) (by assumption) (by assumption))))
  go_wp2_with fail
  go_ret3
  exact ⟨ret_iib HK.out.symm (by rw [hp.out, HK.out]) rfl, below_dn (HB1.out.alloc HB1.out.size _) _⟩
theorem lpos_any (m d : Int) (w : World) (ht : LTab w) :
    Calls Tryd.prog 66 #[.int .i64 m, .int .i64 d] w fun e w' => e = .returned (.tuple #[.int .i64 (lunM m d), .int .i64 (posM m d), .bool (okD m d)]) ∧ Below w.heap.size w w' := by
  cases h : okD m d
  · rw [lunM_no h, posM_no h]; exact lpos_no m d w ht h
  · exact lpos_yes m d w ht h

theorem lfull_any (k : Int) (w : World) (h : 0 ≤ k) :
    Calls Tryd.prog 67 #[.int .i64 k] w fun e w' => e = .returned (.bool (decide (k % 2 = 0))) ∧ w = w' := by
  go_enter Tryd.func67, Tryd.ntmps67
  go_wp2
  go_ret
  exact ⟨ret_bool (by rw [Bool.eq_iff_iff, beq_iff_eq, decide_eq_true_iff]), rfl⟩
/-- A slice of integers of the call's own is handed back; what lay in memory lies there. -/
def RetInts (xs : List Int) (w : World) (e : Ending) (w' : World) : Prop := ∃ v, e = .returned v ∧ IntsAt w.heap.size v xs w' ∧ Below w.heap.size w w'
theorem RetInts.as {xs ys : List Int} {w : World} {e : Ending} {w' : World} (h : RetInts xs w e w') (g : xs = ys) : RetInts ys w e w' := g ▸ h
theorem ret_made1 (w : World) (a : Int) : RetInts [a] w (.returned (.slice (some ⟨w.heap.size, 0, none⟩) 1 1)) (w.alloc (.cells #[.int .i64 a] 3)) := ⟨_, rfl, IntsAt.made1 w a, (Below.refl _ _).alloc (Nat.le_refl _) _⟩
theorem ret_made2 (w : World) (a b : Int) : RetInts [a, b] w (.returned (.slice (some ⟨w.heap.size, 0, none⟩) 2 2)) (w.alloc (.cells #[.int .i64 a, .int .i64 b] 3)) := ⟨_, rfl, IntsAt.made2 w a b, (Below.refl _ _).alloc (Nat.le_refl _) _⟩
theorem lfl_any (p : Int) (w : World) (h1 : 0 ≤ p) (h2 : p ≤ 29) :
    Calls Tryd.prog 68 #[.int .i64 p] w (RetInts (fullL p) w) := by
  cases h : (p == 5)
  · have hv := Lib.hid (show fullL p = [30 - p] by rw [fullL, if_neg (by simpa using h)])
    go_enter Tryd.func68, Tryd.ntmps68
    go_wp2
    go_ret
    exact (ret_made1 _ _).as hv.out.symm
  · have hv := Lib.hid (show fullL p = [31, 25] by rw [fullL, if_pos (by simpa using h)])
    go_enter Tryd.func68, Tryd.ntmps68
    go_wp2
    go_ret
    exact (ret_made2 _ _ _).as hv.out.symm
theorem lhl_any (p : Int) (w : World) (h1 : 0 ≤ p) (h2 : p ≤ 29) :
    Calls Tryd.prog 69 #[.int .i64 p] w (RetInts (hollowL p) w) := by
  have h' : p < 4 ∨ p = 4 ∨ p = 5 ∨ 6 ≤ p := by omega
  rcases h' with h | rfl | rfl | h
  · have hv := Lib.hid (show hollowL p = [30 - p] by rw [hollowL, if_pos h])
    go_enter Tryd.func69, Tryd.ntmps69
    go_wp2
    go_ret
    exact (ret_made1 _ _).as hv.out.symm
  · go_enter Tryd.func69, Tryd.ntmps69
    go_wp2
    go_ret
    exact (ret_made2 _ _ _).as rfl
  · go_enter Tryd.func69, Tryd.ntmps69
    go_wp2
    go_ret
    exact (ret_made2 _ _ _).as rfl
  · have hv := Lib.hid (show hollowL p = [29 - p] by rw [hollowL, if_neg (by omega), if_neg (by omega), if_neg (by omega)])
    have e4 : (p == 4) = false := by rw [beq_eq_false_iff_ne]; omega
    have e5 : (p == 5) = false := by rw [beq_eq_false_iff_ne]; omega
    go_enter Tryd.func69, Tryd.ntmps69
    go_wp2
    go_ret
    exact (ret_made1 _ _).as hv.out.symm
theorem ret_nil (w w' : World) (hb : Below w.heap.size w w') : RetInts [] w (.returned (.slice none 0 0)) w' := ⟨_, rfl, IntsAt.nil _ _, hb⟩
theorem RetInts.after {xs : List Int} {w w1 : World} {e : Ending} {w' : World} (h : RetInts xs w1 e w') (hb : Below w.heap.size w w1) : RetInts xs w e w' := by
  obtain ⟨v, rfl, hv, hb1⟩ := h
  exact ⟨v, rfl, hv.lower hb.size, below_on hb hb1⟩
theorem lon_any (m d : Int) (w : World) (ht : LTab w) :
    Calls Tryd.prog 53 #[.int .i64 m, .int .i64 d] w (RetInts (onD m d) w) := by
  have H := Lib.hid (fun w ht => lpos_any m d w ht)
  have HT := Lib.hid ht
  have hl := lunM_bd m d
  have hp := posM_bd m d
  clear ht
  cases hd : okD m d
  · have hv := Lib.hid (onD_no hd)
    rw [hd] at H
    clear hd
    go_enter Tryd.func53, Tryd.ntmps53
    go_wp2_with fail
    refine (H.out _ HT.out).mono ?_
    rintro e w1 ⟨rfl, hb1⟩
    have HB := Lib.hid hb1
    clear hb1
    go_wp2_with fail
    go_ret
    exact (ret_nil _ _ HB.out).as hv.out.symm
  · have hv := Lib.hid (onD_at hd)
    rw [hd] at H
    clear hd
    cases h2 : decide (lunM m d % 2 = 0)
    · have hw := Lib.hid (show onD m d = hollowL (posM m d) by rw [hv.out, onL, if_neg (by simpa using h2)])
      have HF := Lib.hid (fun w => by have := lfull_any (lunM m d) w hl.1; rwa [h2] at this : ∀ w, Calls Tryd.prog 67 #[.int .i64 (lunM m d)] w fun e w' => e = .returned (.bool false) ∧ w = w')
      clear h2 hv
      go_enter Tryd.func53, Tryd.ntmps53
      go_wp2_with fail
      refine (H.out _ HT.out).mono ?_
      rintro e w1 ⟨rfl, hb1⟩
      have HB := Lib.hid hb1
      clear hb1
      go_wp2_with fail
      refine (HF.out _).mono ?_
      rintro e wq ⟨rfl, rfl⟩
      go_wp2_with fail
      refine (lhl_any _ _ hp.1 hp.2).mono ?_
      rintro e w2 ⟨v, rfl, hv1, hb2⟩
      have HR := Lib.hid (RetInts.after ⟨v, rfl, hv1, hb2⟩ HB.out)
      clear hv1 hb2
      go_wp2_with fail
      go_ret
      exact HR.out.as hw.out.symm
    · have hw := Lib.hid (show onD m d = fullL (posM m d) by rw [hv.out, onL, if_pos (by simpa using h2)])
      have HF := Lib.hid (fun w => by have := lfull_any (lunM m d) w hl.1; rwa [h2] at this : ∀ w, Calls Tryd.prog 67 #[.int .i64 (lunM m d)] w fun e w' => e = .returned (.bool true) ∧ w = w')
      clear h2 hv
      go_enter Tryd.func53, Tryd.ntmps53
      go_wp2_with fail
      refine (H.out _ HT.out).mono ?_
      rintro e w1 ⟨rfl, hb1⟩
      have HB := Lib.hid hb1
      clear hb1
      go_wp2_with fail
      refine (HF.out _).mono ?_
      rintro e wq ⟨rfl, rfl⟩
      go_wp2_with fail
      refine (lfl_any _ _ hp.1 hp.2).mono ?_
      rintro e w2 ⟨v, rfl, hv1, hb2⟩
      have HR := Lib.hid (RetInts.after ⟨v, rfl, hv1, hb2⟩ HB.out)
      clear hv1 hb2
      go_wp2_with fail
      go_ret
      exact HR.out.as hw.out.symm
end Go.Proofs.YtnfeihbkemgecaaDoor

namespace Go.Proofs.YtnfeihbkemgecaaDoor
open Go.RowKit

def idx (xs : List Int) (l : Int) : Int := if xs.contains l = true then (xs.idxOf l : Int) else -1
theorem idx_lt {xs : List Int} {l : Int} (h : xs.contains l = false) : idx xs l = -1 := by rw [idx, if_neg (by rw [h]; decide)]
theorem idx_at {xs : List Int} {l : Int} (k : Nat) (h : (xs.take k).contains l = false) (hk : k < xs.length) (hl : xs.getD k 0 = l) : idx xs l = k := by
  have hl' : xs[k] = l := by rw [← hl, List.getD_eq_getElem?_getD, List.getElem?_eq_getElem hk]; rfl
  have hm : l ∈ xs := by rw [← hl']; exact List.getElem_mem hk
  rw [idx, if_pos (by simpa using hm)]
  have e := List.take_append_drop k xs
  have hn : l ∉ xs.take k := by simpa using h
  have h2 : xs.drop k = l :: xs.drop (k + 1) := by rw [← hl', List.drop_eq_getElem_cons hk]
  have h3 : xs.idxOf l = k := by
    conv => lhs; rw [← e]
    rw [List.idxOf_append, if_neg hn, h2, List.idxOf_cons_self, List.length_take]
    omega
  rw [h3]
theorem idx_nonneg (xs : List Int) (l : Int) : decide (0 ≤ idx xs l) = xs.contains l := by
  unfold idx
  cases h : xs.contains l
  · simp
  · rw [if_pos rfl]; simp
theorem take_snoc_no {xs : List Int} {l : Int} {k : Nat} (h : (xs.take k).contains l = false) (hk : k < xs.length) (hl : (l == xs.getD k 0) = false) : (xs.take (k + 1)).contains l = false := by
  rw [List.take_succ_eq_append_getElem hk]
  rw [List.getD_eq_getElem?_getD, List.getElem?_eq_getElem hk, Option.getD_some, beq_eq_false_iff_ne] at hl
  have hn : l ∉ xs.take k := by simpa using h
  cases g : (xs.take k ++ [xs[k]]).contains l
  · rfl
  · rw [List.contains_iff_mem, List.mem_append, List.mem_singleton] at g
    exact absurd g (fun g => g.elim hn hl)
theorem take_all_no {xs : List Int} {l : Int} {k : Nat} (h : (xs.take k).contains l = false) (hk : xs.length ≤ k) : xs.contains l = false := by
  rwa [List.take_of_length_le hk] at h
theorem idx_any (v : Value) (xs : List Int) (l : Int) (w : World) {B : Nat} (hs : IntsAt B v xs w) :
    Calls Tryd.prog 65 #[v, .int .i64 l] w fun e w' => e = .returned (.int .i64 (idx xs l)) ∧ w = w' := by
  rcases hs.get with ⟨rfl, rfl⟩ | ⟨g, cap, rfl, hi⟩
  · clear hs
    go_enter Tryd.func65, Tryd.ntmps65
    go_wp2
    refine wp_loop_rounds 1 ?_
    rw [rounds_succ]
    go_wp2
    go_ret
    exact ⟨rfl, rfl⟩
  · clear hs
    have HI := Lib.hid hi
    have hlen : xs.length ≤ 9223372036854775807 := by have := hi.le; have := hi.mx; unfold maxLen at this; omega
    generalize hn : xs.length = n at *
    have HN := Lib.hid hn
    clear hi hn
    go_enter Tryd.func65, Tryd.ntmps65
    go_wp2
    go_loop [8] (fun i => ∃ k : Nat, k ≤ n ∧ i = .int .i64 k ∧ (xs.take k).contains l = false) (fun i => n - (intOf i).toNat)
    case atStart => exact ⟨0, Nat.zero_le _, rfl, rfl⟩
    case round =>
      obtain ⟨k, hk, rfl, hno⟩ := hrel
      have HO := Lib.hid hno
      clear hno
      by_cases hlt : k < n
      · have hc := HI.out.cell k (by rw [HN.out]; exact hlt)
        have hx := Lib.hid (fun h : (l == xs.getD k 0) = false => take_snoc_no HO.out (by rw [HN.out]; exact hlt) h)
        have hy := Lib.hid (fun h : xs.getD k 0 = l => idx_at k HO.out (by rw [HN.out]; exact hlt) h)
        generalize xs.getD k 0 = x at *
        cases hb : (l == x)
        · go_wp2
          go_round
          case rel => exact ⟨k + 1, by omega, by go_num, hx.out hb⟩
          case measure => simp [intOf]; omega
        · go_wp2
          go_ret
          exact ⟨ret_int (hy.out (by simpa using (beq_iff_eq.1 hb).symm)).symm, rfl⟩
      · have hz := Lib.hid (idx_lt (take_all_no HO.out (by rw [HN.out]; omega)))
        go_wp2
        go_ret
        exact ⟨ret_int hz.out.symm, rfl⟩
theorem cont_any (v : Value) (xs : List Int) (l : Int) (w : World) {B : Nat} (hs : IntsAt B v xs w) :
    Calls Tryd.prog 52 #[v, .int .i64 l] w fun e w' => e = .returned (.bool (xs.contains l)) ∧ w = w' := by
  have H := Lib.hid hs
  have hz := idx_nonneg xs l
  have HX := Lib.hid (idx_any v xs l w hs)
  clear hs
  generalize idx xs l = i at *
  have HZ := Lib.hid hz
  clear hz
  go_enter Tryd.func52, Tryd.ntmps52
  go_wp2_with fail
  refine HX.out.mono ?_
  rintro e w1 ⟨rfl, rfl⟩
  go_wp2_with fail
  go_ret
  exact ⟨ret_bool HZ.out, rfl⟩
theorem lbears_any (m d l : Int) (w : World) (ht : LTab w) :
    Calls Tryd.prog 41 #[.int .i64 m, .int .i64 d, .int .i64 l] w fun e w' => e = .returned (.bool (bears m d l)) ∧ Below w.heap.size w w' := by
  have HT := Lib.hid ht
  clear ht
  go_enter Tryd.func41, Tryd.ntmps41
  go_wp2_with fail
  refine (lon_any m d _ HT.out).mono ?_
  rintro e w1 ⟨v, rfl, hv, hb1⟩
  have HV := Lib.hid hv
  have HB := Lib.hid hb1
  clear hv hb1
  go_wp2_with fail
  refine (show Calls Tryd.prog 52 #[v, .int .i64 l] w1 fun e w' => e = .returned (.bool (bears m d l)) ∧ w1 = w' from cont_any v _ l _ HV.out).mono ?_
  rintro e wq ⟨rfl, rfl⟩
  go_wp2_with fail
  go_ret
  exact ⟨rfl, HB.out⟩
end Go.Proofs.YtnfeihbkemgecaaDoor
