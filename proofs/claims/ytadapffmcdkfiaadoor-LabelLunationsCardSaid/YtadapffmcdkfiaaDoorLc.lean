/- The contracts of package label's leaves: isDay, dayOfYear, beginsAfter, lunationOf, Position. They are asked in a memory in which both tables read as the program's text lays them. -/
import Derived.Test.YtadapffmcdkfiaaDoorLa
import Derived.Test.YtadapffmcdkfiaaDoorLb
namespace Go.Proofs.YtadapffmcdkfiaaDoor
open Go.RowKit

def bgs : Array Value := #[.int .i64 1, .int .i64 1, .int .i64 1, .int .i64 31, .int .i64 3, .int .i64 1, .int .i64 3, .int .i64 31, .int .i64 4, .int .i64 29, .int .i64 5, .int .i64 29, .int .i64 6, .int .i64 27, .int .i64 7, .int .i64 27, .int .i64 8, .int .i64 25, .int .i64 9, .int .i64 24, .int .i64 10, .int .i64 23, .int .i64 11, .int .i64 22, .int .i64 12, .int .i64 21]
structure LTab (w : World) : Prop where
  len : ∃ t fr, w.heap[1]? = some (.cells (lens.map (Value.int .i64)).toArray t fr)
  beg : ∃ t fr, w.heap[0]? = some (.cells bgs t fr)
theorem lt_of_row {w : World} {g : Nat} {o : Obj} (h : w.heap[g]? = some o) : g < w.heap.size := by
  rcases Nat.lt_or_ge g w.heap.size with k | k
  · exact k
  · rw [Array.getElem?_eq_none k] at h; cases h
theorem LTab.on {w w' : World} (h : LTab w) (hb : Below w.heap.size w w') : LTab w' := by
  obtain ⟨⟨t1, f1, h1⟩, ⟨t2, f2, h2⟩⟩ := h
  exact ⟨⟨t1, f1, by rw [hb.block _ (lt_of_row h1)]; exact h1⟩, ⟨t2, f2, by rw [hb.block _ (lt_of_row h2)]; exact h2⟩⟩
theorem LTab.dn {w : World} (h : LTab w) (n : Nat) : LTab (w.drewN n) := h.on (below_dn (Below.refl w.heap.size w) n)
theorem LTab.al {w : World} (h : LTab w) (o : Obj) : LTab (w.alloc o) := h.on ((Below.refl w.heap.size w).alloc (Nat.le_refl _) o)
theorem LTab.cellL {w : World} (h : LTab w) (i : Nat) (hi : i < 12) : w.cell? ⟨1, i, none⟩ = some (.int .i64 (lens.getD i 0)) := by
  obtain ⟨t, fr, hg⟩ := h.len
  rw [cell_of_row w _ i _ t fr hg]
  have h : i = 0 ∨ i = 1 ∨ i = 2 ∨ i = 3 ∨ i = 4 ∨ i = 5 ∨ i = 6 ∨ i = 7 ∨ i = 8 ∨ i = 9 ∨ i = 10 ∨ i = 11 := by omega
  rcases h with rfl | rfl | rfl | rfl | rfl | rfl | rfl | rfl | rfl | rfl | rfl | rfl
  all_goals rfl
theorem LTab.cellM {w : World} (h : LTab w) (k : Nat) (hk : k < 13) : w.cell? ⟨0, k * 2, none⟩ = some (.int .i64 (begM k)) := by
  obtain ⟨t, fr, hg⟩ := h.beg
  rw [cell_of_row w _ _ _ t fr hg]
  have h : k = 0 ∨ k = 1 ∨ k = 2 ∨ k = 3 ∨ k = 4 ∨ k = 5 ∨ k = 6 ∨ k = 7 ∨ k = 8 ∨ k = 9 ∨ k = 10 ∨ k = 11 ∨ k = 12 := by omega
  rcases h with rfl | rfl | rfl | rfl | rfl | rfl | rfl | rfl | rfl | rfl | rfl | rfl | rfl
  all_goals rfl
theorem LTab.cellD {w : World} (h : LTab w) (k : Nat) (hk : k < 13) : w.cell? ⟨0, k * 2 + 1, none⟩ = some (.int .i64 (begD k)) := by
  obtain ⟨t, fr, hg⟩ := h.beg
  rw [cell_of_row w _ _ _ t fr hg]
  have h : k = 0 ∨ k = 1 ∨ k = 2 ∨ k = 3 ∨ k = 4 ∨ k = 5 ∨ k = 6 ∨ k = 7 ∨ k = 8 ∨ k = 9 ∨ k = 10 ∨ k = 11 ∨ k = 12 := by omega
  rcases h with rfl | rfl | rfl | rfl | rfl | rfl | rfl | rfl | rfl | rfl | rfl | rfl | rfl
  all_goals rfl
theorem lens_dim (m : Int) (h1 : 1 ≤ m) (h2 : m ≤ 12) : lens.getD (m - 1).toNat 0 = dim false m := by
  have h : m = 1 ∨ m = 2 ∨ m = 3 ∨ m = 4 ∨ m = 5 ∨ m = 6 ∨ m = 7 ∨ m = 8 ∨ m = 9 ∨ m = 10 ∨ m = 11 ∨ m = 12 := by omega
  rcases h with rfl | rfl | rfl | rfl | rfl | rfl | rfl | rfl | rfl | rfl | rfl | rfl
  all_goals rfl

/-! isDay -/
theorem lis_any (m d : Int) (w : World) (ht : LTab w) :
    Calls Tryd.prog 20 #[.int .i64 m, .int .i64 d] w fun e w' => e = .returned (.bool (okD m d)) ∧ w = w' := by
  by_cases h : 1 ≤ m ∧ m ≤ 12
  · obtain ⟨m1, m2⟩ := h
    have hc := ht.cellL (m - 1).toNat (by omega)
    rw [lens_dim m m1 m2, show (m - 1).toNat = m.toNat - 1 by omega] at hc
    have e1 : decide (1 ≤ m) = true := by simpa using m1
    have e2 : decide (m ≤ 12) = true := by simpa using m2
    clear ht
    cases h3 : decide (1 ≤ d)
    · have hv := Lib.hid (okD_false (m := m) (d := d) (by simp at h3; omega))
      go_enter Tryd.func20, Tryd.ntmps20
      go_wp2
      go_ret
      exact ⟨ret_bool hv.out.symm, rfl⟩
    · cases h4 : decide (d ≤ dim false m)
      · have hv := Lib.hid (okD_false (m := m) (d := d) (by simp at h3 h4; omega))
        go_enter Tryd.func20, Tryd.ntmps20
        go_wp2
        go_ret
        exact ⟨ret_bool hv.out.symm, rfl⟩
      · have hv := Lib.hid (okD_iff.2 (show 1 ≤ d ∧ d ≤ dim false m by simp at h3 h4; omega))
        go_enter Tryd.func20, Tryd.ntmps20
        go_wp2
        go_ret
        exact ⟨ret_bool hv.out.symm, rfl⟩
  · have hv := Lib.hid (okD_false (m := m) (d := d) (fun g => h (month_of_dim false m (by omega))))
    clear ht
    cases h3 : decide (1 ≤ m)
    · go_enter Tryd.func20, Tryd.ntmps20
      go_wp2
      go_ret
      exact ⟨ret_bool hv.out.symm, rfl⟩
    · have h4 : decide (m ≤ 12) = false := by simp at h3 ⊢; omega
      go_enter Tryd.func20, Tryd.ntmps20
      go_wp2
      go_ret
      exact ⟨ret_bool hv.out.symm, rfl⟩

/-! dayOfYear -/
theorem ldoy_any (m d : Int) (w : World) (ht : LTab w) (m1 : 1 ≤ m) (m2 : m ≤ 12) (d1 : 1 ≤ d) (d2 : d ≤ 31) :
    Calls Tryd.prog 22 #[.int .i64 m, .int .i64 d] w fun e w' => e = .returned (.int .i64 (doy m d)) ∧ w = w' := by
  have hz : cum false 1 = 0 := cum_one false
  have hcs := fun k h1 h2 => cum_succ false k h1 h2
  have hbd := fun k h1 h2 => cum_bd false k h1 h2
  have HS := Lib.hid hcs
  have HB := Lib.hid hbd
  have HZ := Lib.hid hz
  have HT := Lib.hid ht
  clear hz hcs hbd ht
  go_enter Tryd.func22, Tryd.ntmps22
  go_wp2
  go_loop [1, 8] (fun s i => ∃ k : Nat, (k : Int) ≤ m - 1 ∧ i = .int .i64 k ∧ s = .int .i64 (cum false (k + 1) + d)) (fun _ i => (m - 1 - intOf i).toNat)
  case atStart => exact ⟨0, by omega, rfl, by rw [show ((0 : Nat) : Int) + 1 = 1 from rfl, HZ.out]; simp⟩
  case round =>
    obtain ⟨k, hk, rfl, rfl⟩ := hrel
    have hb := HB.out (k + 1) (by omega) (by omega)
    by_cases hlt : (k : Int) < m - 1
    · have hc := HT.out.cellL k (by omega)
      have hl := lens_dim (k + 1) (by omega) (by omega)
      rw [show ((k : Int) + 1 - 1).toNat = k by omega] at hl
      rw [hl] at hc
      have hd := dim_bd false (k + 1) (by omega) (by omega)
      have hs := Lib.hid (HS.out (k + 1) (by omega) (by omega))
      clear hl
      go_wp2
      go_round
      case rel => exact ⟨k + 1, by omega, by go_num, by rw [show (((k + 1 : Nat) : Int) + 1) = (k : Int) + 1 + 1 by omega, hs.out]; go_num⟩
      case measure => simp [intOf]; omega
    · go_wp2
      go_ret
      exact ⟨ret_int (by rw [show (k : Int) + 1 = m by omega]; rfl), rfl⟩

/-! beginsAfter, lunationOf -/
theorem aft_m {k m d : Int} (h : decide (m < begM k) = true) : aftB k m d = true := by simp [aftB, h]
theorem aft_e {k m d : Int} (h : decide (m < begM k) = false) (g : (begM k == m) = false) : aftB k m d = false := by
  rw [beq_eq_false_iff_ne] at g; simp [aftB, h, g]
theorem aft_d {k m d : Int} (b : Bool) (g : (begM k == m) = true) (e : decide (d < begD k) = b) : aftB k m d = b := by
  rw [beq_iff_eq] at g; simp [aftB, g, e]
theorem lbeg_any (k : Nat) (m d : Int) (w : World) (ht : LTab w) (hk : k < 13) :
    Calls Tryd.prog 29 #[.int .i64 k, .int .i64 m, .int .i64 d] w fun e w' => e = .returned (.bool (aftB k m d)) ∧ Below w.heap.size w w' := by
  have c1 := ht.cellM k hk
  have c2 := ht.cellD k hk
  clear ht
  cases h1 : decide (m < begM k)
  · cases h2 : (begM k == m)
    · have hv := Lib.hid (aft_e (d := d) h1 h2)
      go_enter Tryd.func29, Tryd.ntmps29
      go_wp2
      go_ret
      exact ⟨ret_bool hv.out.symm, (Below.refl _ _).alloc (Nat.le_refl _) _⟩
    · cases h3 : decide (d < begD k)
      · have hv := Lib.hid (aft_d _ h2 h3)
        go_enter Tryd.func29, Tryd.ntmps29
        go_wp2
        go_ret
        exact ⟨ret_bool hv.out.symm, (Below.refl _ _).alloc (Nat.le_refl _) _⟩
      · have hv := Lib.hid (aft_d _ h2 h3)
        go_enter Tryd.func29, Tryd.ntmps29
        go_wp2
        go_ret
        exact ⟨ret_bool hv.out.symm, (Below.refl _ _).alloc (Nat.le_refl _) _⟩
  · have hv := Lib.hid (aft_m (d := d) h1)
    go_enter Tryd.func29, Tryd.ntmps29
    go_wp2
    go_ret
    exact ⟨ret_bool hv.out.symm, (Below.refl _ _).alloc (Nat.le_refl _) _⟩
theorem lun_yes {k m d : Int} (h : lunM m d < k) (k1 : 0 ≤ k) (k2 : k ≤ 12) (hd : okD m d = true) : aftB k m d = true := by
  rw [aft_lun k m d k1 k2 hd]; simpa using h
theorem lun_no {k m d : Int} (h : k ≤ lunM m d) (k1 : 0 ≤ k) (k2 : k ≤ 12) (hd : okD m d = true) : aftB k m d = false := by
  rw [aft_lun k m d k1 k2 hd]; simp; omega
theorem llun_any (m d : Int) (w : World) (ht : LTab w) (hd : okD m d = true) :
    Calls Tryd.prog 21 #[.int .i64 m, .int .i64 d] w fun e w' => e = .returned (.int .i64 (lunM m d)) ∧ Below w.heap.size w w' := by
  have hb := lunM_bd m d
  have HT := Lib.hid ht
  have HD := Lib.hid hd
  clear ht hd
  go_enter Tryd.func21, Tryd.ntmps21
  go_wp2
  go_loopw [5] (fun i wr => Below w.heap.size w wr ∧ ∃ k : Nat, lunM m d ≤ k ∧ (k : Int) ≤ 12 ∧ i = .int .i64 k) (fun i _ => (intOf i - lunM m d).toNat)
  case atStart => exact ⟨Below.refl _ _, 12, by omega, by omega, rfl⟩
  case round =>
    obtain ⟨hbw, k, hk1, hk2, rfl⟩ := hrel
    have HW := Lib.hid hbw
    clear hbw
    by_cases hlt : lunM m d < k
    · have H := fun w ht => lbeg_any k m d w ht (by omega)
      simp only [lun_yes hlt (by omega) hk2 HD.out] at H
      have HH := Lib.hid H
      clear H
      go_wp2_with fail
      refine (HH.out _ (HT.out.on HW.out)).mono ?_
      rintro e w1 ⟨rfl, hb1⟩
      have HW1 := Lib.hid (below_on HW.out hb1)
      clear hb1
      go_wp2_with fail
      go_roundw
      case rel => exact ⟨HW1.out, k - 1, by omega, by omega, by rw [show ((k - 1 : Nat) : Int) = (k : Int) - 1 by omega]⟩
      case measure => simp [intOf]; omega
    · have H := fun w ht => lbeg_any k m d w ht (by omega)
      simp only [lun_no (show (k : Int) ≤ lunM m d by omega) (by omega) hk2 HD.out] at H
      have HH := Lib.hid H
      clear H
      go_wp2_with fail
      refine (HH.out _ (HT.out.on HW.out)).mono ?_
      rintro e w1 ⟨rfl, hb1⟩
      have HW1 := Lib.hid (below_on HW.out hb1)
      clear hb1
      go_wp2_with fail
      go_ret
      exact ⟨ret_int (by omega), HW1.out⟩
end Go.Proofs.YtadapffmcdkfiaaDoor
