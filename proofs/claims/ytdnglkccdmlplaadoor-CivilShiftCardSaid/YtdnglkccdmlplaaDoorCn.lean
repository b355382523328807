/- The contract of package computusref05's FromYear: day by day through the year. -/
import Derived.Test.YtdnglkccdmlplaaDoorCm
import Derived.Test.YtdnglkccdmlplaaDoorNx
namespace Go.Proofs.YtdnglkccdmlplaaDoor
open Go.RowKit

theorem next_in_year (l : Bool) (y : Int) {m d i : Int} (m1 : 1 ≤ m) (m2 : m ≤ 12) (d1 : 1 ≤ d) (d2 : d ≤ dim l m) (e : cum l m + d = i) (hi : i < 365 + l01 l) :
    Cal.nextY l y m d = y ∧ 1 ≤ Cal.nextM l y m d ∧ Cal.nextM l y m d ≤ 12 ∧ 1 ≤ Cal.nextD l y m d ∧ Cal.nextD l y m d ≤ dim l (Cal.nextM l y m d) ∧ cum l (Cal.nextM l y m d) + Cal.nextD l y m d = i + 1 := by
  unfold Cal.nextY Cal.nextM Cal.nextD
  by_cases h : d < dim l m
  · rw [if_pos h, if_pos h, if_pos h]; exact ⟨rfl, m1, m2, by omega, by omega, by omega⟩
  · rw [if_neg h, if_neg h, if_neg h]
    by_cases h2 : m < 12
    · rw [if_pos h2, if_pos h2]
      have := dim_bd l (m + 1) (by omega) (by omega)
      have cs := cum_succ l m m1 m2
      exact ⟨rfl, by omega, by omega, by omega, by omega, by omega⟩
    · obtain rfl : m = 12 := by omega
      have cs := cum_succ l 12 m1 m2
      have ce := cum_end l
      rw [show (12 : Int) + 1 = 13 from rfl] at cs
      omega
theorem on_drew {w w' : World} (hb : Below w.drew.heap.size w.drew w') : Below w.heap.size w w' := (below_dn (Below.refl w.heap.size w) 1).trans hb
theorem set3_keep {W w2 : World} {b c t : Nat} {a0 a1 a2 : Value} {o : Obj} (ht : CTab W) (hS : St W w2) (hW : W.heap.size ≤ b) (hcb : c < b) (hR : w2.heap[c]? = some o) (hD : w2.heap[b]? = some (.cells #[a0, a1, a2] t (0, 0))) (x y z : Value) :
    St W (((w2.setCell ⟨b, 0, none⟩ x).setCell ⟨b, 1, none⟩ y).setCell ⟨b, 2, none⟩ z) ∧ (((w2.setCell ⟨b, 0, none⟩ x).setCell ⟨b, 1, none⟩ y).setCell ⟨b, 2, none⟩ z).heap[c]? = some o ∧ (((w2.setCell ⟨b, 0, none⟩ x).setCell ⟨b, 1, none⟩ y).setCell ⟨b, 2, none⟩ z).heap[b]? = some (.cells #[x, y, z] t (0, 0)) := by
  have h1 : Below W.heap.size W (((w2.setCell ⟨b, 0, none⟩ x).setCell ⟨b, 1, none⟩ y).setCell ⟨b, 2, none⟩ z) := below_set3 hS.b hW x y z rfl
  have h2 : Below b w2 (((w2.setCell ⟨b, 0, none⟩ x).setCell ⟨b, 1, none⟩ y).setCell ⟨b, 2, none⟩ z) := below_set3 (Below.refl b w2) (Nat.le_refl _) x y z rfl
  exact ⟨⟨ht.on h1, h1⟩, by rw [h2.block _ hcb]; exact hR, heap_setCell_same _ b 2 _ _ z (heap_setCell_same _ b 1 _ _ y (heap_setCell_same w2 b 0 _ _ x hD))⟩
section
variable (a y k s n : Int) (w : World)
theorem r5fy_err (ht : CTab w) (H : ∀ w, CTab w → Calls Tryd.prog 20 #[.int .i64 a, .int .i64 y] w fun e w' => e = .returned (numv n k) ∧ Below w.heap.size w w') (hk : (k != 0) = true) : Calls Tryd.prog 18 #[.int .i64 a, .int .i64 y, .int .i64 s] w fun e w' => e = .returned (datv 0 0 0 k) ∧ Below w.heap.size w w' := by
  have S0 := Lib.hid (St.start ht)
  clear ht
  go_enter Tryd.func18, Tryd.ntmps18
  go_wp2_with fail
  refine (H _ (S0.out.al _).t).mono ?_
  rintro e w1 ⟨rfl, hb1⟩
  have S1 := Lib.hid ((S0.out.al _).on hb1)
  have Rr_1 := Lib.hid (row_on (b := w.heap.size) (o := zdate) (heap_alloc_new _ _) hb1)
  obtain ⟨hc1, hf1⟩ := bcell hb1
  have hz1_0 : w.heap.size < w1.heap.size := by have := hb1.size; (try simp at this); omega
  clear hb1
  go_wp2_with fail
  generalize hu : (((w1.setCell ⟨w.heap.size, 0, none⟩ (.int .i64 0)).setCell ⟨w.heap.size, 1, none⟩ (.int .i64 0)).setCell ⟨w.heap.size, 2, none⟩ (.int .i64 0)) = u
  obtain ⟨k0, k1, k2⟩ := three_set _ _ _ Rr_1.out hu
  have Hb := Lib.hid (below_set3 S1.out.b (by omega) _ _ _ hu)
  clear hu
  exact bodyPost_ret (v := datv (0) (0) (0) (k)) (by simp [results, Tryd.results18, go_sem, k0, k1, k2]) rfl ⟨rfl, Hb.out⟩
theorem r5fy_low (ht : CTab w) (H : ∀ w, CTab w → Calls Tryd.prog 20 #[.int .i64 a, .int .i64 y] w fun e w' => e = .returned (numv n 0) ∧ Below w.heap.size w w') (hs : s < 1) : Calls Tryd.prog 18 #[.int .i64 a, .int .i64 y, .int .i64 s] w fun e w' => e = .returned (datv 0 0 0 2) ∧ Below w.heap.size w w' := by
  have S0 := Lib.hid (St.start ht)
  clear ht
  go_enter Tryd.func18, Tryd.ntmps18
  go_wp2_with fail
  refine (H _ (S0.out.al _).t).mono ?_
  rintro e w1 ⟨rfl, hb1⟩
  have S1 := Lib.hid ((S0.out.al _).on hb1)
  have Rr_1 := Lib.hid (row_on (b := w.heap.size) (o := zdate) (heap_alloc_new _ _) hb1)
  obtain ⟨hc1, hf1⟩ := bcell hb1
  have hz1_0 : w.heap.size < w1.heap.size := by have := hb1.size; (try simp at this); omega
  clear hb1
  go_wp2_with fail
  generalize hu : (((w1.setCell ⟨w.heap.size, 0, none⟩ (.int .i64 0)).setCell ⟨w.heap.size, 1, none⟩ (.int .i64 0)).setCell ⟨w.heap.size, 2, none⟩ (.int .i64 0)) = u
  obtain ⟨k0, k1, k2⟩ := three_set _ _ _ Rr_1.out hu
  have Hb := Lib.hid (below_set3 S1.out.b (by omega) _ _ _ hu)
  clear hu
  exact bodyPost_ret (v := datv (0) (0) (0) (2)) (by simp [results, Tryd.results18, go_sem, k0, k1, k2]) rfl ⟨rfl, Hb.out⟩
theorem r5fy_high (ht : CTab w) (H : ∀ w, CTab w → Calls Tryd.prog 20 #[.int .i64 a, .int .i64 y] w fun e w' => e = .returned (numv n 0) ∧ Below w.heap.size w w') (hs0 : ¬ s < 1) (hs : n < s) : Calls Tryd.prog 18 #[.int .i64 a, .int .i64 y, .int .i64 s] w fun e w' => e = .returned (datv 0 0 0 2) ∧ Below w.heap.size w w' := by
  have S0 := Lib.hid (St.start ht)
  clear ht
  go_enter Tryd.func18, Tryd.ntmps18
  go_wp2_with fail
  refine (H _ (S0.out.al _).t).mono ?_
  rintro e w1 ⟨rfl, hb1⟩
  have S1 := Lib.hid ((S0.out.al _).on hb1)
  have Rr_1 := Lib.hid (row_on (b := w.heap.size) (o := zdate) (heap_alloc_new _ _) hb1)
  obtain ⟨hc1, hf1⟩ := bcell hb1
  have hz1_0 : w.heap.size < w1.heap.size := by have := hb1.size; (try simp at this); omega
  clear hb1
  go_wp2_with fail
  generalize hu : (((w1.setCell ⟨w.heap.size, 0, none⟩ (.int .i64 0)).setCell ⟨w.heap.size, 1, none⟩ (.int .i64 0)).setCell ⟨w.heap.size, 2, none⟩ (.int .i64 0)) = u
  obtain ⟨k0, k1, k2⟩ := three_set _ _ _ Rr_1.out hu
  have Hb := Lib.hid (below_set3 S1.out.b (by omega) _ _ _ hu)
  clear hu
  exact bodyPost_ret (v := datv (0) (0) (0) (2)) (by simp [results, Tryd.results18, go_sem, k0, k1, k2]) rfl ⟨rfl, Hb.out⟩
set_option maxHeartbeats 800000 in
theorem r5fy_ok (l : Bool) (m d : Int) (y1 : 1 ≤ y) (y2 : y ≤ 1000000000) (m1 : 1 ≤ m) (m2 : m ≤ 12) (d1 : 1 ≤ d) (d2 : d ≤ dim l m) (hs0 : 1 ≤ s) (hs : s ≤ n) (hn : n = 365 + l01 l) (hd : cum l m + d = s) (ht : CTab w) (H : ∀ w, CTab w → Calls Tryd.prog 20 #[.int .i64 a, .int .i64 y] w fun e w' => e = .returned (numv n 0) ∧ Below w.heap.size w w') (Hl : ∀ w, Calls Tryd.prog 26 #[.int .i64 a, .int .i64 y] w fun e w' => e = .returned (.bool l) ∧ w = w') : Calls Tryd.prog 18 #[.int .i64 a, .int .i64 y, .int .i64 s] w fun e w' => e = .returned (datv y m d 0) ∧ Below w.heap.size w w' := by
  have hl := l01_bd l
  have hun : ∀ j e : Int, 1 ≤ j → j ≤ 12 → 1 ≤ e → e ≤ dim l j → cum l j + e = s → j = m ∧ e = d := by
    intro j e j1 j2 e1 e2 h
    rcases Int.lt_trichotomy j m with g | g | g
    · have := cum_next l j m j1 g (by omega)
      omega
    · subst g; exact ⟨rfl, by omega⟩
    · have := cum_next l m j m1 g (by omega)
      omega
  have Hun := Lib.hid hun
  have Hd := Lib.hid hd
  have Hn := Lib.hid hn
  clear hun hd hn
  have S0 := Lib.hid (St.start ht)
  clear ht
  go_enter Tryd.func18, Tryd.ntmps18
  go_wp2_with fail
  refine (H _ (S0.out.al _).t).mono ?_
  rintro e w1 ⟨rfl, hb1⟩
  have S1 := Lib.hid ((S0.out.al _).on hb1)
  have Rr_1 := Lib.hid (row_on (b := w.heap.size) (o := zdate) (heap_alloc_new _ _) hb1)
  obtain ⟨hc1, hf1⟩ := bcell hb1
  have hz1_0 : w.heap.size < w1.heap.size := by have := hb1.size; (try simp at this); omega
  clear hb1
  go_wp2_with fail
  go_loopw [11] (fun i wr => ∃ j u e : Int, 1 ≤ j ∧ j ≤ s ∧ 1 ≤ u ∧ u ≤ 12 ∧ 1 ≤ e ∧ e ≤ dim l u ∧ cum l u + e = j ∧ i = .int .i64 j ∧ St w wr ∧ wr.heap[w.heap.size]? = some zdate ∧ wr.heap[w1.heap.size]? = some (.cells #[.int .i64 y, .int .i64 u, .int .i64 e] 23)) (fun i _ => (s - intOf i).toNat)
  case atStart =>
    refine ⟨1, 1, 1, by omega, by omega, by omega, by omega, by omega, ?_, by rw [cum_one]; rfl, rfl, S1.out.al _, row_al Rr_1.out _, heap_alloc_new _ _⟩
    have := dim_bd l 1 (by omega) (by omega)
    omega
  case round =>
    obtain ⟨j, u, e, j1, j2, u1, u2, e1, e2, hj, rfl, Sr, Rr, Rd⟩ := hrel
    have du := dim_bd l u u1 u2
    have c0 : wr.cell? ⟨w1.heap.size, 0, none⟩ = some (.int .i64 y) := by rw [cell_of_row wr _ 0 _ _ _ Rd]; rfl
    have c1 : wr.cell? ⟨w1.heap.size, 1, none⟩ = some (.int .i64 u) := by rw [cell_of_row wr _ 1 _ _ _ Rd]; rfl
    have c2 : wr.cell? ⟨w1.heap.size, 2, none⟩ = some (.int .i64 e) := by rw [cell_of_row wr _ 2 _ _ _ Rd]; rfl
    have f0 : wr.frozen? ⟨w1.heap.size, 0, none⟩ = false := frozen_of_row wr _ 0 _ _ Rd
    have f1 : wr.frozen? ⟨w1.heap.size, 1, none⟩ = false := frozen_of_row wr _ 1 _ _ Rd
    have f2 : wr.frozen? ⟨w1.heap.size, 2, none⟩ = false := frozen_of_row wr _ 2 _ _ Rd
    have hd1 : w1.heap.size < wr.heap.size := World.block_lt_of_cell? wr _ c0
    have SR := Lib.hid Sr
    have RR := Lib.hid Rr
    have RD := Lib.hid Rd
    have HJ := Lib.hid hj
    clear Sr Rr Rd hj
    by_cases hlt : j < s
    · have Hx := fun w => rnext_any y u e l w (by omega) (by omega) (by omega) (by omega) (by omega) (by omega)
      have Hs := Lib.hid (next_in_year l y u1 u2 e1 e2 HJ.out (by have := Hn.out; omega))
      generalize Cal.nextY l y u e = y' at *
      generalize Cal.nextM l y u e = u' at *
      generalize Cal.nextD l y u e = e' at *
      go_wp2_with fail
      go_region_with (first | (go_at_call 26; refine (Hl _).mono ?_; rintro e w' ⟨rfl, rfl⟩) | (go_at_call 25; refine (Hx _).mono ?_; rintro e w2 ⟨rfl, hb2⟩; have hbx := on_drew hb2; have SX := Lib.hid (SR.out.on hbx); have RX := Lib.hid (row_on RR.out hbx); have DX := Lib.hid (row_on RD.out hbx); have x0 := cell_below c0 hbx; have x1 := cell_below c1 hbx; have x2 := cell_below c2 hbx; have g0 := frozen_of_row w2 _ 0 _ _ DX.out; have g1 := frozen_of_row w2 _ 1 _ _ DX.out; have g2 := frozen_of_row w2 _ 2 _ _ DX.out; clear hb2 hbx))
      all_goals go_wp2_with fail
      all_goals
        have hw : wrap64 (j + 1) = j + 1 := IntWalk.wrap64_in _ (by have := Hn.out; omega)
        rw [hw]
        obtain ⟨q1, q2, q3, q4, q5, q6⟩ := Hs.out
        obtain ⟨t1, t2, t3⟩ := set3_keep S0.out.t SX.out S1.out.b.size hz1_0 RX.out DX.out (.int .i64 y') (.int .i64 u') (.int .i64 e')
        rw [q1] at t1 t2 t3 ⊢
        exact ⟨⟨j + 1, u', e', by omega, by omega, q2, q3, q4, q5, q6, rfl, t1, t2, t3⟩, by simp [intOf]; have := Hn.out; omega⟩
    · obtain rfl : j = s := by omega
      obtain ⟨rfl, rfl⟩ := Hun.out u e u1 u2 e1 e2 HJ.out
      have r0 : wr.cell? ⟨w.heap.size, 0, none⟩ = some (.int .i64 0) := by rw [cell_of_row wr _ 0 _ _ _ RR.out]; rfl
      have r1 : wr.cell? ⟨w.heap.size, 1, none⟩ = some (.int .i64 0) := by rw [cell_of_row wr _ 1 _ _ _ RR.out]; rfl
      have r2 : wr.cell? ⟨w.heap.size, 2, none⟩ = some (.int .i64 0) := by rw [cell_of_row wr _ 2 _ _ _ RR.out]; rfl
      have g0 : wr.frozen? ⟨w.heap.size, 0, none⟩ = false := frozen_of_row wr _ 0 _ _ RR.out
      have g1 : wr.frozen? ⟨w.heap.size, 1, none⟩ = false := frozen_of_row wr _ 1 _ _ RR.out
      have g2 : wr.frozen? ⟨w.heap.size, 2, none⟩ = false := frozen_of_row wr _ 2 _ _ RR.out
      go_wp2_with fail
      generalize hu : (((wr.setCell ⟨w.heap.size, 0, none⟩ (.int .i64 y)).setCell ⟨w.heap.size, 1, none⟩ (.int .i64 u)).setCell ⟨w.heap.size, 2, none⟩ (.int .i64 e)) = v
      obtain ⟨k0, k1, k2⟩ := three_set _ _ _ RR.out hu
      have Hb := Lib.hid (below_set3 SR.out.b (Nat.le_refl _) _ _ _ hu)
      clear hu
      exact bodyPost_ret (v := datv y u e 0) (by simp [results, Tryd.results18, go_sem, k0, k1, k2]) rfl ⟨rfl, Hb.out⟩
end
end Go.Proofs.YtdnglkccdmlplaaDoor
