/- What earlier stages proved: Cm Cq. -/
import Derived.Test.YtnofmlkjagdklaaKc
import Derived.Test.YtnofmlkjagdklaaKw
import Derived.Test.YtnofmlkjagdklaaKa
namespace Go.Proofs.Ytnofmlkjagdklaa
open Go.RowKit

section
variable (y m d : Int) (w : World)
theorem r5day1 (ht : CTab w) : Calls Try.prog 55 #[.int .i64 1, dtv y m d] w fun e w' => e = .returned (numv (dN jul y m d) (dE jul y m d)) ∧ Below w.heap.size w w' := by
  have H := fun w => rday_all y m d w
  generalize dN jul y m d = n at *
  generalize dE jul y m d = k at *
  have S0 := Lib.hid (St.start ht)
  clear ht
  go_enter Try.func55, Try.ntmps55
  go_wp2_with fail
  refine (H _).mono ?_
  rintro e w1 ⟨rfl, hb1⟩
  have S1 := Lib.hid ((S0.out.al _).on hb1)
  obtain ⟨hc1, hf1⟩ := bcell hb1
  clear hb1
  go_wp2_with fail
  go_ret2
  exact ⟨rfl, (S1.out).b⟩
theorem r5day2 (ht : CTab w) : Calls Try.prog 55 #[.int .i64 2, dtv y m d] w fun e w' => e = .returned (numv (dN greg y m d) (dE greg y m d)) ∧ Below w.heap.size w w' := by
  have H := fun w => sday_all y m d w
  generalize dN greg y m d = n at *
  generalize dE greg y m d = k at *
  have S0 := Lib.hid (St.start ht)
  clear ht
  go_enter Try.func55, Try.ntmps55
  go_wp2_with fail
  refine (H _).mono ?_
  rintro e w1 ⟨rfl, hb1⟩
  have S1 := Lib.hid ((S0.out.al _).on hb1)
  obtain ⟨hc1, hf1⟩ := bcell hb1
  clear hb1
  go_wp2_with fail
  go_ret2
  exact ⟨rfl, (S1.out).b⟩
theorem r5day0 (c : Int) (hc : okC c = false) (ht : CTab w) : Calls Try.prog 55 #[.int .i64 c, dtv y m d] w fun e w' => e = .returned (numv 0 3) ∧ Below w.heap.size w w' := by
  have h1 : (c == 1) = false := by cases g : c == 1 <;> simp_all [okC]
  have h2 : (c == 2) = false := by cases g : c == 2 <;> simp_all [okC]
  clear hc
  have S0 := Lib.hid (St.start ht)
  clear ht
  go_enter Try.func55, Try.ntmps55
  go_wp2_with fail
  go_ret2
  exact ⟨rfl, (S0.out.al _).b⟩
theorem r5day_any (c : Int) (ht : CTab w) : Calls Try.prog 55 #[.int .i64 c, dtv y m d] w fun e w' => e = .returned (numv (tN c y m d) (tE c y m d)) ∧ Below w.heap.size w w' := by
  by_cases h1 : c = 1
  · subst h1; exact r5day1 y m d w ht
  · by_cases h2 : c = 2
    · subst h2; exact r5day2 y m d w ht
    · have h := okC_not h1 h2
      rw [(tE_no y m d h).1, (tE_no y m d h).2]; exact r5day0 y m d w c h ht
end
section
variable (n : Int) (w : World)
theorem r5from1 (ht : CTab w) : Calls Try.prog 66 #[.int .i64 1, .int .i64 n] w fun e w' => e = .returned (datv (dt jul n).1 (dt jul n).2.1 (dt jul n).2.2 (dF jul n)) ∧ Below w.heap.size w w' := by
  have H := fun w => rfrom_all n w
  generalize (dt jul n).1 = y at *
  generalize (dt jul n).2.1 = m at *
  generalize (dt jul n).2.2 = d at *
  generalize dF jul n = k at *
  have S0 := Lib.hid (St.start ht)
  clear ht
  go_enter Try.func66, Try.ntmps66
  go_wp2_with fail
  refine (H _).mono ?_
  rintro e w1 ⟨rfl, hb1⟩
  have S1 := Lib.hid ((S0.out.al _).on hb1)
  have Rr_1 := Lib.hid (row_on (b := w.heap.size) (o := zdate) (heap_alloc_new _ _) hb1)
  obtain ⟨hc1, hf1⟩ := bcell hb1
  have hz1_0 : w.heap.size < w1.heap.size := by have := hb1.size; (try simp at this); omega
  clear hb1
  go_wp2_with fail
  generalize hu : (((w1.setCell ⟨w.heap.size, 0, none⟩ (.int .i64 y)).setCell ⟨w.heap.size, 1, none⟩ (.int .i64 m)).setCell ⟨w.heap.size, 2, none⟩ (.int .i64 d)) = u
  obtain ⟨k0, k1, k2⟩ := three_set _ _ _ Rr_1.out hu
  have Hb := Lib.hid (below_set3 S1.out.b (by omega) _ _ _ hu)
  clear hu
  exact bodyPost_ret (v := datv (y) (m) (d) (k)) (by simp [results, Try.results66, go_sem, k0, k1, k2]) rfl ⟨rfl, Hb.out⟩
theorem r5from2 (ht : CTab w) : Calls Try.prog 66 #[.int .i64 2, .int .i64 n] w fun e w' => e = .returned (datv (dt greg n).1 (dt greg n).2.1 (dt greg n).2.2 (dF greg n)) ∧ Below w.heap.size w w' := by
  have H := fun w => sfrom_all n w
  generalize (dt greg n).1 = y at *
  generalize (dt greg n).2.1 = m at *
  generalize (dt greg n).2.2 = d at *
  generalize dF greg n = k at *
  have S0 := Lib.hid (St.start ht)
  clear ht
  go_enter Try.func66, Try.ntmps66
  go_wp2_with fail
  refine (H _).mono ?_
  rintro e w1 ⟨rfl, hb1⟩
  have S1 := Lib.hid ((S0.out.al _).on hb1)
  have Rr_1 := Lib.hid (row_on (b := w.heap.size) (o := zdate) (heap_alloc_new _ _) hb1)
  obtain ⟨hc1, hf1⟩ := bcell hb1
  have hz1_0 : w.heap.size < w1.heap.size := by have := hb1.size; (try simp at this); omega
  clear hb1
  go_wp2_with fail
  generalize hu : (((w1.setCell ⟨w.heap.size, 0, none⟩ (.int .i64 y)).setCell ⟨w.heap.size, 1, none⟩ (.int .i64 m)).setCell ⟨w.heap.size, 2, none⟩ (.int .i64 d)) = u
  obtain ⟨k0, k1, k2⟩ := three_set _ _ _ Rr_1.out hu
  have Hb := Lib.hid (below_set3 S1.out.b (by omega) _ _ _ hu)
  clear hu
  exact bodyPost_ret (v := datv (y) (m) (d) (k)) (by simp [results, Try.results66, go_sem, k0, k1, k2]) rfl ⟨rfl, Hb.out⟩
theorem r5from0 (c : Int) (hc : okC c = false) (ht : CTab w) : Calls Try.prog 66 #[.int .i64 c, .int .i64 n] w fun e w' => e = .returned (datv 0 0 0 3) ∧ Below w.heap.size w w' := by
  have h1 : (c == 1) = false := by cases g : c == 1 <;> simp_all [okC]
  have h2 : (c == 2) = false := by cases g : c == 2 <;> simp_all [okC]
  clear hc
  have S0 := Lib.hid (St.start ht)
  clear ht
  go_enter Try.func66, Try.ntmps66
  go_wp2_with fail
  exact bodyPost_ret (v := datv 0 0 0 3) (by simp [results, Try.results66, go_sem]) rfl ⟨rfl, (S0.out.al _).b⟩
theorem r5from_any (c : Int) (ht : CTab w) : Calls Try.prog 66 #[.int .i64 c, .int .i64 n] w fun e w' => e = .returned (datv (fY c n) (fM c n) (fD c n) (fE c n)) ∧ Below w.heap.size w w' := by
  by_cases h1 : c = 1
  · subst h1; exact r5from1 n w ht
  · by_cases h2 : c = 2
    · subst h2; exact r5from2 n w ht
    · have h := okC_not h1 h2
      obtain ⟨a, b, e, f⟩ := f_bad n h
      rw [a, b, e, f]; exact r5from0 n w c h ht
end
section
variable (y m d a n k : Int) (w : World)
end
end Go.Proofs.Ytnofmlkjagdklaa

namespace Go.Proofs.Ytnofmlkjagdklaa
open Go.RowKit

abbrev set3 (w : World) (b : Nat) (x y z : Value) : World := ((w.setCell ⟨b, 0, none⟩ x).setCell ⟨b, 1, none⟩ y).setCell ⟨b, 2, none⟩ z
theorem St.set {W w : World} (h : St W w) (ht : CTab W) {b : Nat} (hb : W.heap.size ≤ b) (x y z : Value) : St W (set3 w b x y z) := by
  have h1 : Below W.heap.size W (set3 w b x y z) := below_set3 h.b hb x y z rfl
  exact ⟨ht.on h1, h1⟩
theorem row_set {w : World} {b t : Nat} {a0 a1 a2 : Value} (h : w.heap[b]? = some (.cells #[a0, a1, a2] t (0, 0))) (x y z : Value) : (set3 w b x y z).heap[b]? = some (.cells #[x, y, z] t (0, 0)) :=
  heap_setCell_same _ b 2 _ _ z (heap_setCell_same _ b 1 _ _ y (heap_setCell_same w b 0 _ _ x h))
theorem row3 {w : World} {b t : Nat} {a0 a1 a2 : Value} (h : w.heap[b]? = some (.cells #[a0, a1, a2] t (0, 0))) :
    w.cell? ⟨b, 0, none⟩ = some a0 ∧ w.cell? ⟨b, 1, none⟩ = some a1 ∧ w.cell? ⟨b, 2, none⟩ = some a2 ∧ w.frozen? ⟨b, 0, none⟩ = false ∧ w.frozen? ⟨b, 1, none⟩ = false ∧ w.frozen? ⟨b, 2, none⟩ = false ∧ b < w.heap.size := by
  have h0 : w.cell? ⟨b, 0, none⟩ = some a0 := by rw [cell_of_row w b 0 _ _ _ h]; rfl
  exact ⟨h0, by rw [cell_of_row w b 1 _ _ _ h]; rfl, by rw [cell_of_row w b 2 _ _ _ h]; rfl, frozen_of_row w b 0 _ _ h, frozen_of_row w b 1 _ _ h, frozen_of_row w b 2 _ _ h, World.block_lt_of_cell? w _ h0⟩

end Go.Proofs.Ytnofmlkjagdklaa
