/- The contracts of package civil's ToDay and FromDay. -/
import Derived.Test.YtclnpnkjldddcaaDoorCh
namespace Go.Proofs.YtclnpnkjldddcaaDoor
open Go.RowKit

/-- The tables read as laid, and what was in memory is as it was. -/
structure St (W w : World) : Prop where
  t : CTab w
  b : Below W.heap.size W w
theorem St.start {W : World} (h : CTab W) : St W W := ⟨h, Below.refl _ _⟩
theorem St.on {W w w' : World} (h : St W w) (hb : Below w.heap.size w w') : St W w' := ⟨h.t.on hb, below_on h.b hb⟩
theorem St.al {W w : World} (h : St W w) (o : Obj) : St W (w.alloc o) := h.on ((Below.refl w.heap.size w).alloc (Nat.le_refl _) o)
theorem row_on {w w' : World} {b : Nat} {o : Obj} (h : w.heap[b]? = some o) (hb : Below w.heap.size w w') : w'.heap[b]? = some o := by
  have hl : b < w.heap.size := by
    rcases Nat.lt_or_ge b w.heap.size with g | g
    · exact g
    · rw [Array.getElem?_eq_none g] at h; cases h
  rw [hb.block _ hl]; exact h
theorem row_al {w : World} {b : Nat} {o : Obj} (h : w.heap[b]? = some o) (o' : Obj) : (w.alloc o').heap[b]? = some o := row_on h ((Below.refl w.heap.size w).alloc (Nat.le_refl _) o')
/-- A struct of three cells, each written, and a block made before or behind. -/
theorem three_al {w1 : World} {b t : Nat} {a0 a1 a2 : Value} {o : Obj} (x y z : Value) (h : w1.heap[b]? = some (.cells #[a0, a1, a2] t (0, 0))) {u : World} (hu : (((w1.setCell ⟨b, 0, none⟩ x).setCell ⟨b, 1, none⟩ y).setCell ⟨b, 2, none⟩ z).alloc o = u) :
    u.cell? ⟨b, 0, none⟩ = some x ∧ u.cell? ⟨b, 1, none⟩ = some y ∧ u.cell? ⟨b, 2, none⟩ = some z ∧ ∀ W : World, Below W.heap.size W w1 → W.heap.size ≤ b → Below W.heap.size W u := by
  obtain ⟨k0, k1, k2⟩ := three_set x y z h rfl
  subst hu
  have hb : ∀ v : World, Below v.heap.size v (v.alloc o) := fun v => (Below.refl v.heap.size v).alloc (Nat.le_refl _) o
  exact ⟨cell_below k0 (hb _), cell_below k1 (hb _), cell_below k2 (hb _), fun W h1 h2 => below_on (below_set3 h1 h2 x y z rfl) (hb _)⟩
theorem row_new1 (w : World) (o o' : Obj) : ((w.alloc o).alloc o').heap[w.heap.size + 1]? = some o' := by
  have h := heap_alloc_new (w.alloc o) o'
  rwa [show (w.alloc o).heap.size = w.heap.size + 1 from by simp] at h
abbrev zdate : Obj := .cells #[.int .i64 0, .int .i64 0, .int .i64 0] 35

section
variable (y m d : Int) (w : World)
theorem ctoday1 (ht : CTab w) : Calls Tryd.prog 45 #[.int .i64 1, dtv y m d] w fun e w' => e = .returned (numv (dN jul y m d) (dE jul y m d)) ∧ Below w.heap.size w w' := by
  have H := fun w (ht : CTab w) => jday_all y m d w ht.j
  generalize dN jul y m d = n at *
  generalize dE jul y m d = k at *
  have h1 := hst
  have S0 := Lib.hid (St.start ht)
  clear ht
  go_enter Tryd.func45, Tryd.ntmps45
  go_wp2_with fail
  refine (choose1 _).mono ?_
  rintro e w1 ⟨rfl, hb1⟩
  have S1 := Lib.hid ((S0.out.al _).on hb1)
  obtain ⟨hc1, hf1⟩ := bcell hb1
  have hz1 : w.heap.size < w1.heap.size := by have := hb1.size; simp at this; omega
  clear hb1
  go_wp2_with fail
  refine (H _ (S1.out.al _).t).mono ?_
  rintro e w2 ⟨rfl, hb2⟩
  have S2 := Lib.hid ((S1.out.al _).on hb2)
  clear hb2
  go_wp2_with fail
  go_ret2
  exact ⟨rfl, S2.out.b⟩
theorem ctoday2 (ht : CTab w) : Calls Tryd.prog 45 #[.int .i64 2, dtv y m d] w fun e w' => e = .returned (numv (dN greg y m d) (dE greg y m d)) ∧ Below w.heap.size w w' := by
  have H := fun w (ht : CTab w) => gday_all y m d w ht.g
  generalize dN greg y m d = n at *
  generalize dE greg y m d = k at *
  have h1 := hst
  have S0 := Lib.hid (St.start ht)
  clear ht
  go_enter Tryd.func45, Tryd.ntmps45
  go_wp2_with fail
  refine (choose2 _).mono ?_
  rintro e w1 ⟨rfl, hb1⟩
  have S1 := Lib.hid ((S0.out.al _).on hb1)
  obtain ⟨hc1, hf1⟩ := bcell hb1
  have hz1 : w.heap.size < w1.heap.size := by have := hb1.size; simp at this; omega
  clear hb1
  go_wp2_with fail
  refine (H _ (S1.out.al _).t).mono ?_
  rintro e w2 ⟨rfl, hb2⟩
  have S2 := Lib.hid ((S1.out.al _).on hb2)
  clear hb2
  go_wp2_with fail
  go_ret2
  exact ⟨rfl, S2.out.b⟩
theorem ctoday0 (c : Int) (hc : okC c = false) (ht : CTab w) : Calls Tryd.prog 45 #[.int .i64 c, dtv y m d] w fun e w' => e = .returned (numv 0 3) ∧ Below w.heap.size w w' := by
  have h1 := hsn
  have S0 := Lib.hid (St.start ht)
  clear ht
  go_enter Tryd.func45, Tryd.ntmps45
  go_wp2_with fail
  refine (choose0 c _ hc).mono ?_
  rintro e w1 ⟨rfl, hb1⟩
  have S1 := Lib.hid ((S0.out.al _).on hb1)
  clear hb1
  go_wp2_with fail
  go_ret2
  exact ⟨rfl, (S1.out.al _).b⟩
theorem ctoday_any (c : Int) (ht : CTab w) : Calls Tryd.prog 45 #[.int .i64 c, dtv y m d] w fun e w' => e = .returned (numv (tN c y m d) (tE c y m d)) ∧ Below w.heap.size w w' := by
  by_cases h1 : c = 1
  · subst h1; exact ctoday1 y m d w ht
  · by_cases h2 : c = 2
    · subst h2; exact ctoday2 y m d w ht
    · have h := okC_not h1 h2
      rw [(tE_no y m d h).1, (tE_no y m d h).2]; exact ctoday0 y m d w c h ht
end
section
variable (n : Int) (w : World)
end
end Go.Proofs.YtclnpnkjldddcaaDoor
