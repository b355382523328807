/- The fixed examples of the Gregorian law (awake). -/
import Derived.Test.YthhegcjmlpekbaaDoorGf
namespace Go.Proofs.YthhegcjmlpekbaaDoor
open Go.RowKit

theorem gawake_any (w : World) (ht : GTab w) : Calls Tryd.prog 9 #[] w fun e w' => e = .returned (.bool true) ∧ Below w.heap.size w w' := by
  have H1 := fun w (ht : GTab w) => gday_at 1582 10 15 w ht (by decide)
  have H2 := fun w (ht : GTab w) => gday_at 2000 1 1 w ht (by decide)
  have H3 := fun w (ht : GTab w) => gfrom_at 1 1 1 1 w ht (by decide) (by decide)
  have H4 := fun w (ht : GTab w) => gday_bad 1900 2 29 w ht (by omega) (by omega) (by decide)
  have H5 := fun w => gfrom_no 0 w (by omega)
  have H6 := fun w => gleap_any 2000 w
  have H7 := fun w => gleap_any 1900 w
  simp only [show greg.num 1582 10 15 = 577736 by decide] at H1
  simp only [show greg.num 2000 1 1 = 730120 by decide] at H2
  simp only [show glp 2000 = true by decide] at H6
  simp only [show glp 1900 = false by decide] at H7
  have Ht0 := Lib.hid ht
  clear ht
  go_enter Tryd.func9, Tryd.ntmps9
  go_wp2_with fail
  refine (H1 _ Ht0.out).mono ?_
  rintro e w1 ⟨rfl, hb1⟩
  have Ht1 := Lib.hid (Ht0.out.on hb1)
  go_wp2_with fail
  refine (H2 _ Ht1.out).mono ?_
  rintro e w2 ⟨rfl, hb2⟩
  have Ht2 := Lib.hid (Ht1.out.on hb2)
  go_wp2_with fail
  refine (H3 _ Ht2.out).mono ?_
  rintro e w3 ⟨rfl, hb3⟩
  have Ht3 := Lib.hid (Ht2.out.on hb3)
  go_wp2_with fail
  refine (H4 _ (Ht3.out.al _)).mono ?_
  rintro e w4 ⟨rfl, hb4⟩
  obtain ⟨hc4, hf4⟩ := bcell hb4
  have hz4 : w3.heap.size < w4.heap.size := by have := hb4.size; simp at this; omega
  go_wp2_with fail
  refine (H5 _).mono ?_
  rintro e w5 ⟨rfl, hb5⟩
  obtain ⟨hc5, hf5⟩ := bcell hb5
  have hz5 : w3.heap.size < w5.heap.size := by have := hb5.size; omega
  go_wp2_with fail
  refine (H6 _).mono ?_
  rintro e w6 ⟨rfl, rfl⟩
  go_wp2_with fail
  refine (H7 _).mono ?_
  rintro e w7 ⟨rfl, rfl⟩
  go_wp2
  go_ret
  have h1 := hb1.size; have h2 := hb2.size; have h3 := hb3.size; have h4 := hb4.size; have h5 := hb5.size
  simp at h4
  exact ⟨rfl, (((((hb1.trans (hb2.mono h1)).trans (hb3.mono (by omega))).alloc (by omega) _).trans (hb4.mono (by simp; omega))).trans (hb5.mono (by omega))).alloc (by omega) _⟩
end Go.Proofs.YthhegcjmlpekbaaDoor
