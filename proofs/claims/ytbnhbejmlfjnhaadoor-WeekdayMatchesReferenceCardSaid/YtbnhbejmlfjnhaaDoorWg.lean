/- The fixed examples of the law of package weekday (awake). -/
import Derived.Test.YtbnhbejmlfjnhaaDoorWd
namespace Go.Proofs.YtbnhbejmlfjnhaaDoor
open Go.RowKit

theorem wawake_any (w : World) (ht : WTab w) : Calls Tryd.prog 8 #[] w fun e w' => e = .returned (.bool true) ∧ Below w.heap.size w w' := by
  have H1 := fun w => aft_any 730120 0 w
  have H2 := fun w => nth_any 730120 6 2 w
  have H3 := fun w => nth_any 730120 6 0 w
  have H4 := fun w => of_any 730120 w (by decide)
  have H5 := fun w (ht : WTab w) => name_any 6 w ht
  have H6 := fun w (ht : WTab w) => find_any ⟨#[109, 111, 110, 100, 97, 121]⟩ w ht
  have H7 := fun w (ht : WTab w) => find_any ⟨#[]⟩ w ht
  rw [show ifb (wOk 730120 0) (aft 730120 0) = 730121 by decide, show wErr 730120 0 = 0 by decide] at H1
  rw [show ifb (nOk 730120 6 2) (nth 730120 6 2) = 730127 by decide, show nErr 730120 6 2 = 0 by decide] at H2
  rw [show ifb (nOk 730120 6 0) (nth 730120 6 0) = 0 by decide, show nErr 730120 6 0 = 3 by decide] at H3
  rw [show (730120 : Int) % 7 = 6 by decide] at H4
  rw [show nm 6 = ⟨#[115, 97, 116, 117, 114, 100, 97, 121]⟩ from rfl] at H5
  rw [show fnd0 ⟨#[109, 111, 110, 100, 97, 121]⟩ = 1 by decide +kernel] at H6
  rw [show fnd0 ⟨#[]⟩ = -1 by decide +kernel] at H7
  have Ht0 := Lib.hid ht
  clear ht
  go_enter Tryd.func8, Tryd.ntmps8
  go_wp2_with fail
  refine (H1 _).mono ?_
  rintro e w1 ⟨rfl, hb1⟩
  have Ht1 := Lib.hid (Ht0.out.on hb1)
  go_wp2_with fail
  refine (H2 _).mono ?_
  rintro e w2 ⟨rfl, hb2⟩
  have Ht2 := Lib.hid (Ht1.out.on hb2)
  go_wp2_with fail
  refine (H3 _).mono ?_
  rintro e w3 ⟨rfl, hb3⟩
  have Ht3 := Lib.hid (Ht2.out.on hb3)
  go_wp2_with fail
  refine (H4 _).mono ?_
  rintro e w4 ⟨rfl, hb4⟩
  have Ht4 := Lib.hid (Ht3.out.on hb4)
  go_wp2_with fail
  refine (H5 _ Ht4.out).mono ?_
  rintro e w5 ⟨rfl, rfl⟩
  go_wp2_with fail
  refine (H6 _ Ht4.out).mono ?_
  rintro e w5 ⟨rfl, rfl⟩
  go_wp2_with fail
  refine (H7 _ Ht4.out).mono ?_
  rintro e w5 ⟨rfl, rfl⟩
  go_wp2_with fail
  go_ret
  have h1 := hb1.size; have h2 := hb2.size; have h3 := hb3.size
  exact ⟨rfl, ((hb1.trans (hb2.mono h1)).trans (hb3.mono (by omega))).trans (hb4.mono (by omega))⟩
end Go.Proofs.YtbnhbejmlfjnhaaDoor
