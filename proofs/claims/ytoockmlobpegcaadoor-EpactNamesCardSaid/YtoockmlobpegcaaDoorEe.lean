/- The fixed examples of the laws of package epact (awake). -/
import Derived.Test.YtoockmlobpegcaaDoorEc
import Derived.Test.YtoockmlobpegcaaDoorEd
namespace Go.Proofs.YtoockmlobpegcaaDoor
open Go.RowKit

theorem c7awake_any (W : World) : Calls Tryd.prog 8 #[] W fun e w' => e = .returned (.bool true) ∧ Below W.heap.size W w' := by
  have H1 : ∀ w, Calls Tryd.prog 9 #[.int .i64 2, .int .i64 2000] w fun e w' => e = .returned (numv 24 0) ∧ Below w.heap.size w w' := fun w => by
    have := eOf_any 2 2000 w (by decide)
    rw [show epN 2 2000 = 24 by decide, show epE 2 2000 = 0 by decide] at this; exact this
  have H2 : ∀ w, Calls Tryd.prog 9 #[.int .i64 1, .int .i64 2000] w fun e w' => e = .returned (numv 3 0) ∧ Below w.heap.size w w' := fun w => by
    have := eOf_any 1 2000 w (by decide)
    rw [show epN 1 2000 = 3 by decide, show epE 1 2000 = 0 by decide] at this; exact this
  have H3 : ∀ w, Calls Tryd.prog 10 #[.int .i64 2, .int .i64 1916] w fun e w' => e = .returned (numv 31 0) ∧ Below w.heap.size w w' := fun w => by
    have := eLab_any 2 1916 w (by decide)
    rw [show epL 2 1916 = 31 by decide, show epE 2 1916 = 0 by decide] at this; exact this
  have H4 : ∀ w, Calls Tryd.prog 10 #[.int .i64 2, .int .i64 1582] w fun e w' => e = .returned (numv 0 1) ∧ Below w.heap.size w w' := fun w => by
    have := eLab_any 2 1582 w (by decide)
    rw [show epL 2 1582 = 0 by decide, show epE 2 1582 = 1 by decide] at this; exact this
  have H5 : ∀ w, Calls Tryd.prog 9 #[.int .i64 3, .int .i64 2000] w fun e w' => e = .returned (numv 0 3) ∧ Below w.heap.size w w' := fun w => by
    have := eOf_any 3 2000 w (by decide)
    rw [show epN 3 2000 = 0 by decide, show epE 3 2000 = 3 by decide] at this; exact this
  have N1 : ∀ w, Calls Tryd.prog 12 #[.int .i64 31] w fun e w' => e = .returned (.string ⟨#[50, 53, 39]⟩) ∧ w = w' := fun w => nam_any 31 w
  have N2 : ∀ w, Calls Tryd.prog 12 #[.int .i64 30] w fun e w' => e = .returned (.string ⟨#[42]⟩) ∧ w = w' := fun w => nam_any 30 w
  have N3 : ∀ w, Calls Tryd.prog 12 #[.int .i64 7] w fun e w' => e = .returned (.string ⟨#[55]⟩) ∧ w = w' := fun w => nam_any 7 w
  have N4 : ∀ w, Calls Tryd.prog 12 #[.int .i64 0] w fun e w' => e = .returned (.string ⟨#[]⟩) ∧ w = w' := fun w => nam_any 0 w
  have S0 := Lib.hid (Below.refl W.heap.size W)
  go_enter Tryd.func8, Tryd.ntmps8
  go_wp2_with fail
  refine (H1 _).mono ?_
  rintro e w1 ⟨rfl, hb1⟩
  have S1 := Lib.hid (below_on S0.out hb1)
  clear hb1
  go_wp2_with fail
  refine (H2 _).mono ?_
  rintro e w2 ⟨rfl, hb2⟩
  have S2 := Lib.hid (below_on S1.out hb2)
  clear hb2
  go_wp2_with fail
  refine (H3 _).mono ?_
  rintro e w3 ⟨rfl, hb3⟩
  have S3 := Lib.hid (below_on S2.out hb3)
  clear hb3
  go_wp2_with fail
  refine (H4 _).mono ?_
  rintro e w4 ⟨rfl, hb4⟩
  have S4 := Lib.hid (below_on S3.out hb4)
  clear hb4
  go_wp2_with fail
  refine (H5 _).mono ?_
  rintro e w5 ⟨rfl, hb5⟩
  have S5 := Lib.hid (below_on S4.out hb5)
  clear hb5
  go_wp2_with fail
  refine (N1 _).mono ?_
  rintro e wq ⟨rfl, rfl⟩
  go_wp2_with fail
  refine (N2 _).mono ?_
  rintro e wq ⟨rfl, rfl⟩
  go_wp2_with fail
  refine (N3 _).mono ?_
  rintro e wq ⟨rfl, rfl⟩
  go_wp2_with fail
  refine (N4 _).mono ?_
  rintro e wq ⟨rfl, rfl⟩
  go_wp2_with fail
  go_ret
  exact ⟨rfl, S5.out⟩
end Go.Proofs.YtoockmlobpegcaaDoor
