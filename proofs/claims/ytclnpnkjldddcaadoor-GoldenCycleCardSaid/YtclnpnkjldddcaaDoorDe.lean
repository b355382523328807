/- The fixed examples of the laws of package golden (awake), and what they compare results by (is). -/
import Derived.Test.YtclnpnkjldddcaaDoorDd
namespace Go.Proofs.YtclnpnkjldddcaaDoor
open Go.RowKit

theorem c6awake_any (W : World) (ht : CTab W) : Calls Tryd.prog 8 #[] W fun e w' => e = .returned (.bool true) ∧ Below W.heap.size W w' := by
  have H1 : ∀ w, Calls Tryd.prog 9 #[.int .i64 2000] w fun e w' => e = .returned (numv 6 0) ∧ Below w.heap.size w w' := fun w => by
    have := ggold_any 2000 w
    rw [show vB (inY 2000) (gold 2000) = 6 by decide, show eB (inY 2000) = 0 by decide] at this; exact this
  have H2 : ∀ w, Calls Tryd.prog 11 #[.int .i64 2000] w fun e w' => e = .returned (numv 3 0) ∧ Below w.heap.size w w' := fun w => by
    have := gsolr_any 2000 w
    rw [show vB (inG 2000) (solr 2000) = 3 by decide, show eB (inG 2000) = 0 by decide] at this; exact this
  have H3 : ∀ w, Calls Tryd.prog 12 #[.int .i64 2000] w fun e w' => e = .returned (numv 1 0) ∧ Below w.heap.size w w' := fun w => by
    have := glunr_any 2000 w
    rw [show vB (inG 2000) (lunr 2000) = 1 by decide, show eB (inG 2000) = 0 by decide] at this; exact this
  have H4 : ∀ w, CTab w → Calls Tryd.prog 13 #[.int .i64 2, .int .i64 2000] w fun e w' => e = .returned (letv 2 1 0) ∧ Below w.heap.size w w' := fun w ht => by
    have := glet_any 2 2000 w ht
    rw [show lA 2 2000 = 2 by decide, show lB 2 2000 = 1 by decide, show yE 2 2000 = 0 by decide] at this; exact this
  have H5 : ∀ w, Calls Tryd.prog 9 #[.int .i64 0] w fun e w' => e = .returned (numv 0 1) ∧ Below w.heap.size w w' := fun w => by
    have := ggold_any 0 w
    rw [show vB (inY 0) (gold 0) = 0 by decide, show eB (inY 0) = 1 by decide] at this; exact this
  have H6 : ∀ w, Calls Tryd.prog 11 #[.int .i64 1582] w fun e w' => e = .returned (numv 0 1) ∧ Below w.heap.size w w' := fun w => by
    have := gsolr_any 1582 w
    rw [show vB (inG 1582) (solr 1582) = 0 by decide, show eB (inG 1582) = 1 by decide] at this; exact this
  have H7 : ∀ w, CTab w → Calls Tryd.prog 13 #[.int .i64 0, .int .i64 2000] w fun e w' => e = .returned (letv 0 0 3) ∧ Below w.heap.size w w' := fun w ht => by
    have := glet_any 0 2000 w ht
    rw [show lA 0 2000 = 0 by decide, show lB 0 2000 = 0 by decide, show yE 0 2000 = 3 by decide] at this; exact this
  have S0 := Lib.hid (St.start ht)
  clear ht
  go_enter Tryd.func8, Tryd.ntmps8
  go_wp2_with fail
  refine (H1 _).mono ?_
  rintro e w1 ⟨rfl, hb1⟩
  have S1 := Lib.hid (S0.out.on hb1)
  clear hb1
  go_wp2_with fail
  refine (H2 _).mono ?_
  rintro e w2 ⟨rfl, hb2⟩
  have S2 := Lib.hid (S1.out.on hb2)
  clear hb2
  go_wp2_with fail
  refine (H3 _).mono ?_
  rintro e w3 ⟨rfl, hb3⟩
  have S3 := Lib.hid (S2.out.on hb3)
  clear hb3
  go_wp2_with fail
  refine (H4 _ S3.out.t).mono ?_
  rintro e w4 ⟨rfl, hb4⟩
  have S4 := Lib.hid (S3.out.on hb4)
  clear hb4
  go_wp2_with fail
  refine (H5 _).mono ?_
  rintro e w5 ⟨rfl, hb5⟩
  have S5 := Lib.hid (S4.out.on hb5)
  clear hb5
  go_wp2_with fail
  refine (H6 _).mono ?_
  rintro e w6 ⟨rfl, hb6⟩
  have S6 := Lib.hid (S5.out.on hb6)
  clear hb6
  go_wp2_with fail
  refine (H7 _ S6.out.t).mono ?_
  rintro e w7 ⟨rfl, hb7⟩
  have S7 := Lib.hid (S6.out.on hb7)
  clear hb7
  go_wp2_with fail
  go_ret
  exact ⟨rfl, S7.out.b⟩
theorem is_yes (n : Int) (w : World) : Calls Tryd.prog 17 #[.int .i64 n, .int .i64 0, .int .i64 n, .bool true] w fun e w' => e = .returned (.bool true) ∧ w = w' := by
  go_enter Tryd.func17, Tryd.ntmps17
  go_wp2
  go_ret
  exact ⟨rfl, rfl⟩
theorem is_no (n : Int) (w : World) : Calls Tryd.prog 17 #[.int .i64 0, .int .i64 1, .int .i64 n, .bool false] w fun e w' => e = .returned (.bool true) ∧ w = w' := by
  go_enter Tryd.func17, Tryd.ntmps17
  go_wp2
  go_ret
  exact ⟨rfl, rfl⟩
end Go.Proofs.YtclnpnkjldddcaaDoor
