/- Proved: for every byte and every 64-bit integer year, the law EpactSteps of package computuslaw07 (the epact grows by 11 modulo 30 from year to year within a cycle and a century, and recurs after 19 years) returns true, and what was in memory is as it was. Condition: the listed tables of the library read as the program's text lays them (the card ties them; the proof reads none of them). -/
import Derived.Test.YtoockmlobpegcaaDoorEe
import Derived.Test.YtoockmlobpegcaaDoorVy
import Derived.WalkKit
import Derived.ProofKit
import Derived.OpenShut
import Derived.ShutString
import Derived.Lib.SmallJoins
import Derived.LaidMore
import Derived.Stop.Joined
import Derived.SevenTiedAt
import Derived.Test.YtoockmlobpegcaaDoorCards
import Derived.Test.YtoockmlobpegcaaDoorTie
namespace Go.Proofs.YtoockmlobpegcaaDoor.epactSteps
open Go.ChangeShapes Go.WideShapes Go.ChangeAt Go.RowKit Go.Joins
open Go.ChangeMaps (open_string shut_string)
set_option linter.unusedVariables false      -- a walk need not use every fact

theorem walk_1o1 (u y q : Int) (hu : 0 ≤ u) (hu2 : u ≤ 255) (hk : u % 2 = 0)
    (HF : ∀ w, Calls Tryd.prog 11 #[.int .i64 1, .int .i64 y] w fun e w' => e = .returned (.int .i64 q) ∧ w = w')
    (he : (q != 0) = true)
    (W : World) :
    Calls Tryd.prog 5 #[.int .u8 u, .int .i64 y] W fun e w' => e = .returned (.bool true) ∧ Below W.heap.size W w' := by
  have S0 := Lib.hid (Below.refl W.heap.size W)
  go_enter Tryd.func5, Tryd.ntmps5
  go_wp2_with fail
  refine (c7awake_any _).mono ?_
  rintro e w1 ⟨rfl, hb1⟩
  have S1 := Lib.hid (below_on S0.out hb1)
  clear hb1
  go_wp2_with fail
  refine (HF _).mono ?_
  rintro e wq ⟨rfl, rfl⟩
  go_wp2_with fail
  refine (c7awake_any _).mono ?_
  rintro e w2 ⟨rfl, hb2⟩
  have S2 := Lib.hid (below_on S1.out hb2)
  clear hb2
  go_wp2_with fail
  go_ret
  exact ⟨rfl, S2.out⟩
theorem walk_1o2 (u y q : Int) (hu : 0 ≤ u) (hu2 : u ≤ 255) (hk : u % 2 = 0)
    (y1 : 1 ≤ y) (y2 : y ≤ 1000000000)
    (HF : ∀ w, Calls Tryd.prog 11 #[.int .i64 1, .int .i64 y] w fun e w' => e = .returned (.int .i64 0) ∧ w = w')
    (HF2 : ∀ w, Calls Tryd.prog 11 #[.int .i64 1, .int .i64 (y + 19)] w fun e w' => e = .returned (.int .i64 q) ∧ w = w')
    (he : (q != 0) = true)
    (W : World) :
    Calls Tryd.prog 5 #[.int .u8 u, .int .i64 y] W fun e w' => e = .returned (.bool true) ∧ Below W.heap.size W w' := by
  have S0 := Lib.hid (Below.refl W.heap.size W)
  go_enter Tryd.func5, Tryd.ntmps5
  go_wp2_with fail
  refine (c7awake_any _).mono ?_
  rintro e w1 ⟨rfl, hb1⟩
  have S1 := Lib.hid (below_on S0.out hb1)
  clear hb1
  go_wp2_with fail
  refine (HF _).mono ?_
  rintro e wq ⟨rfl, rfl⟩
  go_wp2_with fail
  refine (HF2 _).mono ?_
  rintro e wq ⟨rfl, rfl⟩
  go_wp2_with fail
  refine (c7awake_any _).mono ?_
  rintro e w2 ⟨rfl, hb2⟩
  have S2 := Lib.hid (below_on S1.out hb2)
  clear hb2
  go_wp2_with fail
  go_ret
  exact ⟨rfl, S2.out⟩
theorem walk_1m (u y a b g : Int) (hu : 0 ≤ u) (hu2 : u ≤ 255) (hk : u % 2 = 0)
    (y1 : 1 ≤ y) (y2 : y ≤ 1000000000)
    (HF : ∀ w, Calls Tryd.prog 11 #[.int .i64 1, .int .i64 y] w fun e w' => e = .returned (.int .i64 0) ∧ w = w')
    (HF2 : ∀ w, Calls Tryd.prog 11 #[.int .i64 1, .int .i64 (y + 19)] w fun e w' => e = .returned (.int .i64 0) ∧ w = w')
    (H1 : ∀ w, Calls Tryd.prog 9 #[.int .i64 1, .int .i64 y] w fun e w' => e = .returned (numv a 0) ∧ Below w.heap.size w w')
    (H2 : ∀ w, Calls Tryd.prog 9 #[.int .i64 1, .int .i64 (y + 1)] w fun e w' => e = .returned (numv b 0) ∧ Below w.heap.size w w')
    (H3 : ∀ w, Calls Tryd.prog 9 #[.int .i64 1, .int .i64 (y + 19)] w fun e w' => e = .returned (numv a 0) ∧ Below w.heap.size w w')
    (HG : ∀ w, Calls Tryd.prog 16 #[.int .i64 y] w fun e w' => e = .returned (.int .i64 g) ∧ w = w')
    (a1 : 1 ≤ a) (a2 : a ≤ 30) (b1 : 1 ≤ b) (b2 : b ≤ 30)
    (HM : ∀ w, Calls Tryd.prog 17 #[.int .i64 (b - a), .int .i64 30] w fun e w' => e = .returned (.int .i64 11) ∧ w = w')
    (hg : g < 19)
    (W : World) :
    Calls Tryd.prog 5 #[.int .u8 u, .int .i64 y] W fun e w' => e = .returned (.bool true) ∧ Below W.heap.size W w' := by
  have S0 := Lib.hid (Below.refl W.heap.size W)
  go_enter Tryd.func5, Tryd.ntmps5
  go_wp2_with fail
  refine (c7awake_any _).mono ?_
  rintro e w1 ⟨rfl, hb1⟩
  have S1 := Lib.hid (below_on S0.out hb1)
  clear hb1
  go_wp2_with fail
  refine (HF _).mono ?_
  rintro e wq ⟨rfl, rfl⟩
  go_wp2_with fail
  refine (HF2 _).mono ?_
  rintro e wq ⟨rfl, rfl⟩
  go_wp2_with fail
  refine (H1 _).mono ?_
  rintro e w2 ⟨rfl, hb2⟩
  have S2 := Lib.hid (below_on S1.out hb2)
  clear hb2
  go_wp2_with fail
  refine (H2 _).mono ?_
  rintro e w3 ⟨rfl, hb3⟩
  have S3 := Lib.hid (below_on S2.out hb3)
  clear hb3
  go_wp2_with fail
  refine (H3 _).mono ?_
  rintro e w4 ⟨rfl, hb4⟩
  have S4 := Lib.hid (below_on S3.out hb4)
  clear hb4
  go_wp2_with fail
  refine (HG _).mono ?_
  rintro e wq ⟨rfl, rfl⟩
  go_wp2_with fail
  refine (HM _).mono ?_
  rintro e wq ⟨rfl, rfl⟩
  go_wp2_with fail
  go_ret
  exact ⟨rfl, S4.out⟩
theorem walk_1n (u y a b g : Int) (hu : 0 ≤ u) (hu2 : u ≤ 255) (hk : u % 2 = 0)
    (y1 : 1 ≤ y) (y2 : y ≤ 1000000000)
    (HF : ∀ w, Calls Tryd.prog 11 #[.int .i64 1, .int .i64 y] w fun e w' => e = .returned (.int .i64 0) ∧ w = w')
    (HF2 : ∀ w, Calls Tryd.prog 11 #[.int .i64 1, .int .i64 (y + 19)] w fun e w' => e = .returned (.int .i64 0) ∧ w = w')
    (H1 : ∀ w, Calls Tryd.prog 9 #[.int .i64 1, .int .i64 y] w fun e w' => e = .returned (numv a 0) ∧ Below w.heap.size w w')
    (H2 : ∀ w, Calls Tryd.prog 9 #[.int .i64 1, .int .i64 (y + 1)] w fun e w' => e = .returned (numv b 0) ∧ Below w.heap.size w w')
    (H3 : ∀ w, Calls Tryd.prog 9 #[.int .i64 1, .int .i64 (y + 19)] w fun e w' => e = .returned (numv a 0) ∧ Below w.heap.size w w')
    (HG : ∀ w, Calls Tryd.prog 16 #[.int .i64 y] w fun e w' => e = .returned (.int .i64 g) ∧ w = w')
    (a1 : 1 ≤ a) (a2 : a ≤ 30) (b1 : 1 ≤ b) (b2 : b ≤ 30)
    (hg : ¬ g < 19)
    (W : World) :
    Calls Tryd.prog 5 #[.int .u8 u, .int .i64 y] W fun e w' => e = .returned (.bool true) ∧ Below W.heap.size W w' := by
  have S0 := Lib.hid (Below.refl W.heap.size W)
  go_enter Tryd.func5, Tryd.ntmps5
  go_wp2_with fail
  refine (c7awake_any _).mono ?_
  rintro e w1 ⟨rfl, hb1⟩
  have S1 := Lib.hid (below_on S0.out hb1)
  clear hb1
  go_wp2_with fail
  refine (HF _).mono ?_
  rintro e wq ⟨rfl, rfl⟩
  go_wp2_with fail
  refine (HF2 _).mono ?_
  rintro e wq ⟨rfl, rfl⟩
  go_wp2_with fail
  refine (H1 _).mono ?_
  rintro e w2 ⟨rfl, hb2⟩
  have S2 := Lib.hid (below_on S1.out hb2)
  clear hb2
  go_wp2_with fail
  refine (H2 _).mono ?_
  rintro e w3 ⟨rfl, hb3⟩
  have S3 := Lib.hid (below_on S2.out hb3)
  clear hb3
  go_wp2_with fail
  refine (H3 _).mono ?_
  rintro e w4 ⟨rfl, hb4⟩
  have S4 := Lib.hid (below_on S3.out hb4)
  clear hb4
  go_wp2_with fail
  refine (HG _).mono ?_
  rintro e wq ⟨rfl, rfl⟩
  go_wp2_with fail
  go_ret
  exact ⟨rfl, S4.out⟩
theorem walk_2o1 (u y q : Int) (hu : 0 ≤ u) (hu2 : u ≤ 255) (hk : u % 2 = 1)
    (HF : ∀ w, Calls Tryd.prog 11 #[.int .i64 2, .int .i64 y] w fun e w' => e = .returned (.int .i64 q) ∧ w = w')
    (he : (q != 0) = true)
    (W : World) :
    Calls Tryd.prog 5 #[.int .u8 u, .int .i64 y] W fun e w' => e = .returned (.bool true) ∧ Below W.heap.size W w' := by
  have S0 := Lib.hid (Below.refl W.heap.size W)
  go_enter Tryd.func5, Tryd.ntmps5
  go_wp2_with fail
  refine (c7awake_any _).mono ?_
  rintro e w1 ⟨rfl, hb1⟩
  have S1 := Lib.hid (below_on S0.out hb1)
  clear hb1
  go_wp2_with fail
  refine (HF _).mono ?_
  rintro e wq ⟨rfl, rfl⟩
  go_wp2_with fail
  refine (c7awake_any _).mono ?_
  rintro e w2 ⟨rfl, hb2⟩
  have S2 := Lib.hid (below_on S1.out hb2)
  clear hb2
  go_wp2_with fail
  go_ret
  exact ⟨rfl, S2.out⟩
theorem walk_2o2 (u y q : Int) (hu : 0 ≤ u) (hu2 : u ≤ 255) (hk : u % 2 = 1)
    (y1 : 1 ≤ y) (y2 : y ≤ 1000000000)
    (HF : ∀ w, Calls Tryd.prog 11 #[.int .i64 2, .int .i64 y] w fun e w' => e = .returned (.int .i64 0) ∧ w = w')
    (HF2 : ∀ w, Calls Tryd.prog 11 #[.int .i64 2, .int .i64 (y + 19)] w fun e w' => e = .returned (.int .i64 q) ∧ w = w')
    (he : (q != 0) = true)
    (W : World) :
    Calls Tryd.prog 5 #[.int .u8 u, .int .i64 y] W fun e w' => e = .returned (.bool true) ∧ Below W.heap.size W w' := by
  have S0 := Lib.hid (Below.refl W.heap.size W)
  go_enter Tryd.func5, Tryd.ntmps5
  go_wp2_with fail
  refine (c7awake_any _).mono ?_
  rintro e w1 ⟨rfl, hb1⟩
  have S1 := Lib.hid (below_on S0.out hb1)
  clear hb1
  go_wp2_with fail
  refine (HF _).mono ?_
  rintro e wq ⟨rfl, rfl⟩
  go_wp2_with fail
  refine (HF2 _).mono ?_
  rintro e wq ⟨rfl, rfl⟩
  go_wp2_with fail
  refine (c7awake_any _).mono ?_
  rintro e w2 ⟨rfl, hb2⟩
  have S2 := Lib.hid (below_on S1.out hb2)
  clear hb2
  go_wp2_with fail
  go_ret
  exact ⟨rfl, S2.out⟩
theorem walk_2ms (u y a b g : Int) (hu : 0 ≤ u) (hu2 : u ≤ 255) (hk : u % 2 = 1)
    (y1 : 1 ≤ y) (y2 : y ≤ 1000000000)
    (HF : ∀ w, Calls Tryd.prog 11 #[.int .i64 2, .int .i64 y] w fun e w' => e = .returned (.int .i64 0) ∧ w = w')
    (HF2 : ∀ w, Calls Tryd.prog 11 #[.int .i64 2, .int .i64 (y + 19)] w fun e w' => e = .returned (.int .i64 0) ∧ w = w')
    (H1 : ∀ w, Calls Tryd.prog 9 #[.int .i64 2, .int .i64 y] w fun e w' => e = .returned (numv a 0) ∧ Below w.heap.size w w')
    (H2 : ∀ w, Calls Tryd.prog 9 #[.int .i64 2, .int .i64 (y + 1)] w fun e w' => e = .returned (numv b 0) ∧ Below w.heap.size w w')
    (H3 : ∀ w, Calls Tryd.prog 9 #[.int .i64 2, .int .i64 (y + 19)] w fun e w' => e = .returned (numv a 0) ∧ Below w.heap.size w w')
    (HG : ∀ w, Calls Tryd.prog 16 #[.int .i64 y] w fun e w' => e = .returned (.int .i64 g) ∧ w = w')
    (a1 : 1 ≤ a) (a2 : a ≤ 30) (b1 : 1 ≤ b) (b2 : b ≤ 30)
    (HM : ∀ w, Calls Tryd.prog 17 #[.int .i64 (b - a), .int .i64 30] w fun e w' => e = .returned (.int .i64 11) ∧ w = w')
    (hg : g < 19)
    (p1 : (y / 100 == (y + 1) / 100) = true)
    (p19 : (y / 100 != (y + 19) / 100) = false)
    (W : World) :
    Calls Tryd.prog 5 #[.int .u8 u, .int .i64 y] W fun e w' => e = .returned (.bool true) ∧ Below W.heap.size W w' := by
  have S0 := Lib.hid (Below.refl W.heap.size W)
  go_enter Tryd.func5, Tryd.ntmps5
  go_wp2_with fail
  refine (c7awake_any _).mono ?_
  rintro e w1 ⟨rfl, hb1⟩
  have S1 := Lib.hid (below_on S0.out hb1)
  clear hb1
  go_wp2_with fail
  refine (HF _).mono ?_
  rintro e wq ⟨rfl, rfl⟩
  go_wp2_with fail
  refine (HF2 _).mono ?_
  rintro e wq ⟨rfl, rfl⟩
  go_wp2_with fail
  refine (H1 _).mono ?_
  rintro e w2 ⟨rfl, hb2⟩
  have S2 := Lib.hid (below_on S1.out hb2)
  clear hb2
  go_wp2_with fail
  refine (H2 _).mono ?_
  rintro e w3 ⟨rfl, hb3⟩
  have S3 := Lib.hid (below_on S2.out hb3)
  clear hb3
  go_wp2_with fail
  refine (H3 _).mono ?_
  rintro e w4 ⟨rfl, hb4⟩
  have S4 := Lib.hid (below_on S3.out hb4)
  clear hb4
  go_wp2_with fail
  refine (HG _).mono ?_
  rintro e wq ⟨rfl, rfl⟩
  go_wp2_with fail
  refine (HM _).mono ?_
  rintro e wq ⟨rfl, rfl⟩
  go_wp2_with fail
  go_ret
  exact ⟨rfl, S4.out⟩
theorem walk_2ns (u y a b g : Int) (hu : 0 ≤ u) (hu2 : u ≤ 255) (hk : u % 2 = 1)
    (y1 : 1 ≤ y) (y2 : y ≤ 1000000000)
    (HF : ∀ w, Calls Tryd.prog 11 #[.int .i64 2, .int .i64 y] w fun e w' => e = .returned (.int .i64 0) ∧ w = w')
    (HF2 : ∀ w, Calls Tryd.prog 11 #[.int .i64 2, .int .i64 (y + 19)] w fun e w' => e = .returned (.int .i64 0) ∧ w = w')
    (H1 : ∀ w, Calls Tryd.prog 9 #[.int .i64 2, .int .i64 y] w fun e w' => e = .returned (numv a 0) ∧ Below w.heap.size w w')
    (H2 : ∀ w, Calls Tryd.prog 9 #[.int .i64 2, .int .i64 (y + 1)] w fun e w' => e = .returned (numv b 0) ∧ Below w.heap.size w w')
    (H3 : ∀ w, Calls Tryd.prog 9 #[.int .i64 2, .int .i64 (y + 19)] w fun e w' => e = .returned (numv a 0) ∧ Below w.heap.size w w')
    (HG : ∀ w, Calls Tryd.prog 16 #[.int .i64 y] w fun e w' => e = .returned (.int .i64 g) ∧ w = w')
    (a1 : 1 ≤ a) (a2 : a ≤ 30) (b1 : 1 ≤ b) (b2 : b ≤ 30)
    (hg : ¬ g < 19)
    (p19 : (y / 100 != (y + 19) / 100) = false)
    (W : World) :
    Calls Tryd.prog 5 #[.int .u8 u, .int .i64 y] W fun e w' => e = .returned (.bool true) ∧ Below W.heap.size W w' := by
  have S0 := Lib.hid (Below.refl W.heap.size W)
  go_enter Tryd.func5, Tryd.ntmps5
  go_wp2_with fail
  refine (c7awake_any _).mono ?_
  rintro e w1 ⟨rfl, hb1⟩
  have S1 := Lib.hid (below_on S0.out hb1)
  clear hb1
  go_wp2_with fail
  refine (HF _).mono ?_
  rintro e wq ⟨rfl, rfl⟩
  go_wp2_with fail
  refine (HF2 _).mono ?_
  rintro e wq ⟨rfl, rfl⟩
  go_wp2_with fail
  refine (H1 _).mono ?_
  rintro e w2 ⟨rfl, hb2⟩
  have S2 := Lib.hid (below_on S1.out hb2)
  clear hb2
  go_wp2_with fail
  refine (H2 _).mono ?_
  rintro e w3 ⟨rfl, hb3⟩
  have S3 := Lib.hid (below_on S2.out hb3)
  clear hb3
  go_wp2_with fail
  refine (H3 _).mono ?_
  rintro e w4 ⟨rfl, hb4⟩
  have S4 := Lib.hid (below_on S3.out hb4)
  clear hb4
  go_wp2_with fail
  refine (HG _).mono ?_
  rintro e wq ⟨rfl, rfl⟩
  go_wp2_with fail
  go_ret
  exact ⟨rfl, S4.out⟩
theorem walk_2md (u y a b g c : Int) (hu : 0 ≤ u) (hu2 : u ≤ 255) (hk : u % 2 = 1)
    (y1 : 1 ≤ y) (y2 : y ≤ 1000000000)
    (HF : ∀ w, Calls Tryd.prog 11 #[.int .i64 2, .int .i64 y] w fun e w' => e = .returned (.int .i64 0) ∧ w = w')
    (HF2 : ∀ w, Calls Tryd.prog 11 #[.int .i64 2, .int .i64 (y + 19)] w fun e w' => e = .returned (.int .i64 0) ∧ w = w')
    (H1 : ∀ w, Calls Tryd.prog 9 #[.int .i64 2, .int .i64 y] w fun e w' => e = .returned (numv a 0) ∧ Below w.heap.size w w')
    (H2 : ∀ w, Calls Tryd.prog 9 #[.int .i64 2, .int .i64 (y + 1)] w fun e w' => e = .returned (numv b 0) ∧ Below w.heap.size w w')
    (H3 : ∀ w, Calls Tryd.prog 9 #[.int .i64 2, .int .i64 (y + 19)] w fun e w' => e = .returned (numv c 0) ∧ Below w.heap.size w w')
    (HG : ∀ w, Calls Tryd.prog 16 #[.int .i64 y] w fun e w' => e = .returned (.int .i64 g) ∧ w = w')
    (a1 : 1 ≤ a) (a2 : a ≤ 30) (b1 : 1 ≤ b) (b2 : b ≤ 30)
    (HM : ∀ w, Calls Tryd.prog 17 #[.int .i64 (b - a), .int .i64 30] w fun e w' => e = .returned (.int .i64 11) ∧ w = w')
    (hg : g < 19)
    (p1 : (y / 100 == (y + 1) / 100) = true)
    (p19 : (y / 100 != (y + 19) / 100) = true)
    (W : World) :
    Calls Tryd.prog 5 #[.int .u8 u, .int .i64 y] W fun e w' => e = .returned (.bool true) ∧ Below W.heap.size W w' := by
  have S0 := Lib.hid (Below.refl W.heap.size W)
  go_enter Tryd.func5, Tryd.ntmps5
  go_wp2_with fail
  refine (c7awake_any _).mono ?_
  rintro e w1 ⟨rfl, hb1⟩
  have S1 := Lib.hid (below_on S0.out hb1)
  clear hb1
  go_wp2_with fail
  refine (HF _).mono ?_
  rintro e wq ⟨rfl, rfl⟩
  go_wp2_with fail
  refine (HF2 _).mono ?_
  rintro e wq ⟨rfl, rfl⟩
  go_wp2_with fail
  refine (H1 _).mono ?_
  rintro e w2 ⟨rfl, hb2⟩
  have S2 := Lib.hid (below_on S1.out hb2)
  clear hb2
  go_wp2_with fail
  refine (H2 _).mono ?_
  rintro e w3 ⟨rfl, hb3⟩
  have S3 := Lib.hid (below_on S2.out hb3)
  clear hb3
  go_wp2_with fail
  refine (H3 _).mono ?_
  rintro e w4 ⟨rfl, hb4⟩
  have S4 := Lib.hid (below_on S3.out hb4)
  clear hb4
  go_wp2_with fail
  refine (HG _).mono ?_
  rintro e wq ⟨rfl, rfl⟩
  go_wp2_with fail
  refine (HM _).mono ?_
  rintro e wq ⟨rfl, rfl⟩
  go_wp2_with fail
  go_ret
  exact ⟨rfl, S4.out⟩
theorem walk_2cd (u y a b g c : Int) (hu : 0 ≤ u) (hu2 : u ≤ 255) (hk : u % 2 = 1)
    (y1 : 1 ≤ y) (y2 : y ≤ 1000000000)
    (HF : ∀ w, Calls Tryd.prog 11 #[.int .i64 2, .int .i64 y] w fun e w' => e = .returned (.int .i64 0) ∧ w = w')
    (HF2 : ∀ w, Calls Tryd.prog 11 #[.int .i64 2, .int .i64 (y + 19)] w fun e w' => e = .returned (.int .i64 0) ∧ w = w')
    (H1 : ∀ w, Calls Tryd.prog 9 #[.int .i64 2, .int .i64 y] w fun e w' => e = .returned (numv a 0) ∧ Below w.heap.size w w')
    (H2 : ∀ w, Calls Tryd.prog 9 #[.int .i64 2, .int .i64 (y + 1)] w fun e w' => e = .returned (numv b 0) ∧ Below w.heap.size w w')
    (H3 : ∀ w, Calls Tryd.prog 9 #[.int .i64 2, .int .i64 (y + 19)] w fun e w' => e = .returned (numv c 0) ∧ Below w.heap.size w w')
    (HG : ∀ w, Calls Tryd.prog 16 #[.int .i64 y] w fun e w' => e = .returned (.int .i64 g) ∧ w = w')
    (a1 : 1 ≤ a) (a2 : a ≤ 30) (b1 : 1 ≤ b) (b2 : b ≤ 30)
    (hg : g < 19)
    (p1 : (y / 100 == (y + 1) / 100) = false)
    (p19 : (y / 100 != (y + 19) / 100) = true)
    (W : World) :
    Calls Tryd.prog 5 #[.int .u8 u, .int .i64 y] W fun e w' => e = .returned (.bool true) ∧ Below W.heap.size W w' := by
  have S0 := Lib.hid (Below.refl W.heap.size W)
  go_enter Tryd.func5, Tryd.ntmps5
  go_wp2_with fail
  refine (c7awake_any _).mono ?_
  rintro e w1 ⟨rfl, hb1⟩
  have S1 := Lib.hid (below_on S0.out hb1)
  clear hb1
  go_wp2_with fail
  refine (HF _).mono ?_
  rintro e wq ⟨rfl, rfl⟩
  go_wp2_with fail
  refine (HF2 _).mono ?_
  rintro e wq ⟨rfl, rfl⟩
  go_wp2_with fail
  refine (H1 _).mono ?_
  rintro e w2 ⟨rfl, hb2⟩
  have S2 := Lib.hid (below_on S1.out hb2)
  clear hb2
  go_wp2_with fail
  refine (H2 _).mono ?_
  rintro e w3 ⟨rfl, hb3⟩
  have S3 := Lib.hid (below_on S2.out hb3)
  clear hb3
  go_wp2_with fail
  refine (H3 _).mono ?_
  rintro e w4 ⟨rfl, hb4⟩
  have S4 := Lib.hid (below_on S3.out hb4)
  clear hb4
  go_wp2_with fail
  refine (HG _).mono ?_
  rintro e wq ⟨rfl, rfl⟩
  go_wp2_with fail
  go_ret
  exact ⟨rfl, S4.out⟩
theorem walk_2nd (u y a b g c : Int) (hu : 0 ≤ u) (hu2 : u ≤ 255) (hk : u % 2 = 1)
    (y1 : 1 ≤ y) (y2 : y ≤ 1000000000)
    (HF : ∀ w, Calls Tryd.prog 11 #[.int .i64 2, .int .i64 y] w fun e w' => e = .returned (.int .i64 0) ∧ w = w')
    (HF2 : ∀ w, Calls Tryd.prog 11 #[.int .i64 2, .int .i64 (y + 19)] w fun e w' => e = .returned (.int .i64 0) ∧ w = w')
    (H1 : ∀ w, Calls Tryd.prog 9 #[.int .i64 2, .int .i64 y] w fun e w' => e = .returned (numv a 0) ∧ Below w.heap.size w w')
    (H2 : ∀ w, Calls Tryd.prog 9 #[.int .i64 2, .int .i64 (y + 1)] w fun e w' => e = .returned (numv b 0) ∧ Below w.heap.size w w')
    (H3 : ∀ w, Calls Tryd.prog 9 #[.int .i64 2, .int .i64 (y + 19)] w fun e w' => e = .returned (numv c 0) ∧ Below w.heap.size w w')
    (HG : ∀ w, Calls Tryd.prog 16 #[.int .i64 y] w fun e w' => e = .returned (.int .i64 g) ∧ w = w')
    (a1 : 1 ≤ a) (a2 : a ≤ 30) (b1 : 1 ≤ b) (b2 : b ≤ 30)
    (hg : ¬ g < 19)
    (p19 : (y / 100 != (y + 19) / 100) = true)
    (W : World) :
    Calls Tryd.prog 5 #[.int .u8 u, .int .i64 y] W fun e w' => e = .returned (.bool true) ∧ Below W.heap.size W w' := by
  have S0 := Lib.hid (Below.refl W.heap.size W)
  go_enter Tryd.func5, Tryd.ntmps5
  go_wp2_with fail
  refine (c7awake_any _).mono ?_
  rintro e w1 ⟨rfl, hb1⟩
  have S1 := Lib.hid (below_on S0.out hb1)
  clear hb1
  go_wp2_with fail
  refine (HF _).mono ?_
  rintro e wq ⟨rfl, rfl⟩
  go_wp2_with fail
  refine (HF2 _).mono ?_
  rintro e wq ⟨rfl, rfl⟩
  go_wp2_with fail
  refine (H1 _).mono ?_
  rintro e w2 ⟨rfl, hb2⟩
  have S2 := Lib.hid (below_on S1.out hb2)
  clear hb2
  go_wp2_with fail
  refine (H2 _).mono ?_
  rintro e w3 ⟨rfl, hb3⟩
  have S3 := Lib.hid (below_on S2.out hb3)
  clear hb3
  go_wp2_with fail
  refine (H3 _).mono ?_
  rintro e w4 ⟨rfl, hb4⟩
  have S4 := Lib.hid (below_on S3.out hb4)
  clear hb4
  go_wp2_with fail
  refine (HG _).mono ?_
  rintro e wq ⟨rfl, rfl⟩
  go_wp2_with fail
  go_ret
  exact ⟨rfl, S4.out⟩
theorem gold_next {y : Int} (h : gold y < 19) : gold (y + 1) = gold y + 1 := by unfold gold at *; omega
theorem gold_far (y : Int) : gold (y + 19) = gold y := by unfold gold; omega
theorem ep_step (n : Int) : (ep30 (n + 11) - ep30 n) % 30 = 11 := by
  have h1 := ep30_mod (n + 11)
  have h2 := ep30_mod n
  omega
theorem corr_same {y z : Int} (h : y / 100 = z / 100) : solr z = solr y ∧ lunr z = lunr y := by unfold solr lunr cent; rw [h]; exact ⟨rfl, rfl⟩
theorem jul_step {y : Int} (h : gold y < 19) : (epc 1 (y + 1) - epc 1 y) % 30 = 11 := by
  have e : epF 1 (y + 1) = epF 1 y + 11 := by
    show 11 * gold (y + 1) - 3 = 11 * gold y - 3 + 11
    rw [gold_next h]; omega
  unfold epc; rw [e]; exact ep_step _
theorem jul_far (y : Int) : epc 1 (y + 19) = epc 1 y := by
  show ep30 (11 * gold (y + 19) - 3) = ep30 (11 * gold y - 3)
  rw [gold_far]
theorem greg_step {y : Int} (h : gold y < 19) (hc : y / 100 = (y + 1) / 100) : (epc 2 (y + 1) - epc 2 y) % 30 = 11 := by
  obtain ⟨c1, c2⟩ := corr_same hc
  have e : epF 2 (y + 1) = epF 2 y + 11 := by
    show 11 * gold (y + 1) + 20 + lunr (y + 1) - solr (y + 1) = 11 * gold y + 20 + lunr y - solr y + 11
    rw [gold_next h, c1, c2]; omega
  unfold epc; rw [e]; exact ep_step _
theorem greg_far {y : Int} (hc : y / 100 = (y + 19) / 100) : epc 2 (y + 19) = epc 2 y := by
  obtain ⟨c1, c2⟩ := corr_same hc
  show ep30 (11 * gold (y + 19) + 20 + lunr (y + 19) - solr (y + 19)) = ep30 (11 * gold y + 20 + lunr y - solr y)
  rw [gold_far, c1, c2]
theorem ep_mid {c y : Int} (h0 : epE c y = 0) (h19 : epE c (y + 19) = 0) : epE c (y + 1) = 0 := by
  obtain ⟨hc, hi⟩ := epE_zero h0
  obtain ⟨_, hj⟩ := epE_zero h19
  refine epE_ok (okC_iff.2 hc) ?_
  rcases hc with rfl | rfl
  · rw [epIn_one, inY_iff] at *; omega
  · rw [epIn_two, inG_iff] at *; omega
theorem walk (u y : Int) (w0 : (Lit.int .u8 u).wf = true) (w1 : (Lit.int .i64 y).wf = true) (W : World) (_ : True) :
    Calls Tryd.prog 5 #[.int .u8 u, .int .i64 y] W fun e w' => e = .returned (.bool true) ∧ Below W.heap.size W w' := by
  have hb := bounds_u8 w0
  by_cases hk : u % 2 = 0
  · have HF := fun w => rfail_any 1 y w
    by_cases h : epE 1 y = 0
    · obtain ⟨y1, y2⟩ := epE_inY h
      have HF2 := fun w => rfail_any 1 (y + 19) w
      rw [h] at HF
      by_cases h19 : epE 1 (y + 19) = 0
      · have hm := ep_mid h h19
        have H1 := fun w => eOf_any 1 y w (by decide)
        have H2 := fun w => eOf_any 1 (y + 1) w (by decide)
        have H3 := fun w => eOf_any 1 (y + 19) w (by decide)
        have HG := fun w => rgold_any y w y1 y2
        have ab := ep30_bd (epF 1 y)
        have bb := ep30_bd (epF 1 (y + 1))
        have HM := fun w => rmod30 (epc 1 (y + 1) - epc 1 y) w (inR_iff.2 (by unfold epc; omega))
        rw [(epN_at h).1, h] at H1
        rw [(epN_at hm).1, hm] at H2
        rw [(epN_at h19).1, h19] at H3
        rw [h19] at HF2
        rw [jul_far] at H3
        by_cases hg : gold y < 19
        · rw [jul_step hg] at HM
          exact walk_1m u y _ _ _ hb.1 hb.2 (by omega) y1 y2 HF HF2 H1 H2 H3 HG ab.1 ab.2 bb.1 bb.2 HM hg W
        · exact walk_1n u y _ _ _ hb.1 hb.2 (by omega) y1 y2 HF HF2 H1 H2 H3 HG ab.1 ab.2 bb.1 bb.2 hg W
      · exact walk_1o2 u y _ hb.1 hb.2 (by omega) y1 y2 HF HF2 (by rw [bne_iff_ne]; exact h19) W
    · exact walk_1o1 u y _ hb.1 hb.2 (by omega) HF (by rw [bne_iff_ne]; exact h) W
  · have HF := fun w => rfail_any 2 y w
    by_cases h : epE 2 y = 0
    · obtain ⟨y1, y2⟩ := epE_inY h
      have HF2 := fun w => rfail_any 2 (y + 19) w
      rw [h] at HF
      by_cases h19 : epE 2 (y + 19) = 0
      · have hm := ep_mid h h19
        have H1 := fun w => eOf_any 2 y w (by decide)
        have H2 := fun w => eOf_any 2 (y + 1) w (by decide)
        have H3 := fun w => eOf_any 2 (y + 19) w (by decide)
        have HG := fun w => rgold_any y w y1 y2
        have ab := ep30_bd (epF 2 y)
        have bb := ep30_bd (epF 2 (y + 1))
        have HM := fun w => rmod30 (epc 2 (y + 1) - epc 2 y) w (inR_iff.2 (by unfold epc; omega))
        rw [(epN_at h).1, h] at H1
        rw [(epN_at hm).1, hm] at H2
        rw [(epN_at h19).1, h19] at H3
        rw [h19] at HF2
        by_cases hc : y / 100 = (y + 19) / 100
        · rw [greg_far hc] at H3
          have hc1 : y / 100 = (y + 1) / 100 := by omega
          by_cases hg : gold y < 19
          · rw [greg_step hg hc1] at HM
            exact walk_2ms u y _ _ _ hb.1 hb.2 (by omega) y1 y2 HF HF2 H1 H2 H3 HG ab.1 ab.2 bb.1 bb.2 HM hg (by rw [beq_iff_eq]; omega) (by rw [bne_eq_false_iff_eq]; omega) W
          · exact walk_2ns u y _ _ _ hb.1 hb.2 (by omega) y1 y2 HF HF2 H1 H2 H3 HG ab.1 ab.2 bb.1 bb.2 hg (by rw [bne_eq_false_iff_eq]; omega) W
        · by_cases hg : gold y < 19
          · by_cases hc1 : y / 100 = (y + 1) / 100
            · rw [greg_step hg hc1] at HM
              exact walk_2md u y _ _ _ _ hb.1 hb.2 (by omega) y1 y2 HF HF2 H1 H2 H3 HG ab.1 ab.2 bb.1 bb.2 HM hg (by rw [beq_iff_eq]; omega) (by rw [bne_iff_ne]; omega) W
            · exact walk_2cd u y _ _ _ _ hb.1 hb.2 (by omega) y1 y2 HF HF2 H1 H2 H3 HG ab.1 ab.2 bb.1 bb.2 hg (by rw [beq_eq_false_iff_ne]; omega) (by rw [bne_iff_ne]; omega) W
          · exact walk_2nd u y _ _ _ _ hb.1 hb.2 (by omega) y1 y2 HF HF2 H1 H2 H3 HG ab.1 ab.2 bb.1 bb.2 hg (by rw [bne_iff_ne]; omega) W
      · exact walk_2o2 u y _ hb.1 hb.2 (by omega) y1 y2 HF HF2 (by rw [bne_iff_ne]; exact h19) W
    · exact walk_2o1 u y _ hb.1 hb.2 (by omega) HF (by rw [bne_iff_ne]; exact h) W

/-! ### the row's step -/
set_option maxRecDepth 100000 in
theorem lifted (os : Os) (started : os.Started) (H : Type) (enc : TypeId × Value → H) :
    ReturnsInHanded {} Tryd.checked os 5 .any (fun w args => (Rows.epactStepsSpec.pre enc Tryd.prog Tryd.f5 [] false w args ∧ laidMetH Tryd.prog laidL w) ∧ sizedMet enc Tryd.prog Tryd.f5 (OpenSpec.ofChange Rows.epactStepsSpec) false w args)
      (Rows.epactStepsSpec.post enc Tryd.prog Tryd.f5 false true false false) := by
  refine returnsInHanded_of_change_and (C := Tryd.checked) (X := fun w _ => laidMetH Tryd.prog laidL w) (fun _ _ _ hh h => h.of_heap hh) own started (by kernel_rfl) Tryd.func5
    (ChangeSpec.witness_shaped (enc := enc) (C := Tryd.checked) (os := os) (X := fun w _ => laidMetH Tryd.prog laidL w) false (World.doorLaid Tryd.prog 400 os) #[.int .u8 0, .int .i64 0] 8 rfl (World.shaped_of_RefB (by kernel_rfl) (by kernel_rfl)) (by kernel_rfl) (by kernel_rfl) (by kernel_rfl) (door_met os _)) ?_
  intro W base args ds gs before hval0 hW _ _ hL _
  have hval : ∀ (j : Nat) t v, Tryd.f5.params[j]? = some t → args[j]? = some v → Value.okWide Tryd.prog W .any base t v := hval0
  have hW' := hW
  obtain ⟨p, q, hA0, hV, rfl, hfz, hnd⟩ := hW
  have hA : DataW.TrodAll enc Tryd.prog W 0 (fun _ => true) true Tryd.f5.params.toList args.toList ds p := hA0
  rw [Tryd.params5] at hA hval
  obtain ⟨v0, vs0, d0, ds0, p0, q0, hargs, rfl, rfl, h0, r0⟩ := trodAll_cons hA
  obtain ⟨v1, vs1, d1, ds1, p1, q1, rfl, rfl, rfl, h1, r1⟩ := trodAll_cons r0
  obtain ⟨rfl, rfl, rfl⟩ := trodAll_nil r1
  obtain rfl : args = #[v0, v1] := by cases args; simp_all
  obtain ⟨rfl, rfl⟩ := trodVars_none hV
  obtain ⟨a0, rfl, rfl, rfl, w0⟩ := open_int Tryd.underlying5 (hval 0 5 v0 rfl rfl) h0
  obtain ⟨a1, rfl, rfl, rfl, w1⟩ := open_int Tryd.underlying3 (hval 1 3 v1 rfl rfl) h1
  clear hA0 hval0
  simp only [List.append_nil] at hW'
  refine (walk a0 a1 w0 w1 W (laid_facts hL)).mono fun e W' ⟨he, bel⟩ => ?_
  subst he
  exact ⟨_, rfl, _, _, _, [], _, [], hW', trodAll_mk1 (shut_bool Tryd.underlying4 _), (trodAll_cons_mk (shut_int Tryd.underlying5 w0) (trodAll_cons_mk (shut_int Tryd.underlying3 w1) trodAll_mk0)), rfl, bel.frame _, fun h => by cases h⟩

theorem over : Rows.epactStepsRow.holds Tryd.pinned (OpenSpec.ofChange Rows.epactStepsSpec) :=
  OpenClaim.holds_of_wide 5 Tryd.f5 rfl rfl rfl rfl rfl rfl rfl ⟨rfl, rfl, rfl, rfl, rfl⟩ rfl rfl rfl rfl rfl (by kernel_rfl) Tryd.func5 (by kernel_rfl)
    (of_decide_eq_true (by kernel_rfl)) (by unfold Func.isWrapper; first | (rw [if_pos (by decide +kernel)]; kernel_rfl) | (rw [if_neg (by decide +kernel)]; exact ⟨rfl, rfl⟩))
    (fun os started H enc _ => lifted os started H enc)

/-- The statement: the tied card. -/
theorem proved : Rows.EpactStepsCardSaid :=
  Claim7.holds_tied_plain_at .later [] [.data, .data, .data] true (true, "b963811442bab6dbbb09f52966fa8716103917afb5f51ddd846ef8c60cacc619") false
    over (fun _ h => by cases h) (by kernel_rfl) (fun _ h => by cases h) epactSteps_row_tie rfl ⟨rfl, rfl⟩ (by kernel_rfl) rfl
    (fun f fn hf hfn => by
      obtain rfl : f = 5 := Option.some.inj ((show Tryd.prog.funcNamed "computus/computuslaw07.EpactSteps" = some 5 by kernel_rfl).symm.trans hf) |>.symm
      obtain rfl : fn = Tryd.f5 := (Option.some.inj (Tryd.func5.symm.trans hfn)).symm
      exact ⟨by kernel_rfl, fun j t ht => by
        rw [Tryd.params5] at ht
        have hm : t ∈ [5, 3] := by simpa using Array.mem_of_getElem? ht
        have hall : ([5, 3].all fun u => !Tryd.prog.wantsStandIn u) = true := by kernel_rfl
        exact (show Tryd.prog.wantsStandIn t = false by simpa using List.all_eq_true.1 hall t hm)⟩)
    (by kernel_rfl)
#print axioms proved
end Go.Proofs.YtoockmlobpegcaaDoor.epactSteps
