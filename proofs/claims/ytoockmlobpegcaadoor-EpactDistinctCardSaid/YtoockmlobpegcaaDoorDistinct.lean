/- Proved: for every byte and all 64-bit integers year and other, the law EpactDistinct of package computuslaw07 (in the same century, or in the Julian calendar, two years have the same label exactly if they have the same golden number) returns true, and what was in memory is as it was. Condition: the listed tables of the library read as the program's text lays them (the card ties them; the proof reads none of them). -/
import Derived.Test.YtoockmlobpegcaaDoorEe
import Derived.Test.YtoockmlobpegcaaDoorVy
import Derived.WalkKit
import Derived.ProofKit
import Derived.OpenShut
import Derived.ShutString
import Derived.Lib.SmallJoins
import Derived.LaidMore
import Derived.Stop.Joined
import Derived.SevenTiedAt
import Derived.Test.YtoockmlobpegcaaDoorCards
import Derived.Test.YtoockmlobpegcaaDoorTie
namespace Go.Proofs.YtoockmlobpegcaaDoor.epactDistinct
open Go.ChangeShapes Go.WideShapes Go.ChangeAt Go.RowKit Go.Joins
open Go.ChangeMaps (open_string shut_string)
set_option linter.unusedVariables false      -- a walk need not use every fact

theorem walk_1o1 (u y z q : Int) (hu : 0 ≤ u) (hu2 : u ≤ 255) (hk : u % 2 = 0)
    (HF : ∀ w, Calls Tryd.prog 11 #[.int .i64 1, .int .i64 y] w fun e w' => e = .returned (.int .i64 q) ∧ w = w')
    (he : (q != 0) = true)
    (W : World) :
    Calls Tryd.prog 6 #[.int .u8 u, .int .i64 y, .int .i64 z] W fun e w' => e = .returned (.bool true) ∧ Below W.heap.size W w' := by
  have S0 := Lib.hid (Below.refl W.heap.size W)
  go_enter Tryd.func6, Tryd.ntmps6
  go_wp2_with fail
  refine (c7awake_any _).mono ?_
  rintro e w1 ⟨rfl, hb1⟩
  have S1 := Lib.hid (below_on S0.out hb1)
  clear hb1
  go_wp2_with fail
  refine (HF _).mono ?_
  rintro e wq ⟨rfl, rfl⟩
  go_wp2_with fail
  refine (c7awake_any _).mono ?_
  rintro e w2 ⟨rfl, hb2⟩
  have S2 := Lib.hid (below_on S1.out hb2)
  clear hb2
  go_wp2_with fail
  go_ret
  exact ⟨rfl, S2.out⟩
theorem walk_1o2 (u y z q : Int) (hu : 0 ≤ u) (hu2 : u ≤ 255) (hk : u % 2 = 0)
    (HF : ∀ w, Calls Tryd.prog 11 #[.int .i64 1, .int .i64 y] w fun e w' => e = .returned (.int .i64 0) ∧ w = w')
    (HF2 : ∀ w, Calls Tryd.prog 11 #[.int .i64 1, .int .i64 z] w fun e w' => e = .returned (.int .i64 q) ∧ w = w')
    (he : (q != 0) = true)
    (W : World) :
    Calls Tryd.prog 6 #[.int .u8 u, .int .i64 y, .int .i64 z] W fun e w' => e = .returned (.bool true) ∧ Below W.heap.size W w' := by
  have S0 := Lib.hid (Below.refl W.heap.size W)
  go_enter Tryd.func6, Tryd.ntmps6
  go_wp2_with fail
  refine (c7awake_any _).mono ?_
  rintro e w1 ⟨rfl, hb1⟩
  have S1 := Lib.hid (below_on S0.out hb1)
  clear hb1
  go_wp2_with fail
  refine (HF _).mono ?_
  rintro e wq ⟨rfl, rfl⟩
  go_wp2_with fail
  refine (HF2 _).mono ?_
  rintro e wq ⟨rfl, rfl⟩
  go_wp2_with fail
  refine (c7awake_any _).mono ?_
  rintro e w2 ⟨rfl, hb2⟩
  have S2 := Lib.hid (below_on S1.out hb2)
  clear hb2
  go_wp2_with fail
  go_ret
  exact ⟨rfl, S2.out⟩
theorem walk_1same (u y z a g : Int) (s : ByteArray) (hu : 0 ≤ u) (hu2 : u ≤ 255) (hk : u % 2 = 0)
    (y1 : 1 ≤ y) (y2 : y ≤ 1000000000) (z1 : 1 ≤ z) (z2 : z ≤ 1000000000)
    (HF : ∀ w, Calls Tryd.prog 11 #[.int .i64 1, .int .i64 y] w fun e w' => e = .returned (.int .i64 0) ∧ w = w')
    (HF2 : ∀ w, Calls Tryd.prog 11 #[.int .i64 1, .int .i64 z] w fun e w' => e = .returned (.int .i64 0) ∧ w = w')
    (H1 : ∀ w, Calls Tryd.prog 10 #[.int .i64 1, .int .i64 y] w fun e w' => e = .returned (numv a 0) ∧ Below w.heap.size w w')
    (H2 : ∀ w, Calls Tryd.prog 10 #[.int .i64 1, .int .i64 z] w fun e w' => e = .returned (numv a 0) ∧ Below w.heap.size w w')
    (HG : ∀ w, Calls Tryd.prog 16 #[.int .i64 y] w fun e w' => e = .returned (.int .i64 g) ∧ w = w')
    (HH : ∀ w, Calls Tryd.prog 16 #[.int .i64 z] w fun e w' => e = .returned (.int .i64 g) ∧ w = w')
    (N1 : ∀ w, Calls Tryd.prog 12 #[.int .i64 a] w fun e w' => e = .returned (.string s) ∧ w = w')
    (W : World) :
    Calls Tryd.prog 6 #[.int .u8 u, .int .i64 y, .int .i64 z] W fun e w' => e = .returned (.bool true) ∧ Below W.heap.size W w' := by
  have S0 := Lib.hid (Below.refl W.heap.size W)
  go_enter Tryd.func6, Tryd.ntmps6
  go_wp2_with fail
  refine (c7awake_any _).mono ?_
  rintro e w1 ⟨rfl, hb1⟩
  have S1 := Lib.hid (below_on S0.out hb1)
  clear hb1
  go_wp2_with fail
  refine (HF _).mono ?_
  rintro e wq ⟨rfl, rfl⟩
  go_wp2_with fail
  refine (HF2 _).mono ?_
  rintro e wq ⟨rfl, rfl⟩
  go_wp2_with fail
  refine (H1 _).mono ?_
  rintro e w2 ⟨rfl, hb2⟩
  have S2 := Lib.hid (below_on S1.out hb2)
  clear hb2
  go_wp2_with fail
  refine (H2 _).mono ?_
  rintro e w3 ⟨rfl, hb3⟩
  have S3 := Lib.hid (below_on S2.out hb3)
  clear hb3
  go_wp2_with fail
  refine (HG _).mono ?_
  rintro e wq ⟨rfl, rfl⟩
  go_wp2_with fail
  refine (HH _).mono ?_
  rintro e wq ⟨rfl, rfl⟩
  go_wp2_with fail
  refine (N1 _).mono ?_
  rintro e wq ⟨rfl, rfl⟩
  go_wp2_with fail
  refine (N1 _).mono ?_
  rintro e wq ⟨rfl, rfl⟩
  go_wp2_with fail
  go_ret
  exact ⟨rfl, S3.out⟩
theorem walk_1diff (u y z a b g h : Int) (s r : ByteArray) (hu : 0 ≤ u) (hu2 : u ≤ 255) (hk : u % 2 = 0)
    (y1 : 1 ≤ y) (y2 : y ≤ 1000000000) (z1 : 1 ≤ z) (z2 : z ≤ 1000000000)
    (HF : ∀ w, Calls Tryd.prog 11 #[.int .i64 1, .int .i64 y] w fun e w' => e = .returned (.int .i64 0) ∧ w = w')
    (HF2 : ∀ w, Calls Tryd.prog 11 #[.int .i64 1, .int .i64 z] w fun e w' => e = .returned (.int .i64 0) ∧ w = w')
    (H1 : ∀ w, Calls Tryd.prog 10 #[.int .i64 1, .int .i64 y] w fun e w' => e = .returned (numv a 0) ∧ Below w.heap.size w w')
    (H2 : ∀ w, Calls Tryd.prog 10 #[.int .i64 1, .int .i64 z] w fun e w' => e = .returned (numv b 0) ∧ Below w.heap.size w w')
    (HG : ∀ w, Calls Tryd.prog 16 #[.int .i64 y] w fun e w' => e = .returned (.int .i64 g) ∧ w = w')
    (HH : ∀ w, Calls Tryd.prog 16 #[.int .i64 z] w fun e w' => e = .returned (.int .i64 h) ∧ w = w')
    (N1 : ∀ w, Calls Tryd.prog 12 #[.int .i64 a] w fun e w' => e = .returned (.string s) ∧ w = w')
    (N2 : ∀ w, Calls Tryd.prog 12 #[.int .i64 b] w fun e w' => e = .returned (.string r) ∧ w = w')
    (d1 : (a == b) = false) (d2 : (g == h) = false) (d3 : (s.toList == r.toList) = false)
    (W : World) :
    Calls Tryd.prog 6 #[.int .u8 u, .int .i64 y, .int .i64 z] W fun e w' => e = .returned (.bool true) ∧ Below W.heap.size W w' := by
  have S0 := Lib.hid (Below.refl W.heap.size W)
  go_enter Tryd.func6, Tryd.ntmps6
  go_wp2_with fail
  refine (c7awake_any _).mono ?_
  rintro e w1 ⟨rfl, hb1⟩
  have S1 := Lib.hid (below_on S0.out hb1)
  clear hb1
  go_wp2_with fail
  refine (HF _).mono ?_
  rintro e wq ⟨rfl, rfl⟩
  go_wp2_with fail
  refine (HF2 _).mono ?_
  rintro e wq ⟨rfl, rfl⟩
  go_wp2_with fail
  refine (H1 _).mono ?_
  rintro e w2 ⟨rfl, hb2⟩
  have S2 := Lib.hid (below_on S1.out hb2)
  clear hb2
  go_wp2_with fail
  refine (H2 _).mono ?_
  rintro e w3 ⟨rfl, hb3⟩
  have S3 := Lib.hid (below_on S2.out hb3)
  clear hb3
  go_wp2_with fail
  refine (HG _).mono ?_
  rintro e wq ⟨rfl, rfl⟩
  go_wp2_with fail
  refine (HH _).mono ?_
  rintro e wq ⟨rfl, rfl⟩
  go_wp2_with fail
  refine (N1 _).mono ?_
  rintro e wq ⟨rfl, rfl⟩
  go_wp2_with fail
  refine (N2 _).mono ?_
  rintro e wq ⟨rfl, rfl⟩
  go_wp2_with fail
  go_ret
  exact ⟨rfl, S3.out⟩
theorem walk_2o1 (u y z q : Int) (hu : 0 ≤ u) (hu2 : u ≤ 255) (hk : u % 2 = 1)
    (HF : ∀ w, Calls Tryd.prog 11 #[.int .i64 2, .int .i64 y] w fun e w' => e = .returned (.int .i64 q) ∧ w = w')
    (he : (q != 0) = true)
    (W : World) :
    Calls Tryd.prog 6 #[.int .u8 u, .int .i64 y, .int .i64 z] W fun e w' => e = .returned (.bool true) ∧ Below W.heap.size W w' := by
  have S0 := Lib.hid (Below.refl W.heap.size W)
  go_enter Tryd.func6, Tryd.ntmps6
  go_wp2_with fail
  refine (c7awake_any _).mono ?_
  rintro e w1 ⟨rfl, hb1⟩
  have S1 := Lib.hid (below_on S0.out hb1)
  clear hb1
  go_wp2_with fail
  refine (HF _).mono ?_
  rintro e wq ⟨rfl, rfl⟩
  go_wp2_with fail
  refine (c7awake_any _).mono ?_
  rintro e w2 ⟨rfl, hb2⟩
  have S2 := Lib.hid (below_on S1.out hb2)
  clear hb2
  go_wp2_with fail
  go_ret
  exact ⟨rfl, S2.out⟩
theorem walk_2o2 (u y z q : Int) (hu : 0 ≤ u) (hu2 : u ≤ 255) (hk : u % 2 = 1)
    (HF : ∀ w, Calls Tryd.prog 11 #[.int .i64 2, .int .i64 y] w fun e w' => e = .returned (.int .i64 0) ∧ w = w')
    (HF2 : ∀ w, Calls Tryd.prog 11 #[.int .i64 2, .int .i64 z] w fun e w' => e = .returned (.int .i64 q) ∧ w = w')
    (he : (q != 0) = true)
    (W : World) :
    Calls Tryd.prog 6 #[.int .u8 u, .int .i64 y, .int .i64 z] W fun e w' => e = .returned (.bool true) ∧ Below W.heap.size W w' := by
  have S0 := Lib.hid (Below.refl W.heap.size W)
  go_enter Tryd.func6, Tryd.ntmps6
  go_wp2_with fail
  refine (c7awake_any _).mono ?_
  rintro e w1 ⟨rfl, hb1⟩
  have S1 := Lib.hid (below_on S0.out hb1)
  clear hb1
  go_wp2_with fail
  refine (HF _).mono ?_
  rintro e wq ⟨rfl, rfl⟩
  go_wp2_with fail
  refine (HF2 _).mono ?_
  rintro e wq ⟨rfl, rfl⟩
  go_wp2_with fail
  refine (c7awake_any _).mono ?_
  rintro e w2 ⟨rfl, hb2⟩
  have S2 := Lib.hid (below_on S1.out hb2)
  clear hb2
  go_wp2_with fail
  go_ret
  exact ⟨rfl, S2.out⟩
theorem walk_2o3 (u y z : Int) (hu : 0 ≤ u) (hu2 : u ≤ 255) (hk : u % 2 = 1)
    (y1 : 1 ≤ y) (y2 : y ≤ 1000000000) (z1 : 1 ≤ z) (z2 : z ≤ 1000000000)
    (HF : ∀ w, Calls Tryd.prog 11 #[.int .i64 2, .int .i64 y] w fun e w' => e = .returned (.int .i64 0) ∧ w = w')
    (HF2 : ∀ w, Calls Tryd.prog 11 #[.int .i64 2, .int .i64 z] w fun e w' => e = .returned (.int .i64 0) ∧ w = w')
    (p : (y / 100 != z / 100) = true)
    (W : World) :
    Calls Tryd.prog 6 #[.int .u8 u, .int .i64 y, .int .i64 z] W fun e w' => e = .returned (.bool true) ∧ Below W.heap.size W w' := by
  have S0 := Lib.hid (Below.refl W.heap.size W)
  go_enter Tryd.func6, Tryd.ntmps6
  go_wp2_with fail
  refine (c7awake_any _).mono ?_
  rintro e w1 ⟨rfl, hb1⟩
  have S1 := Lib.hid (below_on S0.out hb1)
  clear hb1
  go_wp2_with fail
  refine (HF _).mono ?_
  rintro e wq ⟨rfl, rfl⟩
  go_wp2_with fail
  refine (HF2 _).mono ?_
  rintro e wq ⟨rfl, rfl⟩
  go_wp2_with fail
  refine (c7awake_any _).mono ?_
  rintro e w2 ⟨rfl, hb2⟩
  have S2 := Lib.hid (below_on S1.out hb2)
  clear hb2
  go_wp2_with fail
  go_ret
  exact ⟨rfl, S2.out⟩
theorem walk_2same (u y z a g : Int) (s : ByteArray) (hu : 0 ≤ u) (hu2 : u ≤ 255) (hk : u % 2 = 1)
    (y1 : 1 ≤ y) (y2 : y ≤ 1000000000) (z1 : 1 ≤ z) (z2 : z ≤ 1000000000)
    (HF : ∀ w, Calls Tryd.prog 11 #[.int .i64 2, .int .i64 y] w fun e w' => e = .returned (.int .i64 0) ∧ w = w')
    (HF2 : ∀ w, Calls Tryd.prog 11 #[.int .i64 2, .int .i64 z] w fun e w' => e = .returned (.int .i64 0) ∧ w = w')
    (H1 : ∀ w, Calls Tryd.prog 10 #[.int .i64 2, .int .i64 y] w fun e w' => e = .returned (numv a 0) ∧ Below w.heap.size w w')
    (H2 : ∀ w, Calls Tryd.prog 10 #[.int .i64 2, .int .i64 z] w fun e w' => e = .returned (numv a 0) ∧ Below w.heap.size w w')
    (HG : ∀ w, Calls Tryd.prog 16 #[.int .i64 y] w fun e w' => e = .returned (.int .i64 g) ∧ w = w')
    (HH : ∀ w, Calls Tryd.prog 16 #[.int .i64 z] w fun e w' => e = .returned (.int .i64 g) ∧ w = w')
    (p : (y / 100 != z / 100) = false)
    (N1 : ∀ w, Calls Tryd.prog 12 #[.int .i64 a] w fun e w' => e = .returned (.string s) ∧ w = w')
    (W : World) :
    Calls Tryd.prog 6 #[.int .u8 u, .int .i64 y, .int .i64 z] W fun e w' => e = .returned (.bool true) ∧ Below W.heap.size W w' := by
  have S0 := Lib.hid (Below.refl W.heap.size W)
  go_enter Tryd.func6, Tryd.ntmps6
  go_wp2_with fail
  refine (c7awake_any _).mono ?_
  rintro e w1 ⟨rfl, hb1⟩
  have S1 := Lib.hid (below_on S0.out hb1)
  clear hb1
  go_wp2_with fail
  refine (HF _).mono ?_
  rintro e wq ⟨rfl, rfl⟩
  go_wp2_with fail
  refine (HF2 _).mono ?_
  rintro e wq ⟨rfl, rfl⟩
  go_wp2_with fail
  refine (H1 _).mono ?_
  rintro e w2 ⟨rfl, hb2⟩
  have S2 := Lib.hid (below_on S1.out hb2)
  clear hb2
  go_wp2_with fail
  refine (H2 _).mono ?_
  rintro e w3 ⟨rfl, hb3⟩
  have S3 := Lib.hid (below_on S2.out hb3)
  clear hb3
  go_wp2_with fail
  refine (HG _).mono ?_
  rintro e wq ⟨rfl, rfl⟩
  go_wp2_with fail
  refine (HH _).mono ?_
  rintro e wq ⟨rfl, rfl⟩
  go_wp2_with fail
  refine (N1 _).mono ?_
  rintro e wq ⟨rfl, rfl⟩
  go_wp2_with fail
  refine (N1 _).mono ?_
  rintro e wq ⟨rfl, rfl⟩
  go_wp2_with fail
  go_ret
  exact ⟨rfl, S3.out⟩
theorem walk_2diff (u y z a b g h : Int) (s r : ByteArray) (hu : 0 ≤ u) (hu2 : u ≤ 255) (hk : u % 2 = 1)
    (y1 : 1 ≤ y) (y2 : y ≤ 1000000000) (z1 : 1 ≤ z) (z2 : z ≤ 1000000000)
    (HF : ∀ w, Calls Tryd.prog 11 #[.int .i64 2, .int .i64 y] w fun e w' => e = .returned (.int .i64 0) ∧ w = w')
    (HF2 : ∀ w, Calls Tryd.prog 11 #[.int .i64 2, .int .i64 z] w fun e w' => e = .returned (.int .i64 0) ∧ w = w')
    (H1 : ∀ w, Calls Tryd.prog 10 #[.int .i64 2, .int .i64 y] w fun e w' => e = .returned (numv a 0) ∧ Below w.heap.size w w')
    (H2 : ∀ w, Calls Tryd.prog 10 #[.int .i64 2, .int .i64 z] w fun e w' => e = .returned (numv b 0) ∧ Below w.heap.size w w')
    (HG : ∀ w, Calls Tryd.prog 16 #[.int .i64 y] w fun e w' => e = .returned (.int .i64 g) ∧ w = w')
    (HH : ∀ w, Calls Tryd.prog 16 #[.int .i64 z] w fun e w' => e = .returned (.int .i64 h) ∧ w = w')
    (p : (y / 100 != z / 100) = false)
    (N1 : ∀ w, Calls Tryd.prog 12 #[.int .i64 a] w fun e w' => e = .returned (.string s) ∧ w = w')
    (N2 : ∀ w, Calls Tryd.prog 12 #[.int .i64 b] w fun e w' => e = .returned (.string r) ∧ w = w')
    (d1 : (a == b) = false) (d2 : (g == h) = false) (d3 : (s.toList == r.toList) = false)
    (W : World) :
    Calls Tryd.prog 6 #[.int .u8 u, .int .i64 y, .int .i64 z] W fun e w' => e = .returned (.bool true) ∧ Below W.heap.size W w' := by
  have S0 := Lib.hid (Below.refl W.heap.size W)
  go_enter Tryd.func6, Tryd.ntmps6
  go_wp2_with fail
  refine (c7awake_any _).mono ?_
  rintro e w1 ⟨rfl, hb1⟩
  have S1 := Lib.hid (below_on S0.out hb1)
  clear hb1
  go_wp2_with fail
  refine (HF _).mono ?_
  rintro e wq ⟨rfl, rfl⟩
  go_wp2_with fail
  refine (HF2 _).mono ?_
  rintro e wq ⟨rfl, rfl⟩
  go_wp2_with fail
  refine (H1 _).mono ?_
  rintro e w2 ⟨rfl, hb2⟩
  have S2 := Lib.hid (below_on S1.out hb2)
  clear hb2
  go_wp2_with fail
  refine (H2 _).mono ?_
  rintro e w3 ⟨rfl, hb3⟩
  have S3 := Lib.hid (below_on S2.out hb3)
  clear hb3
  go_wp2_with fail
  refine (HG _).mono ?_
  rintro e wq ⟨rfl, rfl⟩
  go_wp2_with fail
  refine (HH _).mono ?_
  rintro e wq ⟨rfl, rfl⟩
  go_wp2_with fail
  refine (N1 _).mono ?_
  rintro e wq ⟨rfl, rfl⟩
  go_wp2_with fail
  refine (N2 _).mono ?_
  rintro e wq ⟨rfl, rfl⟩
  go_wp2_with fail
  go_ret
  exact ⟨rfl, S3.out⟩
theorem lbl_eq {m n g h : Int} (hg : 1 ≤ g ∧ g ≤ 19) (hh : 1 ≤ h ∧ h ≤ 19) (e : m - n = 11 * (g - h)) : lbl (ep30 m) g = lbl (ep30 n) h ↔ g = h := by
  have q := ep30_eq (m := m) (n := n)
  have bm := ep30_bd m
  have bn := ep30_bd n
  by_cases hgh : g = h
  · have e1 : ep30 m = ep30 n := q.2 (by omega)
    rw [e1, hgh]; exact ⟨fun _ => rfl, fun _ => rfl⟩
  · have e1 : ¬ ep30 m = ep30 n := fun x => by have := q.1 x; omega
    refine ⟨fun x => ?_, fun x => absurd x hgh⟩
    generalize ep30 m = a at *
    generalize ep30 n = b at *
    unfold lbl at x
    split at x <;> split at x <;> omega
theorem jul_lab (y z : Int) : lab 1 y = lab 1 z ↔ gold y = gold z := by
  refine lbl_eq (gold_bd y) (gold_bd z) ?_
  show (11 * gold y - 3) - (11 * gold z - 3) = _
  omega
theorem greg_lab {y z : Int} (h : y / 100 = z / 100) : lab 2 y = lab 2 z ↔ gold y = gold z := by
  refine lbl_eq (gold_bd y) (gold_bd z) ?_
  have e1 : solr z = solr y := by unfold solr cent; rw [h]
  have e2 : lunr z = lunr y := by unfold lunr cent; rw [h]
  show (11 * gold y + 20 + lunr y - solr y) - (11 * gold z + 20 + lunr z - solr z) = _
  rw [e1, e2]; omega
theorem walk (u y z : Int) (w0 : (Lit.int .u8 u).wf = true) (w1 : (Lit.int .i64 y).wf = true) (w2 : (Lit.int .i64 z).wf = true) (W : World) (_ : True) :
    Calls Tryd.prog 6 #[.int .u8 u, .int .i64 y, .int .i64 z] W fun e w' => e = .returned (.bool true) ∧ Below W.heap.size W w' := by
  have hb := bounds_u8 w0
  by_cases hk : u % 2 = 0
  · have HF := fun w => rfail_any 1 y w
    by_cases h : epE 1 y = 0
    · obtain ⟨y1, y2⟩ := epE_inY h
      have HF2 := fun w => rfail_any 1 z w
      rw [h] at HF
      by_cases hz : epE 1 z = 0
      · obtain ⟨z1, z2⟩ := epE_inY hz
        have H1 := fun w => eLab_any 1 y w (by decide)
        have H2 := fun w => eLab_any 1 z w (by decide)
        have HG := fun w => rgold_any y w y1 y2
        have HH := fun w => rgold_any z w z1 z2
        have N1 := fun w => nam_any (lab 1 y) w
        have N2 := fun w => nam_any (lab 1 z) w
        have ab : 1 ≤ lab 1 y ∧ lab 1 y ≤ 31 := lbl_bd (ep30_bd _)
        have bb : 1 ≤ lab 1 z ∧ lab 1 z ≤ 31 := lbl_bd (ep30_bd _)
        rw [(epN_at h).2, h] at H1
        rw [(epN_at hz).2, hz] at H2
        rw [hz] at HF2
        have hq := jul_lab y z
        by_cases hg : gold y = gold z
        · have hl := hq.2 hg
          rw [← hl] at H2
          rw [← hg] at HH
          exact walk_1same u y z _ _ _ hb.1 hb.2 (by omega) y1 y2 z1 z2 HF HF2 H1 H2 HG HH N1 W
        · have hl : ¬ lab 1 y = lab 1 z := fun x => hg (hq.1 x)
          exact walk_1diff u y z _ _ _ _ _ _ hb.1 hb.2 (by omega) y1 y2 z1 z2 HF HF2 H1 H2 HG HH N1 N2 (by rw [beq_eq_false_iff_ne]; exact hl) (by rw [beq_eq_false_iff_ne]; exact hg) (by rw [lnm_beq ab.1 ab.2 bb.1 bb.2]; exact decide_eq_false hl) W
      · exact walk_1o2 u y z _ hb.1 hb.2 (by omega) HF HF2 (by rw [bne_iff_ne]; exact hz) W
    · exact walk_1o1 u y z _ hb.1 hb.2 (by omega) HF (by rw [bne_iff_ne]; exact h) W
  · have HF := fun w => rfail_any 2 y w
    by_cases h : epE 2 y = 0
    · obtain ⟨y1, y2⟩ := epE_inY h
      have HF2 := fun w => rfail_any 2 z w
      rw [h] at HF
      by_cases hz : epE 2 z = 0
      · obtain ⟨z1, z2⟩ := epE_inY hz
        have H1 := fun w => eLab_any 2 y w (by decide)
        have H2 := fun w => eLab_any 2 z w (by decide)
        have HG := fun w => rgold_any y w y1 y2
        have HH := fun w => rgold_any z w z1 z2
        have N1 := fun w => nam_any (lab 2 y) w
        have N2 := fun w => nam_any (lab 2 z) w
        have ab : 1 ≤ lab 2 y ∧ lab 2 y ≤ 31 := lbl_bd (ep30_bd _)
        have bb : 1 ≤ lab 2 z ∧ lab 2 z ≤ 31 := lbl_bd (ep30_bd _)
        rw [(epN_at h).2, h] at H1
        rw [(epN_at hz).2, hz] at H2
        rw [hz] at HF2
        by_cases hc : y / 100 = z / 100
        · have hq := greg_lab hc
          by_cases hg : gold y = gold z
          · have hl := hq.2 hg
            rw [← hl] at H2
            rw [← hg] at HH
            exact walk_2same u y z _ _ _ hb.1 hb.2 (by omega) y1 y2 z1 z2 HF HF2 H1 H2 HG HH (by rw [bne_eq_false_iff_eq]; exact hc) N1 W
          · have hl : ¬ lab 2 y = lab 2 z := fun x => hg (hq.1 x)
            exact walk_2diff u y z _ _ _ _ _ _ hb.1 hb.2 (by omega) y1 y2 z1 z2 HF HF2 H1 H2 HG HH (by rw [bne_eq_false_iff_eq]; exact hc) N1 N2 (by rw [beq_eq_false_iff_ne]; exact hl) (by rw [beq_eq_false_iff_ne]; exact hg) (by rw [lnm_beq ab.1 ab.2 bb.1 bb.2]; exact decide_eq_false hl) W
        · exact walk_2o3 u y z hb.1 hb.2 (by omega) y1 y2 z1 z2 HF HF2 (by rw [bne_iff_ne]; exact hc) W
      · exact walk_2o2 u y z _ hb.1 hb.2 (by omega) HF HF2 (by rw [bne_iff_ne]; exact hz) W
    · exact walk_2o1 u y z _ hb.1 hb.2 (by omega) HF (by rw [bne_iff_ne]; exact h) W

/-! ### the row's step -/
set_option maxRecDepth 100000 in
theorem lifted (os : Os) (started : os.Started) (H : Type) (enc : TypeId × Value → H) :
    ReturnsInHanded {} Tryd.checked os 6 .any (fun w args => (Rows.epactDistinctSpec.pre enc Tryd.prog Tryd.f6 [] false w args ∧ laidMetH Tryd.prog laidL w) ∧ sizedMet enc Tryd.prog Tryd.f6 (OpenSpec.ofChange Rows.epactDistinctSpec) false w args)
      (Rows.epactDistinctSpec.post enc Tryd.prog Tryd.f6 false true false false) := by
  refine returnsInHanded_of_change_and (C := Tryd.checked) (X := fun w _ => laidMetH Tryd.prog laidL w) (fun _ _ _ hh h => h.of_heap hh) own started (by kernel_rfl) Tryd.func6
    (ChangeSpec.witness_shaped (enc := enc) (C := Tryd.checked) (os := os) (X := fun w _ => laidMetH Tryd.prog laidL w) false (World.doorLaid Tryd.prog 400 os) #[.int .u8 0, .int .i64 0, .int .i64 0] 8 rfl (World.shaped_of_RefB (by kernel_rfl) (by kernel_rfl)) (by kernel_rfl) (by kernel_rfl) (by kernel_rfl) (door_met os _)) ?_
  intro W base args ds gs before hval0 hW _ _ hL _
  have hval : ∀ (j : Nat) t v, Tryd.f6.params[j]? = some t → args[j]? = some v → Value.okWide Tryd.prog W .any base t v := hval0
  have hW' := hW
  obtain ⟨p, q, hA0, hV, rfl, hfz, hnd⟩ := hW
  have hA : DataW.TrodAll enc Tryd.prog W 0 (fun _ => true) true Tryd.f6.params.toList args.toList ds p := hA0
  rw [Tryd.params6] at hA hval
  obtain ⟨v0, vs0, d0, ds0, p0, q0, hargs, rfl, rfl, h0, r0⟩ := trodAll_cons hA
  obtain ⟨v1, vs1, d1, ds1, p1, q1, rfl, rfl, rfl, h1, r1⟩ := trodAll_cons r0
  obtain ⟨v2, vs2, d2, ds2, p2, q2, rfl, rfl, rfl, h2, r2⟩ := trodAll_cons r1
  obtain ⟨rfl, rfl, rfl⟩ := trodAll_nil r2
  obtain rfl : args = #[v0, v1, v2] := by cases args; simp_all
  obtain ⟨rfl, rfl⟩ := trodVars_none hV
  obtain ⟨a0, rfl, rfl, rfl, w0⟩ := open_int Tryd.underlying5 (hval 0 5 v0 rfl rfl) h0
  obtain ⟨a1, rfl, rfl, rfl, w1⟩ := open_int Tryd.underlying3 (hval 1 3 v1 rfl rfl) h1
  obtain ⟨a2, rfl, rfl, rfl, w2⟩ := open_int Tryd.underlying3 (hval 2 3 v2 rfl rfl) h2
  clear hA0 hval0
  simp only [List.append_nil] at hW'
  refine (walk a0 a1 a2 w0 w1 w2 W (laid_facts hL)).mono fun e W' ⟨he, bel⟩ => ?_
  subst he
  exact ⟨_, rfl, _, _, _, [], _, [], hW', trodAll_mk1 (shut_bool Tryd.underlying4 _), (trodAll_cons_mk (shut_int Tryd.underlying5 w0) (trodAll_cons_mk (shut_int Tryd.underlying3 w1) (trodAll_cons_mk (shut_int Tryd.underlying3 w2) trodAll_mk0))), rfl, bel.frame _, fun h => by cases h⟩

theorem over : Rows.epactDistinctRow.holds Tryd.pinned (OpenSpec.ofChange Rows.epactDistinctSpec) :=
  OpenClaim.holds_of_wide 6 Tryd.f6 rfl rfl rfl rfl rfl rfl rfl ⟨rfl, rfl, rfl, rfl, rfl⟩ rfl rfl rfl rfl rfl (by kernel_rfl) Tryd.func6 (by kernel_rfl)
    (of_decide_eq_true (by kernel_rfl)) (by unfold Func.isWrapper; first | (rw [if_pos (by decide +kernel)]; kernel_rfl) | (rw [if_neg (by decide +kernel)]; exact ⟨rfl, rfl⟩))
    (fun os started H enc _ => lifted os started H enc)

/-- The statement: the tied card. -/
theorem proved : Rows.EpactDistinctCardSaid :=
  Claim7.holds_tied_plain_at .later [] [.data, .data, .data] true (true, "b963811442bab6dbbb09f52966fa8716103917afb5f51ddd846ef8c60cacc619") false
    over (fun _ h => by cases h) (by kernel_rfl) (fun _ h => by cases h) epactDistinct_row_tie rfl ⟨rfl, rfl⟩ (by kernel_rfl) rfl
    (fun f fn hf hfn => by
      obtain rfl : f = 6 := Option.some.inj ((show Tryd.prog.funcNamed "computus/computuslaw07.EpactDistinct" = some 6 by kernel_rfl).symm.trans hf) |>.symm
      obtain rfl : fn = Tryd.f6 := (Option.some.inj (Tryd.func6.symm.trans hfn)).symm
      exact ⟨by kernel_rfl, fun j t ht => by
        rw [Tryd.params6] at ht
        have hm : t ∈ [5, 3, 3] := by simpa using Array.mem_of_getElem? ht
        have hall : ([5, 3, 3].all fun u => !Tryd.prog.wantsStandIn u) = true := by kernel_rfl
        exact (show Tryd.prog.wantsStandIn t = false by simpa using List.all_eq_true.1 hall t hm)⟩)
    (by kernel_rfl)
#print axioms proved
end Go.Proofs.YtoockmlobpegcaaDoor.epactDistinct
