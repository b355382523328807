/- Proved: for every two 64-bit integers and every string, the law WeekdayNames of package computuslaw04 (the days of the week have different names, by which they are found; no other string is a name) returns true, and what was in memory is as it was. Condition: the table of names of package weekday reads as the program's text lays it (the card ties it). -/
import Derived.Test.YtbnhbejmlfjnhaaDoorWg
import Derived.Test.YtbnhbejmlfjnhaaDoorWy
import Derived.WalkKit
import Derived.ProofKit
import Derived.OpenShut
import Derived.ShutString
import Derived.Lib.SmallJoins
import Derived.LaidMore
import Derived.Stop.Joined
import Derived.SevenTiedAt
import Derived.Test.YtbnhbejmlfjnhaaDoorCards
import Derived.Test.YtbnhbejmlfjnhaaDoorTie
namespace Go.Proofs.YtbnhbejmlfjnhaaDoor.weekdayNames
open Go.ChangeShapes Go.WideShapes Go.ChangeAt Go.RowKit Go.Joins
open Go.ChangeMaps (open_string shut_string)
set_option linter.unusedVariables false      -- a walk need not use every fact

theorem walk_long (a b : Int) (s : ByteArray) (h : 1000 < (s.size : Int)) (W : World) (ht : WTab W) :
    Calls Tryd.prog 7 #[.int .i64 a, .int .i64 b, .string s] W fun e w' => e = .returned (.bool true) ∧ Below W.heap.size W w' := by
  have S0 := Lib.hid (And.intro ht (Below.refl W.heap.size W))
  clear ht
  go_enter Tryd.func7, Tryd.ntmps7
  go_wp2_with fail
  refine (wawake_any _ S0.out.1).mono ?_
  rintro e w1 ⟨rfl, hb1⟩
  have S1 := Lib.hid (And.intro (S0.out.1.on hb1) (below_on S0.out.2 hb1))
  clear hb1
  go_wp2_with fail
  refine (wawake_any _ S1.out.1).mono ?_
  rintro e w2 ⟨rfl, hb2⟩
  have S2 := Lib.hid (And.intro (S1.out.1.on hb2) (below_on S1.out.2 hb2))
  clear hb2
  go_wp2_with fail
  go_ret
  exact ⟨rfl, S2.out.2⟩
theorem walk_f1r1 (a b : Int) (Y : ByteArray) (s : ByteArray) (hs : (s.size : Int) ≤ 1000) (ha : a < 0) 
    (H1 : ∀ w, WTab w → Calls Tryd.prog 17 #[.int .i64 a] w fun e w' => e = .returned (.string ⟨#[]⟩) ∧ w = w')
    (H2 : ∀ w, WTab w → Calls Tryd.prog 17 #[.int .i64 b] w fun e w' => e = .returned (.string Y) ∧ w = w')
    (H4 : ∀ w, WTab w → Calls Tryd.prog 19 #[.string s] w fun e w' => e = .returned (.int .i64 (-1)) ∧ w = w')
    (W : World) (ht : WTab W) :
    Calls Tryd.prog 7 #[.int .i64 a, .int .i64 b, .string s] W fun e w' => e = .returned (.bool true) ∧ Below W.heap.size W w' := by
  have S0 := Lib.hid (And.intro ht (Below.refl W.heap.size W))
  clear ht
  go_enter Tryd.func7, Tryd.ntmps7
  go_wp2_with fail
  refine (wawake_any _ S0.out.1).mono ?_
  rintro e w1 ⟨rfl, hb1⟩
  have S1 := Lib.hid (And.intro (S0.out.1.on hb1) (below_on S0.out.2 hb1))
  clear hb1
  go_wp2_with fail
  refine (H1 _ S1.out.1).mono ?_
  rintro e wq ⟨rfl, rfl⟩
  go_wp2_with fail
  refine (H2 _ S1.out.1).mono ?_
  rintro e wq ⟨rfl, rfl⟩
  go_wp2_with fail
  refine (H4 _ S1.out.1).mono ?_
  rintro e wq ⟨rfl, rfl⟩
  go_wp2_with fail
  go_ret
  exact ⟨rfl, S1.out.2⟩
theorem walk_f1r2 (a b : Int) (Y : ByteArray) (s : ByteArray) (K : Int) (hs : (s.size : Int) ≤ 1000) (ha : a < 0) (k1 : 0 ≤ K) (k2 : K ≤ 6)
    (H1 : ∀ w, WTab w → Calls Tryd.prog 17 #[.int .i64 a] w fun e w' => e = .returned (.string ⟨#[]⟩) ∧ w = w')
    (H2 : ∀ w, WTab w → Calls Tryd.prog 17 #[.int .i64 b] w fun e w' => e = .returned (.string Y) ∧ w = w')
    (H4 : ∀ w, WTab w → Calls Tryd.prog 19 #[.string s] w fun e w' => e = .returned (.int .i64 K) ∧ w = w')
    (H5 : ∀ w, WTab w → Calls Tryd.prog 17 #[.int .i64 K] w fun e w' => e = .returned (.string s) ∧ w = w')
    (W : World) (ht : WTab W) :
    Calls Tryd.prog 7 #[.int .i64 a, .int .i64 b, .string s] W fun e w' => e = .returned (.bool true) ∧ Below W.heap.size W w' := by
  have ek : (K == -1) = false := by rw [beq_eq_false_iff_ne]; omega
  have S0 := Lib.hid (And.intro ht (Below.refl W.heap.size W))
  clear ht
  go_enter Tryd.func7, Tryd.ntmps7
  go_wp2_with fail
  refine (wawake_any _ S0.out.1).mono ?_
  rintro e w1 ⟨rfl, hb1⟩
  have S1 := Lib.hid (And.intro (S0.out.1.on hb1) (below_on S0.out.2 hb1))
  clear hb1
  go_wp2_with fail
  refine (H1 _ S1.out.1).mono ?_
  rintro e wq ⟨rfl, rfl⟩
  go_wp2_with fail
  refine (H2 _ S1.out.1).mono ?_
  rintro e wq ⟨rfl, rfl⟩
  go_wp2_with fail
  refine (H4 _ S1.out.1).mono ?_
  rintro e wq ⟨rfl, rfl⟩
  go_wp2_with fail
  refine (H5 _ S1.out.1).mono ?_
  rintro e wq ⟨rfl, rfl⟩
  go_wp2_with fail
  go_ret
  exact ⟨rfl, S1.out.2⟩
theorem walk_f2r1 (a b : Int) (Y : ByteArray) (s : ByteArray) (hs : (s.size : Int) ≤ 1000) (ha : 0 ≤ a) (hb : 6 < a) 
    (H1 : ∀ w, WTab w → Calls Tryd.prog 17 #[.int .i64 a] w fun e w' => e = .returned (.string ⟨#[]⟩) ∧ w = w')
    (H2 : ∀ w, WTab w → Calls Tryd.prog 17 #[.int .i64 b] w fun e w' => e = .returned (.string Y) ∧ w = w')
    (H4 : ∀ w, WTab w → Calls Tryd.prog 19 #[.string s] w fun e w' => e = .returned (.int .i64 (-1)) ∧ w = w')
    (W : World) (ht : WTab W) :
    Calls Tryd.prog 7 #[.int .i64 a, .int .i64 b, .string s] W fun e w' => e = .returned (.bool true) ∧ Below W.heap.size W w' := by
  have S0 := Lib.hid (And.intro ht (Below.refl W.heap.size W))
  clear ht
  go_enter Tryd.func7, Tryd.ntmps7
  go_wp2_with fail
  refine (wawake_any _ S0.out.1).mono ?_
  rintro e w1 ⟨rfl, hb1⟩
  have S1 := Lib.hid (And.intro (S0.out.1.on hb1) (below_on S0.out.2 hb1))
  clear hb1
  go_wp2_with fail
  refine (H1 _ S1.out.1).mono ?_
  rintro e wq ⟨rfl, rfl⟩
  go_wp2_with fail
  refine (H2 _ S1.out.1).mono ?_
  rintro e wq ⟨rfl, rfl⟩
  go_wp2_with fail
  refine (H4 _ S1.out.1).mono ?_
  rintro e wq ⟨rfl, rfl⟩
  go_wp2_with fail
  go_ret
  exact ⟨rfl, S1.out.2⟩
theorem walk_f2r2 (a b : Int) (Y : ByteArray) (s : ByteArray) (K : Int) (hs : (s.size : Int) ≤ 1000) (ha : 0 ≤ a) (hb : 6 < a) (k1 : 0 ≤ K) (k2 : K ≤ 6)
    (H1 : ∀ w, WTab w → Calls Tryd.prog 17 #[.int .i64 a] w fun e w' => e = .returned (.string ⟨#[]⟩) ∧ w = w')
    (H2 : ∀ w, WTab w → Calls Tryd.prog 17 #[.int .i64 b] w fun e w' => e = .returned (.string Y) ∧ w = w')
    (H4 : ∀ w, WTab w → Calls Tryd.prog 19 #[.string s] w fun e w' => e = .returned (.int .i64 K) ∧ w = w')
    (H5 : ∀ w, WTab w → Calls Tryd.prog 17 #[.int .i64 K] w fun e w' => e = .returned (.string s) ∧ w = w')
    (W : World) (ht : WTab W) :
    Calls Tryd.prog 7 #[.int .i64 a, .int .i64 b, .string s] W fun e w' => e = .returned (.bool true) ∧ Below W.heap.size W w' := by
  have ek : (K == -1) = false := by rw [beq_eq_false_iff_ne]; omega
  have S0 := Lib.hid (And.intro ht (Below.refl W.heap.size W))
  clear ht
  go_enter Tryd.func7, Tryd.ntmps7
  go_wp2_with fail
  refine (wawake_any _ S0.out.1).mono ?_
  rintro e w1 ⟨rfl, hb1⟩
  have S1 := Lib.hid (And.intro (S0.out.1.on hb1) (below_on S0.out.2 hb1))
  clear hb1
  go_wp2_with fail
  refine (H1 _ S1.out.1).mono ?_
  rintro e wq ⟨rfl, rfl⟩
  go_wp2_with fail
  refine (H2 _ S1.out.1).mono ?_
  rintro e wq ⟨rfl, rfl⟩
  go_wp2_with fail
  refine (H4 _ S1.out.1).mono ?_
  rintro e wq ⟨rfl, rfl⟩
  go_wp2_with fail
  refine (H5 _ S1.out.1).mono ?_
  rintro e wq ⟨rfl, rfl⟩
  go_wp2_with fail
  go_ret
  exact ⟨rfl, S1.out.2⟩
theorem walk_f3r1 (a b : Int) (X Y : ByteArray) (s : ByteArray) (hs : (s.size : Int) ≤ 1000) (ha : 0 ≤ a) (hb : a ≤ 6) (hx : X.toList.isEmpty = false) (hxy : (X.toList == Y.toList) = false) 
    (H1 : ∀ w, WTab w → Calls Tryd.prog 17 #[.int .i64 a] w fun e w' => e = .returned (.string X) ∧ w = w')
    (H2 : ∀ w, WTab w → Calls Tryd.prog 17 #[.int .i64 b] w fun e w' => e = .returned (.string Y) ∧ w = w')
    (H3 : ∀ w, WTab w → Calls Tryd.prog 19 #[.string X] w fun e w' => e = .returned (.int .i64 a) ∧ w = w')
    (H4 : ∀ w, WTab w → Calls Tryd.prog 19 #[.string s] w fun e w' => e = .returned (.int .i64 (-1)) ∧ w = w')
    (W : World) (ht : WTab W) :
    Calls Tryd.prog 7 #[.int .i64 a, .int .i64 b, .string s] W fun e w' => e = .returned (.bool true) ∧ Below W.heap.size W w' := by
  have S0 := Lib.hid (And.intro ht (Below.refl W.heap.size W))
  clear ht
  go_enter Tryd.func7, Tryd.ntmps7
  go_wp2_with fail
  refine (wawake_any _ S0.out.1).mono ?_
  rintro e w1 ⟨rfl, hb1⟩
  have S1 := Lib.hid (And.intro (S0.out.1.on hb1) (below_on S0.out.2 hb1))
  clear hb1
  go_wp2_with fail
  refine (H1 _ S1.out.1).mono ?_
  rintro e wq ⟨rfl, rfl⟩
  go_wp2_with fail
  refine (H2 _ S1.out.1).mono ?_
  rintro e wq ⟨rfl, rfl⟩
  go_wp2_with fail
  refine (H3 _ S1.out.1).mono ?_
  rintro e wq ⟨rfl, rfl⟩
  go_wp2_with fail
  refine (H4 _ S1.out.1).mono ?_
  rintro e wq ⟨rfl, rfl⟩
  go_wp2_with fail
  go_ret
  exact ⟨rfl, S1.out.2⟩
theorem walk_f3r2 (a b : Int) (X Y : ByteArray) (s : ByteArray) (K : Int) (hs : (s.size : Int) ≤ 1000) (ha : 0 ≤ a) (hb : a ≤ 6) (hx : X.toList.isEmpty = false) (hxy : (X.toList == Y.toList) = false) (k1 : 0 ≤ K) (k2 : K ≤ 6)
    (H1 : ∀ w, WTab w → Calls Tryd.prog 17 #[.int .i64 a] w fun e w' => e = .returned (.string X) ∧ w = w')
    (H2 : ∀ w, WTab w → Calls Tryd.prog 17 #[.int .i64 b] w fun e w' => e = .returned (.string Y) ∧ w = w')
    (H3 : ∀ w, WTab w → Calls Tryd.prog 19 #[.string X] w fun e w' => e = .returned (.int .i64 a) ∧ w = w')
    (H4 : ∀ w, WTab w → Calls Tryd.prog 19 #[.string s] w fun e w' => e = .returned (.int .i64 K) ∧ w = w')
    (H5 : ∀ w, WTab w → Calls Tryd.prog 17 #[.int .i64 K] w fun e w' => e = .returned (.string s) ∧ w = w')
    (W : World) (ht : WTab W) :
    Calls Tryd.prog 7 #[.int .i64 a, .int .i64 b, .string s] W fun e w' => e = .returned (.bool true) ∧ Below W.heap.size W w' := by
  have ek : (K == -1) = false := by rw [beq_eq_false_iff_ne]; omega
  have S0 := Lib.hid (And.intro ht (Below.refl W.heap.size W))
  clear ht
  go_enter Tryd.func7, Tryd.ntmps7
  go_wp2_with fail
  refine (wawake_any _ S0.out.1).mono ?_
  rintro e w1 ⟨rfl, hb1⟩
  have S1 := Lib.hid (And.intro (S0.out.1.on hb1) (below_on S0.out.2 hb1))
  clear hb1
  go_wp2_with fail
  refine (H1 _ S1.out.1).mono ?_
  rintro e wq ⟨rfl, rfl⟩
  go_wp2_with fail
  refine (H2 _ S1.out.1).mono ?_
  rintro e wq ⟨rfl, rfl⟩
  go_wp2_with fail
  refine (H3 _ S1.out.1).mono ?_
  rintro e wq ⟨rfl, rfl⟩
  go_wp2_with fail
  refine (H4 _ S1.out.1).mono ?_
  rintro e wq ⟨rfl, rfl⟩
  go_wp2_with fail
  refine (H5 _ S1.out.1).mono ?_
  rintro e wq ⟨rfl, rfl⟩
  go_wp2_with fail
  go_ret
  exact ⟨rfl, S1.out.2⟩
theorem walk_f4r1 (a : Int) (X : ByteArray) (s : ByteArray) (hs : (s.size : Int) ≤ 1000) (ha : 0 ≤ a) (hb : a ≤ 6) (hx : X.toList.isEmpty = false) 
    (H1 : ∀ w, WTab w → Calls Tryd.prog 17 #[.int .i64 a] w fun e w' => e = .returned (.string X) ∧ w = w')
    (H3 : ∀ w, WTab w → Calls Tryd.prog 19 #[.string X] w fun e w' => e = .returned (.int .i64 a) ∧ w = w')
    (H4 : ∀ w, WTab w → Calls Tryd.prog 19 #[.string s] w fun e w' => e = .returned (.int .i64 (-1)) ∧ w = w')
    (W : World) (ht : WTab W) :
    Calls Tryd.prog 7 #[.int .i64 a, .int .i64 a, .string s] W fun e w' => e = .returned (.bool true) ∧ Below W.heap.size W w' := by
  have S0 := Lib.hid (And.intro ht (Below.refl W.heap.size W))
  clear ht
  go_enter Tryd.func7, Tryd.ntmps7
  go_wp2_with fail
  refine (wawake_any _ S0.out.1).mono ?_
  rintro e w1 ⟨rfl, hb1⟩
  have S1 := Lib.hid (And.intro (S0.out.1.on hb1) (below_on S0.out.2 hb1))
  clear hb1
  go_wp2_with fail
  refine (H1 _ S1.out.1).mono ?_
  rintro e wq ⟨rfl, rfl⟩
  go_wp2_with fail
  refine (H1 _ S1.out.1).mono ?_
  rintro e wq ⟨rfl, rfl⟩
  go_wp2_with fail
  refine (H3 _ S1.out.1).mono ?_
  rintro e wq ⟨rfl, rfl⟩
  go_wp2_with fail
  refine (H4 _ S1.out.1).mono ?_
  rintro e wq ⟨rfl, rfl⟩
  go_wp2_with fail
  go_ret
  exact ⟨rfl, S1.out.2⟩
theorem walk_f4r2 (a : Int) (X : ByteArray) (s : ByteArray) (K : Int) (hs : (s.size : Int) ≤ 1000) (ha : 0 ≤ a) (hb : a ≤ 6) (hx : X.toList.isEmpty = false) (k1 : 0 ≤ K) (k2 : K ≤ 6)
    (H1 : ∀ w, WTab w → Calls Tryd.prog 17 #[.int .i64 a] w fun e w' => e = .returned (.string X) ∧ w = w')
    (H3 : ∀ w, WTab w → Calls Tryd.prog 19 #[.string X] w fun e w' => e = .returned (.int .i64 a) ∧ w = w')
    (H4 : ∀ w, WTab w → Calls Tryd.prog 19 #[.string s] w fun e w' => e = .returned (.int .i64 K) ∧ w = w')
    (H5 : ∀ w, WTab w → Calls Tryd.prog 17 #[.int .i64 K] w fun e w' => e = .returned (.string s) ∧ w = w')
    (W : World) (ht : WTab W) :
    Calls Tryd.prog 7 #[.int .i64 a, .int .i64 a, .string s] W fun e w' => e = .returned (.bool true) ∧ Below W.heap.size W w' := by
  have ek : (K == -1) = false := by rw [beq_eq_false_iff_ne]; omega
  have S0 := Lib.hid (And.intro ht (Below.refl W.heap.size W))
  clear ht
  go_enter Tryd.func7, Tryd.ntmps7
  go_wp2_with fail
  refine (wawake_any _ S0.out.1).mono ?_
  rintro e w1 ⟨rfl, hb1⟩
  have S1 := Lib.hid (And.intro (S0.out.1.on hb1) (below_on S0.out.2 hb1))
  clear hb1
  go_wp2_with fail
  refine (H1 _ S1.out.1).mono ?_
  rintro e wq ⟨rfl, rfl⟩
  go_wp2_with fail
  refine (H1 _ S1.out.1).mono ?_
  rintro e wq ⟨rfl, rfl⟩
  go_wp2_with fail
  refine (H3 _ S1.out.1).mono ?_
  rintro e wq ⟨rfl, rfl⟩
  go_wp2_with fail
  refine (H4 _ S1.out.1).mono ?_
  rintro e wq ⟨rfl, rfl⟩
  go_wp2_with fail
  refine (H5 _ S1.out.1).mono ?_
  rintro e wq ⟨rfl, rfl⟩
  go_wp2_with fail
  go_ret
  exact ⟨rfl, S1.out.2⟩
theorem walk (a b : Int) (s : ByteArray) (w0 : (Lit.int .i64 a).wf = true) (w1 : (Lit.int .i64 b).wf = true) (w2 : s.size ≤ maxLen) (W : World) (ht : WTab W) :
    Calls Tryd.prog 7 #[.int .i64 a, .int .i64 b, .string s] W fun e w' => e = .returned (.bool true) ∧ Below W.heap.size W w' := by
  by_cases hs : 1000 < (s.size : Int)
  · exact walk_long a b s hs W ht
  · have hs : (s.size : Int) ≤ 1000 := by omega
    have H1 := fun w (ht : WTab w) => name_any a w ht
    have H2 := fun w (ht : WTab w) => name_any b w ht
    have H4 := fun w (ht : WTab w) => find_any s w ht
    have HK := fnd_facts s
    have H5 := fun w (ht : WTab w) => name_any (fnd0 s) w ht
    rcases HK with hk | ⟨k1, k2, k3⟩
    · rw [hk] at H4
      by_cases g1 : a < 0
      · rw [nm_out (by omega)] at H1; exact walk_f1r1 a b _ s hs g1 H1 H2 H4 W ht
      · by_cases g2 : 6 < a
        · rw [nm_out (by omega)] at H1; exact walk_f2r1 a b _ s hs (by omega) g2 H1 H2 H4 W ht
        · obtain ⟨f1, f2⟩ := nm_facts a (by omega) (by omega)
          have H3 := fun w (ht : WTab w) => find_any (nm a) w ht
          rw [f2] at H3
          cases hx : ((nm a).toList == (nm b).toList)
          · exact walk_f3r1 a b _ _ s hs (by omega) (by omega) f1 hx H1 H2 H3 H4 W ht
          · obtain rfl := nm_inj a b (by omega) (by omega) hx
            exact walk_f4r1 a _ s hs (by omega) (by omega) f1 H1 H3 H4 W ht
    · rw [k3] at H5
      by_cases g1 : a < 0
      · rw [nm_out (by omega)] at H1; exact walk_f1r2 a b _ s _ hs g1 k1 k2 H1 H2 H4 H5 W ht
      · by_cases g2 : 6 < a
        · rw [nm_out (by omega)] at H1; exact walk_f2r2 a b _ s _ hs (by omega) g2 k1 k2 H1 H2 H4 H5 W ht
        · obtain ⟨f1, f2⟩ := nm_facts a (by omega) (by omega)
          have H3 := fun w (ht : WTab w) => find_any (nm a) w ht
          rw [f2] at H3
          cases hx : ((nm a).toList == (nm b).toList)
          · exact walk_f3r2 a b _ _ s _ hs (by omega) (by omega) f1 hx k1 k2 H1 H2 H3 H4 H5 W ht
          · obtain rfl := nm_inj a b (by omega) (by omega) hx
            exact walk_f4r2 a _ s _ hs (by omega) (by omega) f1 k1 k2 H1 H3 H4 H5 W ht

/-! ### the row's step -/
set_option maxRecDepth 100000 in
theorem lifted (os : Os) (started : os.Started) (H : Type) (enc : TypeId × Value → H) :
    ReturnsInHanded {} Tryd.checked os 7 .any (fun w args => (Rows.weekdayNamesSpec.pre enc Tryd.prog Tryd.f7 [] false w args ∧ laidMetH Tryd.prog laidL w) ∧ sizedMet enc Tryd.prog Tryd.f7 (OpenSpec.ofChange Rows.weekdayNamesSpec) false w args)
      (Rows.weekdayNamesSpec.post enc Tryd.prog Tryd.f7 false true false false) := by
  refine returnsInHanded_of_change_and (C := Tryd.checked) (X := fun w _ => laidMetH Tryd.prog laidL w) (fun _ _ _ hh h => h.of_heap hh) own started (by kernel_rfl) Tryd.func7
    (ChangeSpec.witness_shaped (enc := enc) (C := Tryd.checked) (os := os) (X := fun w _ => laidMetH Tryd.prog laidL w) false (World.doorLaid Tryd.prog 400 os) #[.int .i64 0, .int .i64 0, .string ByteArray.empty] 8 rfl (World.shaped_of_RefB (by kernel_rfl) (by kernel_rfl)) (by kernel_rfl) (by kernel_rfl) (by kernel_rfl) (door_met os _)) ?_
  intro W base args ds gs before hval0 hW _ _ hL _
  have hval : ∀ (j : Nat) t v, Tryd.f7.params[j]? = some t → args[j]? = some v → Value.okWide Tryd.prog W .any base t v := hval0
  have hW' := hW
  obtain ⟨p, q, hA0, hV, rfl, hfz, hnd⟩ := hW
  have hA : DataW.TrodAll enc Tryd.prog W 0 (fun _ => true) true Tryd.f7.params.toList args.toList ds p := hA0
  rw [Tryd.params7] at hA hval
  obtain ⟨v0, vs0, d0, ds0, p0, q0, hargs, rfl, rfl, h0, r0⟩ := trodAll_cons hA
  obtain ⟨v1, vs1, d1, ds1, p1, q1, rfl, rfl, rfl, h1, r1⟩ := trodAll_cons r0
  obtain ⟨v2, vs2, d2, ds2, p2, q2, rfl, rfl, rfl, h2, r2⟩ := trodAll_cons r1
  obtain ⟨rfl, rfl, rfl⟩ := trodAll_nil r2
  obtain rfl : args = #[v0, v1, v2] := by cases args; simp_all
  obtain ⟨rfl, rfl⟩ := trodVars_none hV
  obtain ⟨a0, rfl, rfl, rfl, w0⟩ := open_int Tryd.underlying3 (hval 0 3 v0 rfl rfl) h0
  obtain ⟨a1, rfl, rfl, rfl, w1⟩ := open_int Tryd.underlying3 (hval 1 3 v1 rfl rfl) h1
  obtain ⟨a2, rfl, rfl, rfl, w2⟩ := open_string Tryd.underlying9 (hval 2 9 v2 rfl rfl) h2
  clear hA0 hval0
  simp only [List.append_nil] at hW'
  refine (walk a0 a1 a2 w0 w1 w2 W (laid_facts hL)).mono fun e W' ⟨he, bel⟩ => ?_
  subst he
  exact ⟨_, rfl, _, _, _, [], _, [], hW', trodAll_mk1 (shut_bool Tryd.underlying4 _), (trodAll_cons_mk (shut_int Tryd.underlying3 w0) (trodAll_cons_mk (shut_int Tryd.underlying3 w1) (trodAll_cons_mk (shut_string Tryd.underlying9 w2) trodAll_mk0))), rfl, bel.frame _, fun h => by cases h⟩

theorem over : Rows.weekdayNamesRow.holds Tryd.pinned (OpenSpec.ofChange Rows.weekdayNamesSpec) :=
  OpenClaim.holds_of_wide 7 Tryd.f7 rfl rfl rfl rfl rfl rfl rfl ⟨rfl, rfl, rfl, rfl, rfl⟩ rfl rfl rfl rfl rfl (by kernel_rfl) Tryd.func7 (by kernel_rfl)
    (of_decide_eq_true (by kernel_rfl)) (by unfold Func.isWrapper; first | (rw [if_pos (by decide +kernel)]; kernel_rfl) | (rw [if_neg (by decide +kernel)]; exact ⟨rfl, rfl⟩))
    (fun os started H enc _ => lifted os started H enc)

/-- The statement: the tied card. -/
theorem proved : Rows.WeekdayNamesCardSaid :=
  Claim7.holds_tied_plain_at .later [] [.data] true (true, "cf2f788374238d4a1d1cfc0760a351a645c0ad2efe73362c2e1334ead92a925a") false
    over (fun _ h => by cases h) (by kernel_rfl) (fun _ h => by cases h) weekdayNames_row_tie rfl ⟨rfl, rfl⟩ (by kernel_rfl) rfl
    (fun f fn hf hfn => by
      obtain rfl : f = 7 := Option.some.inj ((show Tryd.prog.funcNamed "computus/computuslaw04.WeekdayNames" = some 7 by kernel_rfl).symm.trans hf) |>.symm
      obtain rfl : fn = Tryd.f7 := (Option.some.inj (Tryd.func7.symm.trans hfn)).symm
      exact ⟨by kernel_rfl, fun j t ht => by
        rw [Tryd.params7] at ht
        have hm : t ∈ [3, 3, 9] := by simpa using Array.mem_of_getElem? ht
        have hall : ([3, 3, 9].all fun u => !Tryd.prog.wantsStandIn u) = true := by kernel_rfl
        exact (show Tryd.prog.wantsStandIn t = false by simpa using List.all_eq_true.1 hall t hm)⟩)
    (by kernel_rfl)
#print axioms proved
end Go.Proofs.YtbnhbejmlfjnhaaDoor.weekdayNames
