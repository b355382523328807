/- Proved: for every 64-bit integer year, the law GoldenCorrections of package computuslaw06 (the corrections are constant within a century and grow by 0 or 1 to the next) returns true, and what was in memory is as it was. Condition: the tables of months and groups read as the program's text lays them (the card ties them). -/
import Derived.Test.YtclnpnkjldddcaaDoorDe
import Derived.Test.YtclnpnkjldddcaaDoorVy
import Derived.WalkKit
import Derived.ProofKit
import Derived.OpenShut
import Derived.ShutString
import Derived.Lib.SmallJoins
import Derived.LaidMore
import Derived.Stop.Joined
import Derived.SevenTiedAt
import Derived.Test.YtclnpnkjldddcaaDoorCards
import Derived.Test.YtclnpnkjldddcaaDoorTie
namespace Go.Proofs.YtclnpnkjldddcaaDoor.goldenCorrections
open Go.ChangeShapes Go.WideShapes Go.ChangeAt Go.RowKit Go.Joins
open Go.ChangeMaps (open_string shut_string)
set_option linter.unusedVariables false      -- a walk need not use every fact

theorem walk_lo (y : Int) 
    (h1 : y < 1583)
    (W : World) (ht : CTab W) :
    Calls Tryd.prog 5 #[.int .i64 y] W fun e w' => e = .returned (.bool true) ∧ Below W.heap.size W w' := by
  have S0 := Lib.hid (St.start ht)
  clear ht
  go_enter Tryd.func5, Tryd.ntmps5
  go_wp2_with fail
  refine (c6awake_any _ S0.out.t).mono ?_
  rintro e w1 ⟨rfl, hb1⟩
  have S1 := Lib.hid (S0.out.on hb1)
  clear hb1
  go_wp2_with fail
  refine (c6awake_any _ S1.out.t).mono ?_
  rintro e w2 ⟨rfl, hb2⟩
  have S2 := Lib.hid (S1.out.on hb2)
  clear hb2
  go_wp2_with fail
  go_ret
  exact ⟨rfl, S2.out.b⟩
theorem walk_hi (y : Int) 
    (h1 : ¬ y < 1583) (h2 : 999999800 < y)
    (W : World) (ht : CTab W) :
    Calls Tryd.prog 5 #[.int .i64 y] W fun e w' => e = .returned (.bool true) ∧ Below W.heap.size W w' := by
  have S0 := Lib.hid (St.start ht)
  clear ht
  go_enter Tryd.func5, Tryd.ntmps5
  go_wp2_with fail
  refine (c6awake_any _ S0.out.t).mono ?_
  rintro e w1 ⟨rfl, hb1⟩
  have S1 := Lib.hid (S0.out.on hb1)
  clear hb1
  go_wp2_with fail
  refine (c6awake_any _ S1.out.t).mono ?_
  rintro e w2 ⟨rfl, hb2⟩
  have S2 := Lib.hid (S1.out.on hb2)
  clear hb2
  go_wp2_with fail
  go_ret
  exact ⟨rfl, S2.out.b⟩
theorem walk_00 (y a c : Int) 
    (h1 : 1583 ≤ y) (h2 : y ≤ 999999800) (a1 : 0 ≤ a) (a2 : a ≤ 10000000) (c1 : 0 ≤ c) (c2 : c ≤ 10000000) (q1 : 0 ≤ y / 100) (q2 : y / 100 ≤ 10000000)
    (H1 : ∀ w, Calls Tryd.prog 11 #[.int .i64 y] w fun e w' => e = .returned (numv a 0) ∧ Below w.heap.size w w')
    (H2 : ∀ w, Calls Tryd.prog 11 #[.int .i64 (y / 100 * 100 + 100)] w fun e w' => e = .returned (numv a 0) ∧ Below w.heap.size w w')
    (H3 : ∀ w, Calls Tryd.prog 12 #[.int .i64 y] w fun e w' => e = .returned (numv c 0) ∧ Below w.heap.size w w')
    (H4 : ∀ w, Calls Tryd.prog 12 #[.int .i64 (y / 100 * 100 + 100)] w fun e w' => e = .returned (numv c 0) ∧ Below w.heap.size w w')
    (H5 : ∀ w, Calls Tryd.prog 11 #[.int .i64 (y / 100 * 100 + 199)] w fun e w' => e = .returned (numv a 0) ∧ Below w.heap.size w w')
    (H6 : ∀ w, Calls Tryd.prog 12 #[.int .i64 (y / 100 * 100 + 199)] w fun e w' => e = .returned (numv c 0) ∧ Below w.heap.size w w')
    (HL : ∀ w, Calls Tryd.prog 22 #[.int .i64 2, .int .i64 (y / 100 * 100 + 100)] w fun e w' => e = .returned (.bool true) ∧ w = w')
    (W : World) (ht : CTab W) :
    Calls Tryd.prog 5 #[.int .i64 y] W fun e w' => e = .returned (.bool true) ∧ Below W.heap.size W w' := by
  have S0 := Lib.hid (St.start ht)
  clear ht
  go_enter Tryd.func5, Tryd.ntmps5
  go_wp2_with fail
  refine (c6awake_any _ S0.out.t).mono ?_
  rintro e w1 ⟨rfl, hb1⟩
  have S1 := Lib.hid (S0.out.on hb1)
  clear hb1
  go_wp2_with fail
  refine (H1 _).mono ?_
  rintro e w2 ⟨rfl, hb2⟩
  have S2 := Lib.hid (S1.out.on hb2)
  clear hb2
  go_wp2_with fail
  refine (H2 _).mono ?_
  rintro e w3 ⟨rfl, hb3⟩
  have S3 := Lib.hid (S2.out.on hb3)
  clear hb3
  go_wp2_with fail
  refine (H3 _).mono ?_
  rintro e w4 ⟨rfl, hb4⟩
  have S4 := Lib.hid (S3.out.on hb4)
  clear hb4
  go_wp2_with fail
  refine (H4 _).mono ?_
  rintro e w5 ⟨rfl, hb5⟩
  have S5 := Lib.hid (S4.out.on hb5)
  clear hb5
  go_wp2_with fail
  refine (H5 _).mono ?_
  rintro e w6 ⟨rfl, hb6⟩
  have S6 := Lib.hid (S5.out.on hb6)
  clear hb6
  go_wp2_with fail
  refine (H6 _).mono ?_
  rintro e w7 ⟨rfl, hb7⟩
  have S7 := Lib.hid (S6.out.on hb7)
  clear hb7
  go_wp2_with (go_at_call 22; refine (HL _).mono ?_; rintro e w' ⟨rfl, rfl⟩)
  go_ret
  exact ⟨rfl, S7.out.b⟩
theorem walk_01 (y a c : Int) 
    (h1 : 1583 ≤ y) (h2 : y ≤ 999999800) (a1 : 0 ≤ a) (a2 : a ≤ 10000000) (c1 : 0 ≤ c) (c2 : c ≤ 10000000) (q1 : 0 ≤ y / 100) (q2 : y / 100 ≤ 10000000)
    (H1 : ∀ w, Calls Tryd.prog 11 #[.int .i64 y] w fun e w' => e = .returned (numv a 0) ∧ Below w.heap.size w w')
    (H2 : ∀ w, Calls Tryd.prog 11 #[.int .i64 (y / 100 * 100 + 100)] w fun e w' => e = .returned (numv a 0) ∧ Below w.heap.size w w')
    (H3 : ∀ w, Calls Tryd.prog 12 #[.int .i64 y] w fun e w' => e = .returned (numv c 0) ∧ Below w.heap.size w w')
    (H4 : ∀ w, Calls Tryd.prog 12 #[.int .i64 (y / 100 * 100 + 100)] w fun e w' => e = .returned (numv (c + 1) 0) ∧ Below w.heap.size w w')
    (H5 : ∀ w, Calls Tryd.prog 11 #[.int .i64 (y / 100 * 100 + 199)] w fun e w' => e = .returned (numv a 0) ∧ Below w.heap.size w w')
    (H6 : ∀ w, Calls Tryd.prog 12 #[.int .i64 (y / 100 * 100 + 199)] w fun e w' => e = .returned (numv (c + 1) 0) ∧ Below w.heap.size w w')
    (HL : ∀ w, Calls Tryd.prog 22 #[.int .i64 2, .int .i64 (y / 100 * 100 + 100)] w fun e w' => e = .returned (.bool true) ∧ w = w')
    (W : World) (ht : CTab W) :
    Calls Tryd.prog 5 #[.int .i64 y] W fun e w' => e = .returned (.bool true) ∧ Below W.heap.size W w' := by
  have S0 := Lib.hid (St.start ht)
  clear ht
  go_enter Tryd.func5, Tryd.ntmps5
  go_wp2_with fail
  refine (c6awake_any _ S0.out.t).mono ?_
  rintro e w1 ⟨rfl, hb1⟩
  have S1 := Lib.hid (S0.out.on hb1)
  clear hb1
  go_wp2_with fail
  refine (H1 _).mono ?_
  rintro e w2 ⟨rfl, hb2⟩
  have S2 := Lib.hid (S1.out.on hb2)
  clear hb2
  go_wp2_with fail
  refine (H2 _).mono ?_
  rintro e w3 ⟨rfl, hb3⟩
  have S3 := Lib.hid (S2.out.on hb3)
  clear hb3
  go_wp2_with fail
  refine (H3 _).mono ?_
  rintro e w4 ⟨rfl, hb4⟩
  have S4 := Lib.hid (S3.out.on hb4)
  clear hb4
  go_wp2_with fail
  refine (H4 _).mono ?_
  rintro e w5 ⟨rfl, hb5⟩
  have S5 := Lib.hid (S4.out.on hb5)
  clear hb5
  go_wp2_with fail
  refine (H5 _).mono ?_
  rintro e w6 ⟨rfl, hb6⟩
  have S6 := Lib.hid (S5.out.on hb6)
  clear hb6
  go_wp2_with fail
  refine (H6 _).mono ?_
  rintro e w7 ⟨rfl, hb7⟩
  have S7 := Lib.hid (S6.out.on hb7)
  clear hb7
  go_wp2_with (go_at_call 22; refine (HL _).mono ?_; rintro e w' ⟨rfl, rfl⟩)
  go_ret
  exact ⟨rfl, S7.out.b⟩
theorem walk_10 (y a c : Int) 
    (h1 : 1583 ≤ y) (h2 : y ≤ 999999800) (a1 : 0 ≤ a) (a2 : a ≤ 10000000) (c1 : 0 ≤ c) (c2 : c ≤ 10000000) (q1 : 0 ≤ y / 100) (q2 : y / 100 ≤ 10000000)
    (H1 : ∀ w, Calls Tryd.prog 11 #[.int .i64 y] w fun e w' => e = .returned (numv a 0) ∧ Below w.heap.size w w')
    (H2 : ∀ w, Calls Tryd.prog 11 #[.int .i64 (y / 100 * 100 + 100)] w fun e w' => e = .returned (numv (a + 1) 0) ∧ Below w.heap.size w w')
    (H3 : ∀ w, Calls Tryd.prog 12 #[.int .i64 y] w fun e w' => e = .returned (numv c 0) ∧ Below w.heap.size w w')
    (H4 : ∀ w, Calls Tryd.prog 12 #[.int .i64 (y / 100 * 100 + 100)] w fun e w' => e = .returned (numv c 0) ∧ Below w.heap.size w w')
    (H5 : ∀ w, Calls Tryd.prog 11 #[.int .i64 (y / 100 * 100 + 199)] w fun e w' => e = .returned (numv (a + 1) 0) ∧ Below w.heap.size w w')
    (H6 : ∀ w, Calls Tryd.prog 12 #[.int .i64 (y / 100 * 100 + 199)] w fun e w' => e = .returned (numv c 0) ∧ Below w.heap.size w w')
    (HL : ∀ w, Calls Tryd.prog 22 #[.int .i64 2, .int .i64 (y / 100 * 100 + 100)] w fun e w' => e = .returned (.bool false) ∧ w = w')
    (W : World) (ht : CTab W) :
    Calls Tryd.prog 5 #[.int .i64 y] W fun e w' => e = .returned (.bool true) ∧ Below W.heap.size W w' := by
  have S0 := Lib.hid (St.start ht)
  clear ht
  go_enter Tryd.func5, Tryd.ntmps5
  go_wp2_with fail
  refine (c6awake_any _ S0.out.t).mono ?_
  rintro e w1 ⟨rfl, hb1⟩
  have S1 := Lib.hid (S0.out.on hb1)
  clear hb1
  go_wp2_with fail
  refine (H1 _).mono ?_
  rintro e w2 ⟨rfl, hb2⟩
  have S2 := Lib.hid (S1.out.on hb2)
  clear hb2
  go_wp2_with fail
  refine (H2 _).mono ?_
  rintro e w3 ⟨rfl, hb3⟩
  have S3 := Lib.hid (S2.out.on hb3)
  clear hb3
  go_wp2_with fail
  refine (H3 _).mono ?_
  rintro e w4 ⟨rfl, hb4⟩
  have S4 := Lib.hid (S3.out.on hb4)
  clear hb4
  go_wp2_with fail
  refine (H4 _).mono ?_
  rintro e w5 ⟨rfl, hb5⟩
  have S5 := Lib.hid (S4.out.on hb5)
  clear hb5
  go_wp2_with fail
  refine (H5 _).mono ?_
  rintro e w6 ⟨rfl, hb6⟩
  have S6 := Lib.hid (S5.out.on hb6)
  clear hb6
  go_wp2_with fail
  refine (H6 _).mono ?_
  rintro e w7 ⟨rfl, hb7⟩
  have S7 := Lib.hid (S6.out.on hb7)
  clear hb7
  go_wp2_with (go_at_call 22; refine (HL _).mono ?_; rintro e w' ⟨rfl, rfl⟩)
  go_ret
  exact ⟨rfl, S7.out.b⟩
theorem walk_11 (y a c : Int) 
    (h1 : 1583 ≤ y) (h2 : y ≤ 999999800) (a1 : 0 ≤ a) (a2 : a ≤ 10000000) (c1 : 0 ≤ c) (c2 : c ≤ 10000000) (q1 : 0 ≤ y / 100) (q2 : y / 100 ≤ 10000000)
    (H1 : ∀ w, Calls Tryd.prog 11 #[.int .i64 y] w fun e w' => e = .returned (numv a 0) ∧ Below w.heap.size w w')
    (H2 : ∀ w, Calls Tryd.prog 11 #[.int .i64 (y / 100 * 100 + 100)] w fun e w' => e = .returned (numv (a + 1) 0) ∧ Below w.heap.size w w')
    (H3 : ∀ w, Calls Tryd.prog 12 #[.int .i64 y] w fun e w' => e = .returned (numv c 0) ∧ Below w.heap.size w w')
    (H4 : ∀ w, Calls Tryd.prog 12 #[.int .i64 (y / 100 * 100 + 100)] w fun e w' => e = .returned (numv (c + 1) 0) ∧ Below w.heap.size w w')
    (H5 : ∀ w, Calls Tryd.prog 11 #[.int .i64 (y / 100 * 100 + 199)] w fun e w' => e = .returned (numv (a + 1) 0) ∧ Below w.heap.size w w')
    (H6 : ∀ w, Calls Tryd.prog 12 #[.int .i64 (y / 100 * 100 + 199)] w fun e w' => e = .returned (numv (c + 1) 0) ∧ Below w.heap.size w w')
    (HL : ∀ w, Calls Tryd.prog 22 #[.int .i64 2, .int .i64 (y / 100 * 100 + 100)] w fun e w' => e = .returned (.bool false) ∧ w = w')
    (W : World) (ht : CTab W) :
    Calls Tryd.prog 5 #[.int .i64 y] W fun e w' => e = .returned (.bool true) ∧ Below W.heap.size W w' := by
  have S0 := Lib.hid (St.start ht)
  clear ht
  go_enter Tryd.func5, Tryd.ntmps5
  go_wp2_with fail
  refine (c6awake_any _ S0.out.t).mono ?_
  rintro e w1 ⟨rfl, hb1⟩
  have S1 := Lib.hid (S0.out.on hb1)
  clear hb1
  go_wp2_with fail
  refine (H1 _).mono ?_
  rintro e w2 ⟨rfl, hb2⟩
  have S2 := Lib.hid (S1.out.on hb2)
  clear hb2
  go_wp2_with fail
  refine (H2 _).mono ?_
  rintro e w3 ⟨rfl, hb3⟩
  have S3 := Lib.hid (S2.out.on hb3)
  clear hb3
  go_wp2_with fail
  refine (H3 _).mono ?_
  rintro e w4 ⟨rfl, hb4⟩
  have S4 := Lib.hid (S3.out.on hb4)
  clear hb4
  go_wp2_with fail
  refine (H4 _).mono ?_
  rintro e w5 ⟨rfl, hb5⟩
  have S5 := Lib.hid (S4.out.on hb5)
  clear hb5
  go_wp2_with fail
  refine (H5 _).mono ?_
  rintro e w6 ⟨rfl, hb6⟩
  have S6 := Lib.hid (S5.out.on hb6)
  clear hb6
  go_wp2_with fail
  refine (H6 _).mono ?_
  rintro e w7 ⟨rfl, hb7⟩
  have S7 := Lib.hid (S6.out.on hb7)
  clear hb7
  go_wp2_with (go_at_call 22; refine (HL _).mono ?_; rintro e w' ⟨rfl, rfl⟩)
  go_ret
  exact ⟨rfl, S7.out.b⟩
theorem solr_at {y a : Int} (h1 : 1583 ≤ y) (h2 : y ≤ 1000000000) (h : solr y = a) : vB (inG y) (solr y) = a ∧ eB (inG y) = 0 := by
  rw [inG_iff.2 ⟨h1, h2⟩]; exact ⟨h, rfl⟩
theorem lunr_at {y a : Int} (h1 : 1583 ≤ y) (h2 : y ≤ 1000000000) (h : lunr y = a) : vB (inG y) (lunr y) = a ∧ eB (inG y) = 0 := by
  rw [inG_iff.2 ⟨h1, h2⟩]; exact ⟨h, rfl⟩
theorem HS {y a : Int} (h1 : 1583 ≤ y) (h2 : y ≤ 1000000000) (h : solr y = a) : ∀ w, Calls Tryd.prog 11 #[.int .i64 y] w fun e w' => e = .returned (numv a 0) ∧ Below w.heap.size w w' := fun w => by
  have := gsolr_any y w
  obtain ⟨e1, e2⟩ := solr_at h1 h2 h
  rw [e1, e2] at this; exact this
theorem HU {y a : Int} (h1 : 1583 ≤ y) (h2 : y ≤ 1000000000) (h : lunr y = a) : ∀ w, Calls Tryd.prog 12 #[.int .i64 y] w fun e w' => e = .returned (numv a 0) ∧ Below w.heap.size w w' := fun w => by
  have := glunr_any y w
  obtain ⟨e1, e2⟩ := lunr_at h1 h2 h
  rw [e1, e2] at this; exact this
theorem sol_same {c : Int} (h : c % 4 = 0) : 3 * (c + 1) / 4 - 12 = 3 * c / 4 - 12 := by omega
theorem sol_one {c : Int} (h : ¬ c % 4 = 0) : 3 * (c + 1) / 4 - 12 = 3 * c / 4 - 12 + 1 := by
  have : c % 4 = 1 ∨ c % 4 = 2 ∨ c % 4 = 3 := by omega
  rcases this with g | g | g <;> omega
theorem lun_one {c : Int} (h : ¬ (8 * (c + 1) + 5) / 25 = (8 * c + 5) / 25) : (8 * (c + 1) + 5) / 25 - 5 = (8 * c + 5) / 25 - 5 + 1 := by omega
theorem cent_next {y : Int} : cent (y / 100 * 100 + 100) = cent y + 1 ∧ cent (y / 100 * 100 + 199) = cent y + 1 := by unfold cent; omega
theorem glp_next {y : Int} : glp (y / 100 * 100 + 100) = decide (cent y % 4 = 0) := by
  rw [Bool.eq_iff_iff, glp_iff, decide_eq_true_iff]; unfold cent; omega
theorem walk (y : Int) (w0 : (Lit.int .i64 y).wf = true) (W : World) (ht : CTab W) :
    Calls Tryd.prog 5 #[.int .i64 y] W fun e w' => e = .returned (.bool true) ∧ Below W.heap.size W w' := by
  rcases Int.lt_or_le y 1583 with h1 | h1
  · exact walk_lo y h1 W ht
  · rcases Int.lt_or_le 999999800 y with h2 | h2
    · exact walk_hi y (by omega) h2 W ht
    · obtain ⟨a1, a2⟩ := solr_bd h1 (show y ≤ 1000000000 by omega)
      obtain ⟨c1, c2⟩ := lunr_bd h1 (show y ≤ 1000000000 by omega)
      obtain ⟨n1, n2⟩ := cent_next (y := y)
      by_cases hs : cent y % 4 = 0
      · by_cases hl : (8 * (cent y + 1) + 5) / 25 = (8 * cent y + 5) / 25
        · refine walk_00 y (solr y) (lunr y) h1 h2 a1 a2 c1 c2 (by omega) (by omega) (HS h1 (by omega) rfl) (HS (by omega) (by omega) ?_) (HU h1 (by omega) rfl) (HU (by omega) (by omega) ?_) (HS (by omega) (by omega) ?_) (HU (by omega) (by omega) ?_) (fun w => ?_) W ht
          · unfold solr; rw [n1]; exact sol_same hs
          · unfold lunr; rw [n1]; rw [hl]
          · unfold solr; rw [n2]; exact sol_same hs
          · unfold lunr; rw [n2]; rw [hl]
          · have := r5lp2 (y / 100 * 100 + 100) w (inR_iff.2 (by omega))
            rw [glp_next, decide_eq_true (by omega)] at this; exact this
        · refine walk_01 y (solr y) (lunr y) h1 h2 a1 a2 c1 c2 (by omega) (by omega) (HS h1 (by omega) rfl) (HS (by omega) (by omega) ?_) (HU h1 (by omega) rfl) (HU (by omega) (by omega) ?_) (HS (by omega) (by omega) ?_) (HU (by omega) (by omega) ?_) (fun w => ?_) W ht
          · unfold solr; rw [n1]; exact sol_same hs
          · unfold lunr; rw [n1]; exact lun_one hl
          · unfold solr; rw [n2]; exact sol_same hs
          · unfold lunr; rw [n2]; exact lun_one hl
          · have := r5lp2 (y / 100 * 100 + 100) w (inR_iff.2 (by omega))
            rw [glp_next, decide_eq_true (by omega)] at this; exact this
      · by_cases hl : (8 * (cent y + 1) + 5) / 25 = (8 * cent y + 5) / 25
        · refine walk_10 y (solr y) (lunr y) h1 h2 a1 a2 c1 c2 (by omega) (by omega) (HS h1 (by omega) rfl) (HS (by omega) (by omega) ?_) (HU h1 (by omega) rfl) (HU (by omega) (by omega) ?_) (HS (by omega) (by omega) ?_) (HU (by omega) (by omega) ?_) (fun w => ?_) W ht
          · unfold solr; rw [n1]; exact sol_one hs
          · unfold lunr; rw [n1]; rw [hl]
          · unfold solr; rw [n2]; exact sol_one hs
          · unfold lunr; rw [n2]; rw [hl]
          · have := r5lp2 (y / 100 * 100 + 100) w (inR_iff.2 (by omega))
            rw [glp_next, decide_eq_false (by omega)] at this; exact this
        · refine walk_11 y (solr y) (lunr y) h1 h2 a1 a2 c1 c2 (by omega) (by omega) (HS h1 (by omega) rfl) (HS (by omega) (by omega) ?_) (HU h1 (by omega) rfl) (HU (by omega) (by omega) ?_) (HS (by omega) (by omega) ?_) (HU (by omega) (by omega) ?_) (fun w => ?_) W ht
          · unfold solr; rw [n1]; exact sol_one hs
          · unfold lunr; rw [n1]; exact lun_one hl
          · unfold solr; rw [n2]; exact sol_one hs
          · unfold lunr; rw [n2]; exact lun_one hl
          · have := r5lp2 (y / 100 * 100 + 100) w (inR_iff.2 (by omega))
            rw [glp_next, decide_eq_false (by omega)] at this; exact this

/-! ### the row's step -/
set_option maxRecDepth 100000 in
theorem lifted (os : Os) (started : os.Started) (H : Type) (enc : TypeId × Value → H) :
    ReturnsInHanded {} Tryd.checked os 5 .any (fun w args => (Rows.goldenCorrectionsSpec.pre enc Tryd.prog Tryd.f5 [] false w args ∧ laidMetH Tryd.prog laidL w) ∧ sizedMet enc Tryd.prog Tryd.f5 (OpenSpec.ofChange Rows.goldenCorrectionsSpec) false w args)
      (Rows.goldenCorrectionsSpec.post enc Tryd.prog Tryd.f5 false true false false) := by
  refine returnsInHanded_of_change_and (C := Tryd.checked) (X := fun w _ => laidMetH Tryd.prog laidL w) (fun _ _ _ hh h => h.of_heap hh) own started (by kernel_rfl) Tryd.func5
    (ChangeSpec.witness_shaped (enc := enc) (C := Tryd.checked) (os := os) (X := fun w _ => laidMetH Tryd.prog laidL w) false (World.doorLaid Tryd.prog 400 os) #[.int .i64 0] 8 rfl (World.shaped_of_RefB (by kernel_rfl) (by kernel_rfl)) (by kernel_rfl) (by kernel_rfl) (by kernel_rfl) (door_met os _)) ?_
  intro W base args ds gs before hval0 hW _ _ hL _
  have hval : ∀ (j : Nat) t v, Tryd.f5.params[j]? = some t → args[j]? = some v → Value.okWide Tryd.prog W .any base t v := hval0
  have hW' := hW
  obtain ⟨p, q, hA0, hV, rfl, hfz, hnd⟩ := hW
  have hA : DataW.TrodAll enc Tryd.prog W 0 (fun _ => true) true Tryd.f5.params.toList args.toList ds p := hA0
  rw [Tryd.params5] at hA hval
  obtain ⟨v0, vs0, d0, ds0, p0, q0, hargs, rfl, rfl, h0, r0⟩ := trodAll_cons hA
  obtain ⟨rfl, rfl, rfl⟩ := trodAll_nil r0
  obtain rfl : args = #[v0] := by cases args; simp_all
  obtain ⟨rfl, rfl⟩ := trodVars_none hV
  obtain ⟨a0, rfl, rfl, rfl, w0⟩ := open_int Tryd.underlying3 (hval 0 3 v0 rfl rfl) h0
  clear hA0 hval0
  simp only [List.append_nil] at hW'
  refine (walk a0 w0 W (laid_facts hL)).mono fun e W' ⟨he, bel⟩ => ?_
  subst he
  exact ⟨_, rfl, _, _, _, [], _, [], hW', trodAll_mk1 (shut_bool Tryd.underlying4 _), (trodAll_cons_mk (shut_int Tryd.underlying3 w0) trodAll_mk0), rfl, bel.frame _, fun h => by cases h⟩

theorem over : Rows.goldenCorrectionsRow.holds Tryd.pinned (OpenSpec.ofChange Rows.goldenCorrectionsSpec) :=
  OpenClaim.holds_of_wide 5 Tryd.f5 rfl rfl rfl rfl rfl rfl rfl ⟨rfl, rfl, rfl, rfl, rfl⟩ rfl rfl rfl rfl rfl (by kernel_rfl) Tryd.func5 (by kernel_rfl)
    (of_decide_eq_true (by kernel_rfl)) (by unfold Func.isWrapper; first | (rw [if_pos (by decide +kernel)]; kernel_rfl) | (rw [if_neg (by decide +kernel)]; exact ⟨rfl, rfl⟩))
    (fun os started H enc _ => lifted os started H enc)

/-- The statement: the tied card. -/
theorem proved : Rows.GoldenCorrectionsCardSaid :=
  Claim7.holds_tied_plain_at .later [] [.data, .data, .data] true (true, "bff6ddbdc39f65526b6d7b9580cc599cc37756fb6942dc449d115ae4e50ae4ed") false
    over (fun _ h => by cases h) (by kernel_rfl) (fun _ h => by cases h) goldenCorrections_row_tie rfl ⟨rfl, rfl⟩ (by kernel_rfl) rfl
    (fun f fn hf hfn => by
      obtain rfl : f = 5 := Option.some.inj ((show Tryd.prog.funcNamed "computus/computuslaw06.GoldenCorrections" = some 5 by kernel_rfl).symm.trans hf) |>.symm
      obtain rfl : fn = Tryd.f5 := (Option.some.inj (Tryd.func5.symm.trans hfn)).symm
      exact ⟨by kernel_rfl, fun j t ht => by
        rw [Tryd.params5] at ht
        have hm : t ∈ [3] := by simpa using Array.mem_of_getElem? ht
        have hall : ([3].all fun u => !Tryd.prog.wantsStandIn u) = true := by kernel_rfl
        exact (show Tryd.prog.wantsStandIn t = false by simpa using List.all_eq_true.1 hall t hm)⟩)
    (by kernel_rfl)
#print axioms proved
end Go.Proofs.YtclnpnkjldddcaaDoor.goldenCorrections
