/- Proved: for every date and every number, the law GregorianRoundTrip of package computuslaw03 (the date of the number of a valid date is that date, and the number of the date of a number is that number) returns true, and what was in memory is as it was. Condition: the two tables of package gregorian (the lengths of the months, the groups of years) read as the program's text lays them (the card ties them). -/
import Derived.Test.YthhegcjmlpekbaaDoorGg
import Derived.Test.YthhegcjmlpekbaaDoorGy
import Derived.WalkKit
import Derived.ProofKit
import Derived.OpenShut
import Derived.ShutString
import Derived.Lib.SmallJoins
import Derived.LaidMore
import Derived.Stop.Joined
import Derived.SevenTiedAt
import Derived.Test.YthhegcjmlpekbaaDoorCards
import Derived.Test.YthhegcjmlpekbaaDoorTie
namespace Go.Proofs.YthhegcjmlpekbaaDoor.gregorianRoundTrip
open Go.ChangeShapes Go.WideShapes Go.ChangeAt Go.RowKit Go.Joins
open Go.ChangeMaps (open_string shut_string)
set_option linter.unusedVariables false      -- a walk need not use every fact

theorem walk_00 (y m d n : Int) (R E : Int) (hE : (E == 0) = false) (ha : ∀ w, GTab w → Calls Tryd.prog 10 #[.agg #[.int .i64 y, .int .i64 m, .int .i64 d]] w fun e w' => e = .returned (.tuple #[.int .i64 R, .int .i64 E]) ∧ Below w.heap.size w w') (hn : ∀ w, Calls Tryd.prog 12 #[.int .i64 n] w fun e w' => e = .returned (.tuple #[.agg #[.int .i64 0, .int .i64 0, .int .i64 0], .int .i64 1]) ∧ Below w.heap.size w w') (W : World) (ht : GTab W) :
    Calls Tryd.prog 4 #[.agg #[.int .i64 y, .int .i64 m, .int .i64 d], .int .i64 n] W fun e w' => e = .returned (.bool true) ∧ Below W.heap.size W w' := by
  have Ht0 := Lib.hid (ht.al (Obj.cells #[Value.int IntKind.i64 y, Value.int IntKind.i64 m, Value.int IntKind.i64 d] 23))
  clear ht
  go_enter Tryd.func4, Tryd.ntmps4
  go_wp2_with fail
  refine (gawake_any _ Ht0.out).mono ?_
  rintro e w1 ⟨rfl, hb1⟩
  have Ht1 := Lib.hid (Ht0.out.on hb1)
  obtain ⟨hc1, hf1⟩ := bcell hb1
  have Hb1 := Lib.hid hb1
  have hk1 : W.heap.size < w1.heap.size := by have := hb1.size; (try simp at this); omega
  clear hb1
  go_wp2_with fail
  refine (ha _ Ht1.out).mono ?_
  rintro e w2 ⟨rfl, hb2⟩
  have Ht2 := Lib.hid (Ht1.out.on hb2)
  obtain ⟨hc2, hf2⟩ := bcell hb2
  have Hb2 := Lib.hid hb2
  have hk2 : W.heap.size < w2.heap.size := by have := hb2.size; (try simp at this); omega
  clear hb2
  go_wp2_with fail
  refine (hn _).mono ?_
  rintro e w3 ⟨rfl, hb3⟩
  have Hb3 := Lib.hid hb3
  have hk3 : W.heap.size < w3.heap.size := by have := hb3.size; (try simp at this); omega
  clear hb3
  have B : Hid (Below W.heap.size W w3) := ((((Below.refl _ _).alloc (Nat.le_refl _) _).trans (Hb1.out.mono (by simp))).trans (Hb2.out.mono (by omega))).trans (Hb3.out.mono (by (try simp); omega))
  go_wp2
  go_ret
  exact ⟨rfl, B.out.alloc (Nat.le_of_lt hk3) _⟩

theorem walk_01 (y m d n : Int) (R E : Int) (hE : (E == 0) = false) (ha : ∀ w, GTab w → Calls Tryd.prog 10 #[.agg #[.int .i64 y, .int .i64 m, .int .i64 d]] w fun e w' => e = .returned (.tuple #[.int .i64 R, .int .i64 E]) ∧ Below w.heap.size w w') (y2 m2 d2 : Int) (hn : ∀ w, GTab w → Calls Tryd.prog 12 #[.int .i64 n] w fun e w' => e = .returned (.tuple #[.agg #[.int .i64 y2, .int .i64 m2, .int .i64 d2], .int .i64 0]) ∧ Below w.heap.size w w') (ht2 : ∀ w, GTab w → Calls Tryd.prog 10 #[.agg #[.int .i64 y2, .int .i64 m2, .int .i64 d2]] w fun e w' => e = .returned (.tuple #[.int .i64 n, .int .i64 0]) ∧ Below w.heap.size w w') (hv2 : ∀ w, GTab w → Calls Tryd.prog 21 #[.agg #[.int .i64 y2, .int .i64 m2, .int .i64 d2]] w fun e w' => e = .returned (.bool true) ∧ Below w.heap.size w w') (W : World) (ht : GTab W) :
    Calls Tryd.prog 4 #[.agg #[.int .i64 y, .int .i64 m, .int .i64 d], .int .i64 n] W fun e w' => e = .returned (.bool true) ∧ Below W.heap.size W w' := by
  have Ht0 := Lib.hid (ht.al (Obj.cells #[Value.int IntKind.i64 y, Value.int IntKind.i64 m, Value.int IntKind.i64 d] 23))
  clear ht
  go_enter Tryd.func4, Tryd.ntmps4
  go_wp2_with fail
  refine (gawake_any _ Ht0.out).mono ?_
  rintro e w1 ⟨rfl, hb1⟩
  have Ht1 := Lib.hid (Ht0.out.on hb1)
  obtain ⟨hc1, hf1⟩ := bcell hb1
  have Hb1 := Lib.hid hb1
  have hk1 : W.heap.size < w1.heap.size := by have := hb1.size; (try simp at this); omega
  clear hb1
  go_wp2_with fail
  refine (ha _ Ht1.out).mono ?_
  rintro e w2 ⟨rfl, hb2⟩
  have Ht2 := Lib.hid (Ht1.out.on hb2)
  obtain ⟨hc2, hf2⟩ := bcell hb2
  have Hb2 := Lib.hid hb2
  have hk2 : W.heap.size < w2.heap.size := by have := hb2.size; (try simp at this); omega
  clear hb2
  go_wp2_with fail
  refine (hn _ Ht2.out).mono ?_
  rintro e w3 ⟨rfl, hb3⟩
  have Ht3 := Lib.hid (Ht2.out.on hb3)
  obtain ⟨hc3, hf3⟩ := bcell hb3
  have Hb3 := Lib.hid hb3
  have hk3 : W.heap.size < w3.heap.size := by have := hb3.size; (try simp at this); omega
  clear hb3
  have B : Hid (Below W.heap.size W w3) := ((((Below.refl _ _).alloc (Nat.le_refl _) _).trans (Hb1.out.mono (by simp))).trans (Hb2.out.mono (by omega))).trans (Hb3.out.mono (by (try simp); omega))
  have Ht3 := Lib.hid (Ht3.out.al (Obj.cells #[Value.int IntKind.i64 y2, Value.int IntKind.i64 m2, Value.int IntKind.i64 d2] 23))
  have B := Lib.hid (B.out.alloc (o := Obj.cells #[Value.int IntKind.i64 y2, Value.int IntKind.i64 m2, Value.int IntKind.i64 d2] 23) (Nat.le_of_lt hk3))
  go_wp2_with fail
  refine (ht2 _ Ht3.out).mono ?_
  rintro e w4 ⟨rfl, hb4⟩
  have hj4 : w3.heap.size < w4.heap.size := by have := hb4.size; simp at this; omega
  have Ht4 := Lib.hid (Ht3.out.on hb4)
  obtain ⟨hc4, hf4⟩ := bcell hb4
  have Hb4 := Lib.hid hb4
  have hk4 : W.heap.size < w4.heap.size := by have := hb4.size; (try simp at this); omega
  clear hb4
  have B := Lib.hid (below_on B.out Hb4.out)
  go_wp2_with fail
  refine (hv2 _ Ht4.out).mono ?_
  rintro e w5 ⟨rfl, hb5⟩
  have B := Lib.hid (below_on B.out hb5)
  clear hb5
  go_wp2
  go_ret
  exact ⟨rfl, B.out⟩

theorem walk_10 (y m d n : Int) (R : Int) (ha : ∀ w, GTab w → Calls Tryd.prog 10 #[.agg #[.int .i64 y, .int .i64 m, .int .i64 d]] w fun e w' => e = .returned (.tuple #[.int .i64 R, .int .i64 0]) ∧ Below w.heap.size w w') (hx : ∀ w, GTab w → Calls Tryd.prog 12 #[.int .i64 R] w fun e w' => e = .returned (.tuple #[.agg #[.int .i64 y, .int .i64 m, .int .i64 d], .int .i64 0]) ∧ Below w.heap.size w w') (hn : ∀ w, Calls Tryd.prog 12 #[.int .i64 n] w fun e w' => e = .returned (.tuple #[.agg #[.int .i64 0, .int .i64 0, .int .i64 0], .int .i64 1]) ∧ Below w.heap.size w w') (W : World) (ht : GTab W) :
    Calls Tryd.prog 4 #[.agg #[.int .i64 y, .int .i64 m, .int .i64 d], .int .i64 n] W fun e w' => e = .returned (.bool true) ∧ Below W.heap.size W w' := by
  have Ht0 := Lib.hid (ht.al (Obj.cells #[Value.int IntKind.i64 y, Value.int IntKind.i64 m, Value.int IntKind.i64 d] 23))
  clear ht
  go_enter Tryd.func4, Tryd.ntmps4
  go_wp2_with fail
  refine (gawake_any _ Ht0.out).mono ?_
  rintro e w1 ⟨rfl, hb1⟩
  have Ht1 := Lib.hid (Ht0.out.on hb1)
  obtain ⟨hc1, hf1⟩ := bcell hb1
  have Hb1 := Lib.hid hb1
  have hk1 : W.heap.size < w1.heap.size := by have := hb1.size; (try simp at this); omega
  clear hb1
  go_wp2_with fail
  refine (ha _ Ht1.out).mono ?_
  rintro e w2 ⟨rfl, hb2⟩
  have Ht2 := Lib.hid (Ht1.out.on hb2)
  obtain ⟨hc2, hf2⟩ := bcell hb2
  have Hb2 := Lib.hid hb2
  have hk2 : W.heap.size < w2.heap.size := by have := hb2.size; (try simp at this); omega
  clear hb2
  go_wp2_with fail
  refine (hx _ Ht2.out).mono ?_
  rintro e w3 ⟨rfl, hb3⟩
  have Ht3 := Lib.hid (Ht2.out.on hb3)
  obtain ⟨hc3, hf3⟩ := bcell hb3
  have Hb3 := Lib.hid hb3
  have hk3 : W.heap.size < w3.heap.size := by have := hb3.size; (try simp at this); omega
  clear hb3
  have Ht3 := Lib.hid (Ht3.out.al (Obj.cells #[Value.int IntKind.i64 y, Value.int IntKind.i64 m, Value.int IntKind.i64 d] 23))
  go_wp2_with fail
  refine (hn _).mono ?_
  rintro e w4 ⟨rfl, hb4⟩
  have Hb4 := Lib.hid hb4
  have hk4 : W.heap.size < w4.heap.size := by have := hb4.size; (try simp at this); omega
  clear hb4
  have B : Hid (Below W.heap.size W w4) := ((((((Below.refl _ _).alloc (Nat.le_refl _) _).trans (Hb1.out.mono (by simp))).trans (Hb2.out.mono (by omega))).trans (Hb3.out.mono (by omega))).alloc (by omega) _).trans (Hb4.out.mono (by (try simp); omega))
  go_wp2
  go_ret
  exact ⟨rfl, B.out.alloc (Nat.le_of_lt hk4) _⟩

theorem walk_11 (y m d n : Int) (R : Int) (ha : ∀ w, GTab w → Calls Tryd.prog 10 #[.agg #[.int .i64 y, .int .i64 m, .int .i64 d]] w fun e w' => e = .returned (.tuple #[.int .i64 R, .int .i64 0]) ∧ Below w.heap.size w w') (hx : ∀ w, GTab w → Calls Tryd.prog 12 #[.int .i64 R] w fun e w' => e = .returned (.tuple #[.agg #[.int .i64 y, .int .i64 m, .int .i64 d], .int .i64 0]) ∧ Below w.heap.size w w') (y2 m2 d2 : Int) (hn : ∀ w, GTab w → Calls Tryd.prog 12 #[.int .i64 n] w fun e w' => e = .returned (.tuple #[.agg #[.int .i64 y2, .int .i64 m2, .int .i64 d2], .int .i64 0]) ∧ Below w.heap.size w w') (ht2 : ∀ w, GTab w → Calls Tryd.prog 10 #[.agg #[.int .i64 y2, .int .i64 m2, .int .i64 d2]] w fun e w' => e = .returned (.tuple #[.int .i64 n, .int .i64 0]) ∧ Below w.heap.size w w') (hv2 : ∀ w, GTab w → Calls Tryd.prog 21 #[.agg #[.int .i64 y2, .int .i64 m2, .int .i64 d2]] w fun e w' => e = .returned (.bool true) ∧ Below w.heap.size w w') (W : World) (ht : GTab W) :
    Calls Tryd.prog 4 #[.agg #[.int .i64 y, .int .i64 m, .int .i64 d], .int .i64 n] W fun e w' => e = .returned (.bool true) ∧ Below W.heap.size W w' := by
  have Ht0 := Lib.hid (ht.al (Obj.cells #[Value.int IntKind.i64 y, Value.int IntKind.i64 m, Value.int IntKind.i64 d] 23))
  clear ht
  go_enter Tryd.func4, Tryd.ntmps4
  go_wp2_with fail
  refine (gawake_any _ Ht0.out).mono ?_
  rintro e w1 ⟨rfl, hb1⟩
  have Ht1 := Lib.hid (Ht0.out.on hb1)
  obtain ⟨hc1, hf1⟩ := bcell hb1
  have Hb1 := Lib.hid hb1
  have hk1 : W.heap.size < w1.heap.size := by have := hb1.size; (try simp at this); omega
  clear hb1
  go_wp2_with fail
  refine (ha _ Ht1.out).mono ?_
  rintro e w2 ⟨rfl, hb2⟩
  have Ht2 := Lib.hid (Ht1.out.on hb2)
  obtain ⟨hc2, hf2⟩ := bcell hb2
  have Hb2 := Lib.hid hb2
  have hk2 : W.heap.size < w2.heap.size := by have := hb2.size; (try simp at this); omega
  clear hb2
  go_wp2_with fail
  refine (hx _ Ht2.out).mono ?_
  rintro e w3 ⟨rfl, hb3⟩
  have Ht3 := Lib.hid (Ht2.out.on hb3)
  obtain ⟨hc3, hf3⟩ := bcell hb3
  have Hb3 := Lib.hid hb3
  have hk3 : W.heap.size < w3.heap.size := by have := hb3.size; (try simp at this); omega
  clear hb3
  have Ht3 := Lib.hid (Ht3.out.al (Obj.cells #[Value.int IntKind.i64 y, Value.int IntKind.i64 m, Value.int IntKind.i64 d] 23))
  go_wp2_with fail
  refine (hn _ Ht3.out).mono ?_
  rintro e w4 ⟨rfl, hb4⟩
  have Ht4 := Lib.hid (Ht3.out.on hb4)
  obtain ⟨hc4, hf4⟩ := bcell hb4
  have Hb4 := Lib.hid hb4
  have hk4 : W.heap.size < w4.heap.size := by have := hb4.size; (try simp at this); omega
  clear hb4
  have B : Hid (Below W.heap.size W w4) := ((((((Below.refl _ _).alloc (Nat.le_refl _) _).trans (Hb1.out.mono (by simp))).trans (Hb2.out.mono (by omega))).trans (Hb3.out.mono (by omega))).alloc (by omega) _).trans (Hb4.out.mono (by (try simp); omega))
  have Ht4 := Lib.hid (Ht4.out.al (Obj.cells #[Value.int IntKind.i64 y2, Value.int IntKind.i64 m2, Value.int IntKind.i64 d2] 23))
  have B := Lib.hid (B.out.alloc (o := Obj.cells #[Value.int IntKind.i64 y2, Value.int IntKind.i64 m2, Value.int IntKind.i64 d2] 23) (Nat.le_of_lt hk4))
  go_wp2_with fail
  refine (ht2 _ Ht4.out).mono ?_
  rintro e w5 ⟨rfl, hb5⟩
  have hj5 : w4.heap.size < w5.heap.size := by have := hb5.size; simp at this; omega
  have Ht5 := Lib.hid (Ht4.out.on hb5)
  obtain ⟨hc5, hf5⟩ := bcell hb5
  have Hb5 := Lib.hid hb5
  have hk5 : W.heap.size < w5.heap.size := by have := hb5.size; (try simp at this); omega
  clear hb5
  have B := Lib.hid (below_on B.out Hb5.out)
  go_wp2_with fail
  refine (hv2 _ Ht5.out).mono ?_
  rintro e w6 ⟨rfl, hb6⟩
  have B := Lib.hid (below_on B.out hb6)
  clear hb6
  go_wp2
  go_ret
  exact ⟨rfl, B.out⟩

theorem walk (y m d n : Int) (w1 : (Lit.int .i64 y).wf = true) (w2 : (Lit.int .i64 m).wf = true) (w3 : (Lit.int .i64 d).wf = true) (w4 : (Lit.int .i64 n).wf = true) (W : World) (ht : GTab W) :
    Calls Tryd.prog 4 #[.agg #[.int .i64 y, .int .i64 m, .int .i64 d], .int .i64 n] W fun e w' => e = .returned (.bool true) ∧ Below W.heap.size W w' := by
  have no : ¬ (1 ≤ n ∧ n ≤ 365242500000) → ∀ w, Calls Tryd.prog 12 #[.int .i64 n] w fun e w' => e = .returned (.tuple #[.agg #[.int .i64 0, .int .i64 0, .int .i64 0], .int .i64 1]) ∧ Below w.heap.size w w' := fun h w => gfrom_no n w (by omega)
  have yes : 1 ≤ n ∧ n ≤ 365242500000 → ∃ y2 m2 d2 : Int, greg.vld y2 m2 d2 = true ∧ greg.num y2 m2 d2 = n := fun h =>
    greg.date_exists n (by show gfst 1 ≤ n; rw [show gfst 1 = 1 by decide]; omega) (by show n < gfst 1000000001; rw [show gfst 1000000001 = 365242500001 by decide]; omega)
  have skip : ∀ R E : Int, (E == 0) = false → (∀ w, GTab w → Calls Tryd.prog 10 #[.agg #[.int .i64 y, .int .i64 m, .int .i64 d]] w fun e w' => e = .returned (.tuple #[.int .i64 R, .int .i64 E]) ∧ Below w.heap.size w w') → Calls Tryd.prog 4 #[.agg #[.int .i64 y, .int .i64 m, .int .i64 d], .int .i64 n] W fun e w' => e = .returned (.bool true) ∧ Below W.heap.size W w' := fun R E hE ha => by
    by_cases h : 1 ≤ n ∧ n ≤ 365242500000
    · obtain ⟨y2, m2, d2, hv, hn⟩ := yes h
      refine walk_01 y m d n R E hE ha y2 m2 d2 (fun w ht => gfrom_at n y2 m2 d2 w ht hv hn) (fun w ht => ?_) (fun w ht => ?_) W ht
      · have := gday_at y2 m2 d2 w ht hv; rw [hn] at this; exact this
      · have := gvalid_any y2 m2 d2 w ht; rw [hv] at this; exact this
    · exact walk_00 y m d n R E hE ha (no h) W ht
  by_cases hy : 1 ≤ y ∧ y ≤ 1000000000
  · cases hv : greg.vld y m d
    · exact skip 0 2 (by decide) (fun w ht => gday_bad y m d w ht hy.1 hy.2 hv)
    · by_cases h : 1 ≤ n ∧ n ≤ 365242500000
      · obtain ⟨y2, m2, d2, hv2, hn⟩ := yes h
        refine walk_11 y m d n (greg.num y m d) (fun w ht => gday_at y m d w ht hv) (fun w ht => gfrom_at _ y m d w ht hv rfl) y2 m2 d2 (fun w ht => gfrom_at n y2 m2 d2 w ht hv2 hn) (fun w ht => ?_) (fun w ht => ?_) W ht
        · have := gday_at y2 m2 d2 w ht hv2; rw [hn] at this; exact this
        · have := gvalid_any y2 m2 d2 w ht; rw [hv2] at this; exact this
      · exact walk_10 y m d n (greg.num y m d) (fun w ht => gday_at y m d w ht hv) (fun w ht => gfrom_at _ y m d w ht hv rfl) (no h) W ht
  · exact skip 0 1 (by decide) (fun w ht => gday_out y m d w hy)

/-! ### the row's step -/
set_option maxRecDepth 100000 in
theorem lifted (os : Os) (started : os.Started) (H : Type) (enc : TypeId × Value → H) :
    ReturnsInHanded {} Tryd.checked os 4 .any (fun w args => (Rows.gregorianRoundTripSpec.pre enc Tryd.prog Tryd.f4 [] false w args ∧ laidMetH Tryd.prog laidL w) ∧ sizedMet enc Tryd.prog Tryd.f4 (OpenSpec.ofChange Rows.gregorianRoundTripSpec) false w args)
      (Rows.gregorianRoundTripSpec.post enc Tryd.prog Tryd.f4 false true false false) := by
  refine returnsInHanded_of_change_and (C := Tryd.checked) (X := fun w _ => laidMetH Tryd.prog laidL w) (fun _ _ _ hh h => h.of_heap hh) own started (by kernel_rfl) Tryd.func4
    (ChangeSpec.witness_shaped (enc := enc) (C := Tryd.checked) (os := os) (X := fun w _ => laidMetH Tryd.prog laidL w) false (World.doorLaid Tryd.prog 400 os) #[.agg #[.int .i64 0, .int .i64 0, .int .i64 0], .int .i64 0] 8 rfl (World.shaped_of_RefB (by kernel_rfl) (by kernel_rfl)) (by kernel_rfl) (by kernel_rfl) (by kernel_rfl) (door_met os _)) ?_
  intro W base args ds gs before hval0 hW _ _ hL _
  have hval : ∀ (j : Nat) t v, Tryd.f4.params[j]? = some t → args[j]? = some v → Value.okWide Tryd.prog W .any base t v := hval0
  have hW' := hW
  obtain ⟨p, q, hA0, hV, rfl, hfz, hnd⟩ := hW
  have hA : DataW.TrodAll enc Tryd.prog W 0 (fun _ => true) true Tryd.f4.params.toList args.toList ds p := hA0
  rw [Tryd.params4] at hA hval
  obtain ⟨v0, vs0, d0, ds0, p0, q0, hargs, rfl, rfl, h0, r0⟩ := trodAll_cons hA
  obtain ⟨v1, vs1, d1, ds1, p1, q1, rfl, rfl, rfl, h1, r1⟩ := trodAll_cons r0
  obtain ⟨rfl, rfl, rfl⟩ := trodAll_nil r1
  obtain rfl : args = #[v0, v1] := by cases args; simp_all
  obtain ⟨rfl, rfl⟩ := trodVars_none hV
  obtain ⟨c0_0, c0_1, c0_2, y0_0, y0_1, y0_2, m0, rfl, rfl, rfl, hy0_0, hy0_1, hy0_2⟩ := open_agg3 Tryd.underlying23 (by kernel_rfl) (show Tryd.prog.cellsOf 23 = 3 by kernel_rfl) (hval 0 23 v0 rfl rfl) h0
  obtain ⟨f0_0, e0_0, rfl, w0_0⟩ := DataW.trod_int Tryd.underlying3 hy0_0
  simp at e0_0; subst e0_0
  obtain ⟨f0_1, e0_1, rfl, w0_1⟩ := DataW.trod_int Tryd.underlying3 hy0_1
  simp at e0_1; subst e0_1
  obtain ⟨f0_2, e0_2, rfl, w0_2⟩ := DataW.trod_int Tryd.underlying3 hy0_2
  simp at e0_2; subst e0_2
  obtain ⟨a1, rfl, rfl, rfl, w1⟩ := open_int Tryd.underlying3 (hval 1 3 v1 rfl rfl) h1
  clear hA0 hval0
  simp only [List.append_nil] at hW'
  have sr0 : ∀ (W' : World) (sp : Nat → Bool), DataW.Trod enc Tryd.prog W' 0 sp true 23 (.agg #[.int .i64 f0_0, .int .i64 f0_1, .int .i64 f0_2]) (.agg [.lit (.int .i64 f0_0), .lit (.int .i64 f0_1), .lit (.int .i64 f0_2)]) [] := fun W' sp =>
    shut_agg3 (y0 := (.lit (.int .i64 f0_0), [])) (y1 := (.lit (.int .i64 f0_1), [])) (y2 := (.lit (.int .i64 f0_2), [])) Tryd.underlying23 (by kernel_rfl) (show Tryd.prog.cellsOf 23 = 3 by kernel_rfl) ⟨1, by simp [DataW.trod, Tryd.underlying3, w0_0]⟩ ⟨1, by simp [DataW.trod, Tryd.underlying3, w0_1]⟩ ⟨1, by simp [DataW.trod, Tryd.underlying3, w0_2]⟩
  refine (walk f0_0 f0_1 f0_2 a1 w0_0 w0_1 w0_2 w1 W (laid_facts hL)).mono fun e W' ⟨he, bel⟩ => ?_
  subst he
  exact ⟨_, rfl, _, _, _, [], _, [], hW', trodAll_mk1 (shut_bool Tryd.underlying4 _), (trodAll_cons_mk (sr0 _ _) (trodAll_cons_mk (shut_int Tryd.underlying3 w1) trodAll_mk0)), rfl, bel.frame _, fun h => by cases h⟩

theorem over : Rows.gregorianRoundTripRow.holds Tryd.pinned (OpenSpec.ofChange Rows.gregorianRoundTripSpec) :=
  OpenClaim.holds_of_wide 4 Tryd.f4 rfl rfl rfl rfl rfl rfl rfl ⟨rfl, rfl, rfl, rfl, rfl⟩ rfl rfl rfl rfl rfl (by kernel_rfl) Tryd.func4 (by kernel_rfl)
    (of_decide_eq_true (by kernel_rfl)) (by unfold Func.isWrapper; first | (rw [if_pos (by decide +kernel)]; kernel_rfl) | (rw [if_neg (by decide +kernel)]; exact ⟨rfl, rfl⟩))
    (fun os started H enc _ => lifted os started H enc)

/-- The statement: the tied card. -/
theorem proved : Rows.GregorianRoundTripCardSaid :=
  Claim7.holds_tied_plain_at .later [] [.data, .data] true (true, "f0b50a9b265c7a874b3dcaf894b38aaf9df5174e93eb85ea897d4d7a5fe01351") false
    over (fun _ h => by cases h) (by kernel_rfl) (fun _ h => by cases h) gregorianRoundTrip_row_tie rfl ⟨rfl, rfl⟩ (by kernel_rfl) rfl
    (fun f fn hf hfn => by
      obtain rfl : f = 4 := Option.some.inj ((show Tryd.prog.funcNamed "computus/computuslaw03.GregorianRoundTrip" = some 4 by kernel_rfl).symm.trans hf) |>.symm
      obtain rfl : fn = Tryd.f4 := (Option.some.inj (Tryd.func4.symm.trans hfn)).symm
      exact ⟨by kernel_rfl, fun j t ht => by
        rw [Tryd.params4] at ht
        have hm : t ∈ [23, 3] := by simpa using Array.mem_of_getElem? ht
        have hall : ([23, 3].all fun u => !Tryd.prog.wantsStandIn u) = true := by kernel_rfl
        exact (show Tryd.prog.wantsStandIn t = false by simpa using List.all_eq_true.1 hall t hm)⟩)
    (by kernel_rfl)
#print axioms proved
end Go.Proofs.YthhegcjmlpekbaaDoor.gregorianRoundTrip
