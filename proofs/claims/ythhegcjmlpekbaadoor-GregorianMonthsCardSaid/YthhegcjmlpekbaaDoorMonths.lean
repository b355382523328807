/- Proved: for every year and every 8-bit number, the law GregorianMonths of package computuslaw03 (the first day of a month follows the last day of the month before it) returns true, and what was in memory is as it was. Condition: the two tables of package gregorian (the lengths of the months, the groups of years) read as the program's text lays them (the card ties them). -/
import Derived.Test.YthhegcjmlpekbaaDoorGg
import Derived.Test.YthhegcjmlpekbaaDoorGy
import Derived.WalkKit
import Derived.ProofKit
import Derived.OpenShut
import Derived.ShutString
import Derived.Lib.SmallJoins
import Derived.LaidMore
import Derived.Stop.Joined
import Derived.SevenTiedAt
import Derived.Test.YthhegcjmlpekbaaDoorCards
import Derived.Test.YthhegcjmlpekbaaDoorTie
namespace Go.Proofs.YthhegcjmlpekbaaDoor.gregorianMonths
open Go.ChangeShapes Go.WideShapes Go.ChangeAt Go.RowKit Go.Joins
open Go.ChangeMaps (open_string shut_string)
set_option linter.unusedVariables false      -- a walk need not use every fact

set_option maxHeartbeats 400000 in
theorem walk_yes (y m : Int) (u : Int) (hu : 0 ≤ u) (hu2 : u ≤ 255) (hm : Hid (1 + u % 11 = m)) (y1 : 1 ≤ y) (y2 : y ≤ 1000000000) (m1 : 1 ≤ m) (m2 : m ≤ 11) (W : World) (ht : GTab W) :
    Calls Tryd.prog 8 #[.int .i64 y, .int .u8 u] W fun e w' => e = .returned (.bool true) ∧ Below W.heap.size W w' := by
  have db := dim_bd (glp y) m (by omega) (by omega)
  have db1 := dim_bd (glp y) (m + 1) (by omega) (by omega)
  have v1 : greg.vld y m 1 = true := greg.vld_iff.2 ⟨y1, y2, by omega, by show 1 ≤ dim (glp y) m; omega⟩
  have v2 : greg.vld y (m + 1) 1 = true := greg.vld_iff.2 ⟨y1, y2, by omega, by show 1 ≤ dim (glp y) (m + 1); omega⟩
  have v3 : greg.vld y m (dim (glp y) m) = true := greg.vld_iff.2 ⟨y1, y2, by omega, Int.le_refl _⟩
  have v4 : greg.vld y m (dim (glp y) m + 1) = false := by
    cases g : greg.vld y m (dim (glp y) m + 1) with
    | false => rfl
    | true => have : dim (glp y) m + 1 ≤ dim (glp y) m := (greg.vld_iff.1 g).2.2.2
              omega
  have e : greg.num y (m + 1) 1 = greg.num y m 1 + dim (glp y) m := by
    show greg.fst y + cum (glp y) (m + 1) + 1 - 1 = greg.fst y + cum (glp y) m + 1 - 1 + dim (glp y) m
    rw [cum_succ _ _ (by omega) (by omega)]; omega
  have r1 := greg.num_range v1
  rw [show greg.fst 1 = 1 by decide, show greg.fst 1000000001 = 365242500001 by decide] at r1
  have Hi := fun w => rin_any y w
  simp only [inY_iff.2 ⟨y1, y2⟩] at Hi
  have H1 := fun w ht => gday_at y m 1 w ht v1
  have H2 := fun w ht => gday_at y (m + 1) 1 w ht v2
  simp only [e] at H2
  have H3 := fun w ht => gvalid_any y m (dim (glp y) m) w ht
  simp only [v3] at H3
  have H4 := fun w ht => gvalid_any y m (dim (glp y) m + 1) w ht
  simp only [v4] at H4
  have Ht := Lib.hid ht
  generalize greg.num y m 1 = R at *
  obtain ⟨r11, r12⟩ := r1
  clear v1 v2 v3 v4 e ht db1
  have Hl := fun w => glen_any y m w
  generalize dim (glp y) m = D at *
  go_enter Tryd.func8, Tryd.ntmps8
  go_wp2_with fail
  refine (gawake_any _ Ht.out).mono ?_
  rintro e w1 ⟨rfl, hb1⟩
  have Ht1 := Lib.hid (Ht.out.on hb1)
  go_wp2_with fail
  refine (Hi _).mono ?_
  rintro e w2 ⟨rfl, rfl⟩
  go_wp2_with fail
  rw [hm.out]
  refine (H1 _ Ht1.out).mono ?_
  rintro e w2 ⟨rfl, hb2⟩
  have Ht2 := Lib.hid (Ht1.out.on hb2)
  go_wp2_with fail
  refine (H2 _ Ht2.out).mono ?_
  rintro e w3 ⟨rfl, hb3⟩
  have Ht3 := Lib.hid (Ht2.out.on hb3)
  go_wp2_with fail
  refine (Hl _ Ht3.out).mono ?_
  rintro e w4 ⟨rfl, rfl⟩
  go_wp2_with fail
  have hd : (R + D - R == D) = true := by rw [beq_iff_eq]; omega
  go_wp2_with fail
  refine (H3 _ Ht3.out).mono ?_
  rintro e w4 ⟨rfl, hb4⟩
  have Ht4 := Lib.hid (Ht3.out.on hb4)
  go_wp2_with fail
  refine (H4 _ Ht4.out).mono ?_
  rintro e w5 ⟨rfl, hb5⟩
  go_wp2_with fail
  go_ret
  have h1 := hb1.size; have h2 := hb2.size; have h3 := hb3.size; have h4 := hb4.size; have h5 := hb5.size
  exact ⟨rfl, ((((hb1.trans (hb2.mono h1)).trans (hb3.mono (by omega))).trans (hb4.mono (by omega))).trans (hb5.mono (by omega)))⟩

theorem walk_no (y u : Int) (h : inY y = false) (W : World) (ht : GTab W) :
    Calls Tryd.prog 8 #[.int .i64 y, .int .u8 u] W fun e w' => e = .returned (.bool true) ∧ Below W.heap.size W w' := by
  have Hi := fun w => rin_any y w
  simp only [h] at Hi
  have Ht := Lib.hid ht
  clear h ht
  go_enter Tryd.func8, Tryd.ntmps8
  go_wp2_with fail
  refine (gawake_any _ Ht.out).mono ?_
  rintro e w1 ⟨rfl, hb1⟩
  have Ht1 := Lib.hid (Ht.out.on hb1)
  go_wp2_with fail
  refine (Hi _).mono ?_
  rintro e w2 ⟨rfl, rfl⟩
  go_wp2_with fail
  refine (gawake_any _ Ht1.out).mono ?_
  rintro e w2 ⟨rfl, hb2⟩
  go_wp2_with fail
  go_ret
  exact ⟨rfl, hb1.trans (hb2.mono hb1.size)⟩

theorem walk (y u : Int) (w0 : (Lit.int .i64 y).wf = true) (w1 : (Lit.int .u8 u).wf = true) (W : World) (ht : GTab W) :
    Calls Tryd.prog 8 #[.int .i64 y, .int .u8 u] W fun e w' => e = .returned (.bool true) ∧ Below W.heap.size W w' := by
  cases h : inY y
  · exact walk_no y u h W ht
  · have hb := bounds_u8 w1
    exact walk_yes y (1 + u % 11) u (by omega) (by omega) (Lib.hid rfl) (inY_iff.1 h).1 (inY_iff.1 h).2 (by omega) (by omega) W ht

/-! ### the row's step -/
set_option maxRecDepth 100000 in
theorem lifted (os : Os) (started : os.Started) (H : Type) (enc : TypeId × Value → H) :
    ReturnsInHanded {} Tryd.checked os 8 .any (fun w args => (Rows.gregorianMonthsSpec.pre enc Tryd.prog Tryd.f8 [] false w args ∧ laidMetH Tryd.prog laidL w) ∧ sizedMet enc Tryd.prog Tryd.f8 (OpenSpec.ofChange Rows.gregorianMonthsSpec) false w args)
      (Rows.gregorianMonthsSpec.post enc Tryd.prog Tryd.f8 false true false false) := by
  refine returnsInHanded_of_change_and (C := Tryd.checked) (X := fun w _ => laidMetH Tryd.prog laidL w) (fun _ _ _ hh h => h.of_heap hh) own started (by kernel_rfl) Tryd.func8
    (ChangeSpec.witness_shaped (enc := enc) (C := Tryd.checked) (os := os) (X := fun w _ => laidMetH Tryd.prog laidL w) false (World.doorLaid Tryd.prog 400 os) #[.int .i64 0, .int .u8 0] 8 rfl (World.shaped_of_RefB (by kernel_rfl) (by kernel_rfl)) (by kernel_rfl) (by kernel_rfl) (by kernel_rfl) (door_met os _)) ?_
  intro W base args ds gs before hval0 hW _ _ hL _
  have hval : ∀ (j : Nat) t v, Tryd.f8.params[j]? = some t → args[j]? = some v → Value.okWide Tryd.prog W .any base t v := hval0
  have hW' := hW
  obtain ⟨p, q, hA0, hV, rfl, hfz, hnd⟩ := hW
  have hA : DataW.TrodAll enc Tryd.prog W 0 (fun _ => true) true Tryd.f8.params.toList args.toList ds p := hA0
  rw [Tryd.params8] at hA hval
  obtain ⟨v0, vs0, d0, ds0, p0, q0, hargs, rfl, rfl, h0, r0⟩ := trodAll_cons hA
  obtain ⟨v1, vs1, d1, ds1, p1, q1, rfl, rfl, rfl, h1, r1⟩ := trodAll_cons r0
  obtain ⟨rfl, rfl, rfl⟩ := trodAll_nil r1
  obtain rfl : args = #[v0, v1] := by cases args; simp_all
  obtain ⟨rfl, rfl⟩ := trodVars_none hV
  obtain ⟨a0, rfl, rfl, rfl, w0⟩ := open_int Tryd.underlying3 (hval 0 3 v0 rfl rfl) h0
  obtain ⟨a1, rfl, rfl, rfl, w1⟩ := open_int Tryd.underlying5 (hval 1 5 v1 rfl rfl) h1
  clear hA0 hval0
  simp only [List.append_nil] at hW'
  refine (walk a0 a1 w0 w1 W (laid_facts hL)).mono fun e W' ⟨he, bel⟩ => ?_
  subst he
  exact ⟨_, rfl, _, _, _, [], _, [], hW', trodAll_mk1 (shut_bool Tryd.underlying4 _), (trodAll_cons_mk (shut_int Tryd.underlying3 w0) (trodAll_cons_mk (shut_int Tryd.underlying5 w1) trodAll_mk0)), rfl, bel.frame _, fun h => by cases h⟩

theorem over : Rows.gregorianMonthsRow.holds Tryd.pinned (OpenSpec.ofChange Rows.gregorianMonthsSpec) :=
  OpenClaim.holds_of_wide 8 Tryd.f8 rfl rfl rfl rfl rfl rfl rfl ⟨rfl, rfl, rfl, rfl, rfl⟩ rfl rfl rfl rfl rfl (by kernel_rfl) Tryd.func8 (by kernel_rfl)
    (of_decide_eq_true (by kernel_rfl)) (by unfold Func.isWrapper; first | (rw [if_pos (by decide +kernel)]; kernel_rfl) | (rw [if_neg (by decide +kernel)]; exact ⟨rfl, rfl⟩))
    (fun os started H enc _ => lifted os started H enc)

/-- The statement: the tied card. -/
theorem proved : Rows.GregorianMonthsCardSaid :=
  Claim7.holds_tied_plain_at .later [] [.data, .data] true (true, "f0b50a9b265c7a874b3dcaf894b38aaf9df5174e93eb85ea897d4d7a5fe01351") false
    over (fun _ h => by cases h) (by kernel_rfl) (fun _ h => by cases h) gregorianMonths_row_tie rfl ⟨rfl, rfl⟩ (by kernel_rfl) rfl
    (fun f fn hf hfn => by
      obtain rfl : f = 8 := Option.some.inj ((show Tryd.prog.funcNamed "computus/computuslaw03.GregorianMonths" = some 8 by kernel_rfl).symm.trans hf) |>.symm
      obtain rfl : fn = Tryd.f8 := (Option.some.inj (Tryd.func8.symm.trans hfn)).symm
      exact ⟨by kernel_rfl, fun j t ht => by
        rw [Tryd.params8] at ht
        have hm : t ∈ [3, 5] := by simpa using Array.mem_of_getElem? ht
        have hall : ([3, 5].all fun u => !Tryd.prog.wantsStandIn u) = true := by kernel_rfl
        exact (show Tryd.prog.wantsStandIn t = false by simpa using List.all_eq_true.1 hall t hm)⟩)
    (by kernel_rfl)
#print axioms proved
end Go.Proofs.YthhegcjmlpekbaaDoor.gregorianMonths
