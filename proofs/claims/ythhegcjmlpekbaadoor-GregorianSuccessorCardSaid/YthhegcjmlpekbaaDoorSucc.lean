/- Proved: for every number, the law GregorianSuccessor of package computuslaw03 (the date with the next number is the next day of the calendar) returns true, and what was in memory is as it was. Condition: the two tables of package gregorian (the lengths of the months, the groups of years) read as the program's text lays them (the card ties them). -/
import Derived.Test.YthhegcjmlpekbaaDoorGg
import Derived.Test.YthhegcjmlpekbaaDoorGy
import Derived.WalkKit
import Derived.ProofKit
import Derived.OpenShut
import Derived.ShutString
import Derived.Lib.SmallJoins
import Derived.Deep.RegionHeld3
import Derived.LaidMore
import Derived.Stop.Joined
import Derived.SevenTiedAt
import Derived.Test.YthhegcjmlpekbaaDoorCards
import Derived.Test.YthhegcjmlpekbaaDoorTie
namespace Go.Proofs.YthhegcjmlpekbaaDoor.gregorianSuccessor
open Go.ChangeShapes Go.WideShapes Go.ChangeAt Go.RowKit Go.Joins
open Go.ChangeMaps (open_string shut_string)
set_option linter.unusedVariables false      -- a walk need not use every fact

theorem walk_no (n : Int) (h : n < 1 ∨ 365242499999 < n) (W : World) (ht : GTab W) :
    Calls Tryd.prog 5 #[.int .i64 n] W fun e w' => e = .returned (.bool true) ∧ Below W.heap.size W w' := by
  have Hf := fun w => sfirst_in 1000000001 w (by omega) (by omega)
  simp only [show gfst 1000000001 = 365242500001 by decide] at Hf
  have Ht := Lib.hid ht
  clear ht
  rcases h with h | h
  · go_enter Tryd.func5, Tryd.ntmps5
    go_wp2_with fail
    refine (gawake_any _ Ht.out).mono ?_
    rintro e w1 ⟨rfl, hb1⟩
    have Ht1 := Lib.hid (Ht.out.on hb1)
    go_wp2_with fail
    refine (gawake_any _ Ht1.out).mono ?_
    rintro e w2 ⟨rfl, hb2⟩
    go_wp2_with fail
    go_ret
    exact ⟨rfl, hb1.trans (hb2.mono hb1.size)⟩
  · have h' : ¬ n < 1 := by omega
    go_enter Tryd.func5, Tryd.ntmps5
    go_wp2_with fail
    refine (gawake_any _ Ht.out).mono ?_
    rintro e w1 ⟨rfl, hb1⟩
    have Ht1 := Lib.hid (Ht.out.on hb1)
    go_wp2_with fail
    refine (Hf _).mono ?_
    rintro e w2 ⟨rfl, rfl⟩
    go_wp2_with fail
    refine (gawake_any _ Ht1.out).mono ?_
    rintro e w2 ⟨rfl, hb2⟩
    go_wp2_with fail
    go_ret
    exact ⟨rfl, hb1.trans (hb2.mono hb1.size)⟩

set_option maxHeartbeats 1000000 in
theorem walk_yes (n y m d y' m' d' : Int) (l : Bool) (h1 : 1 ≤ n) (h2 : n ≤ 365242499999)
    (hp : ∀ w, Calls Tryd.prog 17 #[.int .i64 y] w fun e w' => e = .returned (.bool l) ∧ w = w')
    (ha : ∀ w, GTab w → Calls Tryd.prog 12 #[.int .i64 n] w fun e w' => e = .returned (.tuple #[.agg #[.int .i64 y, .int .i64 m, .int .i64 d], .int .i64 0]) ∧ Below w.heap.size w w')
    (hb : ∀ w, GTab w → Calls Tryd.prog 12 #[.int .i64 (n + 1)] w fun e w' => e = .returned (.tuple #[.agg #[.int .i64 y', .int .i64 m', .int .i64 d'], .int .i64 0]) ∧ Below w.heap.size w w')
    (hx : ∀ w, Calls Tryd.prog 23 #[.agg #[.int .i64 y, .int .i64 m, .int .i64 d], .bool l] w fun e w' => e = .returned (.agg #[.int .i64 y', .int .i64 m', .int .i64 d']) ∧ Below w.heap.size w w')
    (W : World) (ht : GTab W) :
    Calls Tryd.prog 5 #[.int .i64 n] W fun e w' => e = .returned (.bool true) ∧ Below W.heap.size W w' := by
  have Hf := fun w => sfirst_in 1000000001 w (by omega) (by omega)
  simp only [show gfst 1000000001 = 365242500001 by decide] at Hf
  have Ht := Lib.hid ht
  clear ht
  go_enter Tryd.func5, Tryd.ntmps5
  go_wp2_with fail
  refine (gawake_any _ Ht.out).mono ?_
  rintro e w1 ⟨rfl, hb1⟩
  have Ht1 := Lib.hid (Ht.out.on hb1)
  have Hb1 := Lib.hid hb1
  clear hb1
  go_wp2_with fail
  refine (Hf _).mono ?_
  rintro e w2 ⟨rfl, rfl⟩
  go_wp2_with fail
  refine (ha _ Ht1.out).mono ?_
  rintro e w2 ⟨rfl, hb2⟩
  have Ht2 := Lib.hid ((Ht1.out.on hb2).al (Obj.cells #[Value.int IntKind.i64 y, Value.int IntKind.i64 m, Value.int IntKind.i64 d] 23))
  have Hb2 := Lib.hid hb2
  clear hb2
  go_wp2_with fail
  refine (hb _ Ht2.out).mono ?_
  rintro e w3 ⟨rfl, hb3⟩
  have hs : Two W w2.heap.size w3.heap.size y m d y' m' d' (w3.alloc (Obj.cells #[Value.int IntKind.i64 y', Value.int IntKind.i64 m', Value.int IntKind.i64 d'] 23)) := by
    have hz3 : w2.heap.size < w3.heap.size := by have := hb3.size; simp at this; omega
    obtain ⟨hc3, hf3⟩ := bcell hb3
    have B := (below_on (below_on Hb1.out Hb2.out) (below_al1 hb3)).alloc (o := Obj.cells #[Value.int IntKind.i64 y', Value.int IntKind.i64 m', Value.int IntKind.i64 d'] 23) (Nat.le_trans Hb1.out.size (Nat.le_trans Hb2.out.size (Nat.le_of_lt hz3)))
    exact ⟨by go_simp, by go_simp, by go_simp, by go_simp, by go_simp, by go_simp, B⟩
  have Hs := Lib.hid hs.drew
  clear hb3 hs Hb1 Hb2 Ht1 Ht2 Hf ha hb Ht
  have Hx := fun u (h : Two W w2.heap.size w3.heap.size y m d y' m' d' u) => (hx u).mono (R' := fun e u' => e = .returned (.agg #[.int .i64 y', .int .i64 m', .int .i64 d']) ∧ Two W w2.heap.size w3.heap.size y m d y' m' d' u') fun e u' ⟨he, hb⟩ => ⟨he, h.on hb⟩
  clear hx
  go_wp2_with fail
  go_region_held3 (fun u => u.cell? ⟨w2.heap.size, 0, none⟩ = some (.int .i64 y) ∧ u.cell? ⟨w2.heap.size, 1, none⟩ = some (.int .i64 m) ∧ u.cell? ⟨w2.heap.size, 2, none⟩ = some (.int .i64 d) ∧
      u.cell? ⟨w3.heap.size, 0, none⟩ = some (.int .i64 y') ∧ u.cell? ⟨w3.heap.size, 1, none⟩ = some (.int .i64 m') ∧ u.cell? ⟨w3.heap.size, 2, none⟩ = some (.int .i64 d') ∧ Below W.heap.size W u)
    (first | exact Hs.out | assumption)
    (first | (go_at_call 17; refine (hp _).mono ?_; rintro e w' ⟨rfl, rfl⟩) | (go_at_call 23; refine (Hx _ (by assumption)).mono ?_; rintro e w' ⟨rfl, hs'⟩))
  have B := Lib.hid hs'.2.2.2.2.2.2
  go_wp2
  go_ret
  exact ⟨rfl, B.out⟩

theorem walk (n : Int) (w0 : (Lit.int .i64 n).wf = true) (W : World) (ht : GTab W) :
    Calls Tryd.prog 5 #[.int .i64 n] W fun e w' => e = .returned (.bool true) ∧ Below W.heap.size W w' := by
  by_cases h : 1 ≤ n ∧ n ≤ 365242499999
  · obtain ⟨h1, h2⟩ := h
    obtain ⟨y, m, d, hv, hn⟩ := greg.date_exists n (by show gfst 1 ≤ n; rw [show gfst 1 = 1 by decide]; omega) (by show n < gfst 1000000001; rw [show gfst 1000000001 = 365242500001 by decide]; omega)
    obtain ⟨hv', hn'⟩ := greg.next_num hv (by show _ < gfst 1000000001; rw [show gfst 1000000001 = 365242500001 by decide, hn]; omega)
    rw [hn] at hn'
    have hy := greg.vld_iff.1 hv
    have hm := greg.vld_month hv
    have hd := dim_bd (greg.lp y) m hm.1 hm.2
    exact walk_yes n y m d _ _ _ (glp y) h1 h2 (fun w => gleap_any y w) (fun w ht => gfrom_at n y m d w ht hv hn) (fun w ht => gfrom_at (n + 1) _ _ _ w ht hv' hn')
      (fun w => rnext_any y m d (glp y) w (by omega) (by omega) (by omega) (by omega) (by omega) (by omega)) W ht
  · exact walk_no n (by omega) W ht

/-! ### the row's step -/
set_option maxRecDepth 100000 in
theorem lifted (os : Os) (started : os.Started) (H : Type) (enc : TypeId × Value → H) :
    ReturnsInHanded {} Tryd.checked os 5 .any (fun w args => (Rows.gregorianSuccessorSpec.pre enc Tryd.prog Tryd.f5 [] false w args ∧ laidMetH Tryd.prog laidL w) ∧ sizedMet enc Tryd.prog Tryd.f5 (OpenSpec.ofChange Rows.gregorianSuccessorSpec) false w args)
      (Rows.gregorianSuccessorSpec.post enc Tryd.prog Tryd.f5 false true false false) := by
  refine returnsInHanded_of_change_and (C := Tryd.checked) (X := fun w _ => laidMetH Tryd.prog laidL w) (fun _ _ _ hh h => h.of_heap hh) own started (by kernel_rfl) Tryd.func5
    (ChangeSpec.witness_shaped (enc := enc) (C := Tryd.checked) (os := os) (X := fun w _ => laidMetH Tryd.prog laidL w) false (World.doorLaid Tryd.prog 400 os) #[.int .i64 0] 8 rfl (World.shaped_of_RefB (by kernel_rfl) (by kernel_rfl)) (by kernel_rfl) (by kernel_rfl) (by kernel_rfl) (door_met os _)) ?_
  intro W base args ds gs before hval0 hW _ _ hL _
  have hval : ∀ (j : Nat) t v, Tryd.f5.params[j]? = some t → args[j]? = some v → Value.okWide Tryd.prog W .any base t v := hval0
  have hW' := hW
  obtain ⟨p, q, hA0, hV, rfl, hfz, hnd⟩ := hW
  have hA : DataW.TrodAll enc Tryd.prog W 0 (fun _ => true) true Tryd.f5.params.toList args.toList ds p := hA0
  rw [Tryd.params5] at hA hval
  obtain ⟨v0, vs0, d0, ds0, p0, q0, hargs, rfl, rfl, h0, r0⟩ := trodAll_cons hA
  obtain ⟨rfl, rfl, rfl⟩ := trodAll_nil r0
  obtain rfl : args = #[v0] := by cases args; simp_all
  obtain ⟨rfl, rfl⟩ := trodVars_none hV
  obtain ⟨a0, rfl, rfl, rfl, w0⟩ := open_int Tryd.underlying3 (hval 0 3 v0 rfl rfl) h0
  clear hA0 hval0
  simp only [List.append_nil] at hW'
  refine (walk a0 w0 W (laid_facts hL)).mono fun e W' ⟨he, bel⟩ => ?_
  subst he
  exact ⟨_, rfl, _, _, _, [], _, [], hW', trodAll_mk1 (shut_bool Tryd.underlying4 _), (trodAll_cons_mk (shut_int Tryd.underlying3 w0) trodAll_mk0), rfl, bel.frame _, fun h => by cases h⟩

theorem over : Rows.gregorianSuccessorRow.holds Tryd.pinned (OpenSpec.ofChange Rows.gregorianSuccessorSpec) :=
  OpenClaim.holds_of_wide 5 Tryd.f5 rfl rfl rfl rfl rfl rfl rfl ⟨rfl, rfl, rfl, rfl, rfl⟩ rfl rfl rfl rfl rfl (by kernel_rfl) Tryd.func5 (by kernel_rfl)
    (of_decide_eq_true (by kernel_rfl)) (by unfold Func.isWrapper; first | (rw [if_pos (by decide +kernel)]; kernel_rfl) | (rw [if_neg (by decide +kernel)]; exact ⟨rfl, rfl⟩))
    (fun os started H enc _ => lifted os started H enc)

/-- The statement: the tied card. -/
theorem proved : Rows.GregorianSuccessorCardSaid :=
  Claim7.holds_tied_plain_at .later [] [.data, .data] true (true, "f0b50a9b265c7a874b3dcaf894b38aaf9df5174e93eb85ea897d4d7a5fe01351") false
    over (fun _ h => by cases h) (by kernel_rfl) (fun _ h => by cases h) gregorianSuccessor_row_tie rfl ⟨rfl, rfl⟩ (by kernel_rfl) rfl
    (fun f fn hf hfn => by
      obtain rfl : f = 5 := Option.some.inj ((show Tryd.prog.funcNamed "computus/computuslaw03.GregorianSuccessor" = some 5 by kernel_rfl).symm.trans hf) |>.symm
      obtain rfl : fn = Tryd.f5 := (Option.some.inj (Tryd.func5.symm.trans hfn)).symm
      exact ⟨by kernel_rfl, fun j t ht => by
        rw [Tryd.params5] at ht
        have hm : t ∈ [3] := by simpa using Array.mem_of_getElem? ht
        have hall : ([3].all fun u => !Tryd.prog.wantsStandIn u) = true := by kernel_rfl
        exact (show Tryd.prog.wantsStandIn t = false by simpa using List.all_eq_true.1 hall t hm)⟩)
    (by kernel_rfl)
#print axioms proved
end Go.Proofs.YthhegcjmlpekbaaDoor.gregorianSuccessor
