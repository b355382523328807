/- Proved: for every byte and every 64-bit integer year, the law GoldenRepeats of package computuslaw06 (dominical letters recur after 28 years in the Julian and after 400 years in the Gregorian calendar) returns true, and what was in memory is as it was. Condition: the tables of months and groups read as the program's text lays them (the card ties them). -/
import Derived.Test.YtclnpnkjldddcaaDoorDe
import Derived.Test.YtclnpnkjldddcaaDoorVy
import Derived.WalkKit
import Derived.ProofKit
import Derived.OpenShut
import Derived.ShutString
import Derived.Lib.SmallJoins
import Derived.LaidMore
import Derived.Stop.Joined
import Derived.SevenTiedAt
import Derived.Test.YtclnpnkjldddcaaDoorCards
import Derived.Test.YtclnpnkjldddcaaDoorTie
namespace Go.Proofs.YtclnpnkjldddcaaDoor.goldenRepeats
open Go.ChangeShapes Go.WideShapes Go.ChangeAt Go.RowKit Go.Joins
open Go.ChangeMaps (open_string shut_string)
set_option linter.unusedVariables false      -- a walk need not use every fact

theorem walk_out (u y : Int) (hu : 0 ≤ u) (hu2 : u ≤ 255)
    (HI : ∀ w, Calls Tryd.prog 15 #[.int .i64 y] w fun e w' => e = .returned (.bool false) ∧ w = w')
    (W : World) (ht : CTab W) :
    Calls Tryd.prog 7 #[.int .u8 u, .int .i64 y] W fun e w' => e = .returned (.bool true) ∧ Below W.heap.size W w' := by
  have S0 := Lib.hid (St.start ht)
  clear ht
  go_enter Tryd.func7, Tryd.ntmps7
  go_wp2_with fail
  refine (c6awake_any _ S0.out.t).mono ?_
  rintro e w1 ⟨rfl, hb1⟩
  have S1 := Lib.hid (S0.out.on hb1)
  clear hb1
  go_wp2_with fail
  refine (HI _).mono ?_
  rintro e wq ⟨rfl, rfl⟩
  go_wp2_with fail
  refine (c6awake_any _ S1.out.t).mono ?_
  rintro e w2 ⟨rfl, hb2⟩
  have S2 := Lib.hid (S1.out.on hb2)
  clear hb2
  go_wp2_with fail
  go_ret
  exact ⟨rfl, S2.out.b⟩
theorem walk_hi (u y : Int) (hu : 0 ≤ u) (hu2 : u ≤ 255)
    (HI : ∀ w, Calls Tryd.prog 15 #[.int .i64 y] w fun e w' => e = .returned (.bool true) ∧ w = w')
    (h2 : 999999000 < y)
    (W : World) (ht : CTab W) :
    Calls Tryd.prog 7 #[.int .u8 u, .int .i64 y] W fun e w' => e = .returned (.bool true) ∧ Below W.heap.size W w' := by
  have S0 := Lib.hid (St.start ht)
  clear ht
  go_enter Tryd.func7, Tryd.ntmps7
  go_wp2_with fail
  refine (c6awake_any _ S0.out.t).mono ?_
  rintro e w1 ⟨rfl, hb1⟩
  have S1 := Lib.hid (S0.out.on hb1)
  clear hb1
  go_wp2_with fail
  refine (HI _).mono ?_
  rintro e wq ⟨rfl, rfl⟩
  go_wp2_with fail
  refine (c6awake_any _ S1.out.t).mono ?_
  rintro e w2 ⟨rfl, hb2⟩
  have S2 := Lib.hid (S1.out.on hb2)
  clear hb2
  go_wp2_with fail
  go_ret
  exact ⟨rfl, S2.out.b⟩
theorem walk_jul (u y a b : Int) (hu : 0 ≤ u) (hu2 : u ≤ 255)
    (hk : u % 2 = 0)
    (HI : ∀ w, Calls Tryd.prog 15 #[.int .i64 y] w fun e w' => e = .returned (.bool true) ∧ w = w')
    (h1 : 1 ≤ y) (h2 : y ≤ 999999000) (a1 : 1 ≤ a) (a2 : a ≤ 7) (b1 : 1 ≤ b) (b2 : b ≤ 7)
    (H1 : ∀ w, CTab w → Calls Tryd.prog 13 #[.int .i64 1, .int .i64 y] w fun e w' => e = .returned (letv a b 0) ∧ Below w.heap.size w w')
    (H2 : ∀ w, CTab w → Calls Tryd.prog 13 #[.int .i64 1, .int .i64 (y + 28)] w fun e w' => e = .returned (letv a b 0) ∧ Below w.heap.size w w')
    (W : World) (ht : CTab W) :
    Calls Tryd.prog 7 #[.int .u8 u, .int .i64 y] W fun e w' => e = .returned (.bool true) ∧ Below W.heap.size W w' := by
  have S0 := Lib.hid (St.start ht)
  clear ht
  go_enter Tryd.func7, Tryd.ntmps7
  go_wp2_with fail
  refine (c6awake_any _ S0.out.t).mono ?_
  rintro e w1 ⟨rfl, hb1⟩
  have S1 := Lib.hid (S0.out.on hb1)
  clear hb1
  go_wp2_with fail
  refine (HI _).mono ?_
  rintro e wq ⟨rfl, rfl⟩
  go_wp2_with fail
  refine (H1 _ S1.out.t).mono ?_
  rintro e w2 ⟨rfl, hb2⟩
  have S2 := Lib.hid (S1.out.on hb2)
  clear hb2
  go_wp2_with fail
  refine (H2 _ S2.out.t).mono ?_
  rintro e w3 ⟨rfl, hb3⟩
  have S3 := Lib.hid (S2.out.on hb3)
  clear hb3
  go_wp2_with fail
  go_ret
  exact ⟨rfl, S3.out.b⟩
theorem walk_greg (u y a b : Int) (hu : 0 ≤ u) (hu2 : u ≤ 255)
    (hk : u % 2 = 1)
    (HI : ∀ w, Calls Tryd.prog 15 #[.int .i64 y] w fun e w' => e = .returned (.bool true) ∧ w = w')
    (h1 : 1 ≤ y) (h2 : y ≤ 999999000) (a1 : 1 ≤ a) (a2 : a ≤ 7) (b1 : 1 ≤ b) (b2 : b ≤ 7)
    (H1 : ∀ w, CTab w → Calls Tryd.prog 13 #[.int .i64 2, .int .i64 y] w fun e w' => e = .returned (letv a b 0) ∧ Below w.heap.size w w')
    (H2 : ∀ w, CTab w → Calls Tryd.prog 13 #[.int .i64 2, .int .i64 (y + 400)] w fun e w' => e = .returned (letv a b 0) ∧ Below w.heap.size w w')
    (W : World) (ht : CTab W) :
    Calls Tryd.prog 7 #[.int .u8 u, .int .i64 y] W fun e w' => e = .returned (.bool true) ∧ Below W.heap.size W w' := by
  have S0 := Lib.hid (St.start ht)
  clear ht
  go_enter Tryd.func7, Tryd.ntmps7
  go_wp2_with fail
  refine (c6awake_any _ S0.out.t).mono ?_
  rintro e w1 ⟨rfl, hb1⟩
  have S1 := Lib.hid (S0.out.on hb1)
  clear hb1
  go_wp2_with fail
  refine (HI _).mono ?_
  rintro e wq ⟨rfl, rfl⟩
  go_wp2_with fail
  refine (H1 _ S1.out.t).mono ?_
  rintro e w2 ⟨rfl, hb2⟩
  have S2 := Lib.hid (S1.out.on hb2)
  clear hb2
  go_wp2_with fail
  refine (H2 _ S2.out.t).mono ?_
  rintro e w3 ⟨rfl, hb3⟩
  have S3 := Lib.hid (S2.out.on hb3)
  clear hb3
  go_wp2_with fail
  go_ret
  exact ⟨rfl, S3.out.b⟩
theorem lA_at {c y : Int} (h : yE c y = 0) : lA c y = letA ((calOf c).fst y) ∧ lB c y = letB ((calOf c).lp y) (letA ((calOf c).fst y)) := by
  unfold lA lB; rw [if_pos h, if_pos h]; exact ⟨rfl, rfl⟩
theorem rep_jul (y : Int) : jul.lp (y + 28) = jul.lp y ∧ (jul.fst (y + 28) - jul.fst y) % 7 = 0 := by
  refine ⟨?_, ?_⟩
  · show jlp (y + 28) = jlp y
    unfold jlp; rw [decide_eq_decide]; omega
  · show (jfst (y + 28) - jfst y) % 7 = 0
    unfold jfst; omega
theorem rep_greg (y : Int) : greg.lp (y + 400) = greg.lp y ∧ (greg.fst (y + 400) - greg.fst y) % 7 = 0 := by
  refine ⟨?_, ?_⟩
  · show glp (y + 400) = glp y
    rw [Bool.eq_iff_iff, glp_iff, glp_iff]; omega
  · show (gfst (y + 400) - gfst y) % 7 = 0
    unfold gfst; omega
theorem rep_any {c y n : Int} (hc : okC c = true) (h1 : 1 ≤ y) (h2 : y + n ≤ 1000000000) (hn : 0 ≤ n) (hl : (calOf c).lp (y + n) = (calOf c).lp y) (hf : ((calOf c).fst (y + n) - (calOf c).fst y) % 7 = 0) :
    yE c y = 0 ∧ yE c (y + n) = 0 ∧ lA c (y + n) = lA c y ∧ lB c (y + n) = lB c y ∧ 1 ≤ lA c y ∧ lA c y ≤ 7 ∧ 1 ≤ lB c y ∧ lB c y ≤ 7 := by
  have y0 : yE c y = 0 := by unfold yE; rw [if_pos hc, if_pos (inY_iff.2 ⟨h1, by omega⟩)]
  have y1 : yE c (y + n) = 0 := by unfold yE; rw [if_pos hc, if_pos (inY_iff.2 ⟨by omega, h2⟩)]
  obtain ⟨e1, e2⟩ := lA_at y0
  obtain ⟨e3, e4⟩ := lA_at y1
  have ab := letA_bd ((calOf c).fst y)
  have bb := letB_bd (l := (calOf c).lp y) ab.1 ab.2
  rw [e1, e2, e3, e4, hl, letA_same hf]
  exact ⟨y0, y1, rfl, rfl, ab.1, ab.2, bb.1, bb.2⟩
theorem walk (u y : Int) (w0 : (Lit.int .u8 u).wf = true) (w1 : (Lit.int .i64 y).wf = true) (W : World) (ht : CTab W) :
    Calls Tryd.prog 7 #[.int .u8 u, .int .i64 y] W fun e w' => e = .returned (.bool true) ∧ Below W.heap.size W w' := by
  have hb := bounds_u8 w0
  have HI := fun w => rin_any y w
  cases h : inY y
  · rw [h] at HI; exact walk_out u y hb.1 hb.2 HI W ht
  · rw [h] at HI
    have hy := inY_iff.1 h
    rcases Int.lt_or_le 999999000 y with h2 | h2
    · exact walk_hi u y hb.1 hb.2 HI h2 W ht
    · by_cases hk : u % 2 = 0
      · obtain ⟨l1, l2⟩ := rep_jul y
        obtain ⟨y0, y1, e1, e2, a1, a2, b1, b2⟩ := rep_any (c := 1) (n := 28) (y := y) (by decide) hy.1 (by omega) (by omega) l1 l2
        refine walk_jul u y (lA 1 y) (lB 1 y) hb.1 hb.2 (by omega) HI hy.1 h2 a1 a2 b1 b2 (fun w ht => ?_) (fun w ht => ?_) W ht
        · have := glet_any 1 y w ht; rw [y0] at this; exact this
        · have := glet_any 1 (y + 28) w ht; rw [y1, e1, e2] at this; exact this
      · obtain ⟨l1, l2⟩ := rep_greg y
        obtain ⟨y0, y1, e1, e2, a1, a2, b1, b2⟩ := rep_any (c := 2) (n := 400) (y := y) (by decide) hy.1 (by omega) (by omega) l1 l2
        refine walk_greg u y (lA 2 y) (lB 2 y) hb.1 hb.2 (by omega) HI hy.1 h2 a1 a2 b1 b2 (fun w ht => ?_) (fun w ht => ?_) W ht
        · have := glet_any 2 y w ht; rw [y0] at this; exact this
        · have := glet_any 2 (y + 400) w ht; rw [y1, e1, e2] at this; exact this

/-! ### the row's step -/
set_option maxRecDepth 100000 in
theorem lifted (os : Os) (started : os.Started) (H : Type) (enc : TypeId × Value → H) :
    ReturnsInHanded {} Tryd.checked os 7 .any (fun w args => (Rows.goldenRepeatsSpec.pre enc Tryd.prog Tryd.f7 [] false w args ∧ laidMetH Tryd.prog laidL w) ∧ sizedMet enc Tryd.prog Tryd.f7 (OpenSpec.ofChange Rows.goldenRepeatsSpec) false w args)
      (Rows.goldenRepeatsSpec.post enc Tryd.prog Tryd.f7 false true false false) := by
  refine returnsInHanded_of_change_and (C := Tryd.checked) (X := fun w _ => laidMetH Tryd.prog laidL w) (fun _ _ _ hh h => h.of_heap hh) own started (by kernel_rfl) Tryd.func7
    (ChangeSpec.witness_shaped (enc := enc) (C := Tryd.checked) (os := os) (X := fun w _ => laidMetH Tryd.prog laidL w) false (World.doorLaid Tryd.prog 400 os) #[.int .u8 0, .int .i64 0] 8 rfl (World.shaped_of_RefB (by kernel_rfl) (by kernel_rfl)) (by kernel_rfl) (by kernel_rfl) (by kernel_rfl) (door_met os _)) ?_
  intro W base args ds gs before hval0 hW _ _ hL _
  have hval : ∀ (j : Nat) t v, Tryd.f7.params[j]? = some t → args[j]? = some v → Value.okWide Tryd.prog W .any base t v := hval0
  have hW' := hW
  obtain ⟨p, q, hA0, hV, rfl, hfz, hnd⟩ := hW
  have hA : DataW.TrodAll enc Tryd.prog W 0 (fun _ => true) true Tryd.f7.params.toList args.toList ds p := hA0
  rw [Tryd.params7] at hA hval
  obtain ⟨v0, vs0, d0, ds0, p0, q0, hargs, rfl, rfl, h0, r0⟩ := trodAll_cons hA
  obtain ⟨v1, vs1, d1, ds1, p1, q1, rfl, rfl, rfl, h1, r1⟩ := trodAll_cons r0
  obtain ⟨rfl, rfl, rfl⟩ := trodAll_nil r1
  obtain rfl : args = #[v0, v1] := by cases args; simp_all
  obtain ⟨rfl, rfl⟩ := trodVars_none hV
  obtain ⟨a0, rfl, rfl, rfl, w0⟩ := open_int Tryd.underlying5 (hval 0 5 v0 rfl rfl) h0
  obtain ⟨a1, rfl, rfl, rfl, w1⟩ := open_int Tryd.underlying3 (hval 1 3 v1 rfl rfl) h1
  clear hA0 hval0
  simp only [List.append_nil] at hW'
  refine (walk a0 a1 w0 w1 W (laid_facts hL)).mono fun e W' ⟨he, bel⟩ => ?_
  subst he
  exact ⟨_, rfl, _, _, _, [], _, [], hW', trodAll_mk1 (shut_bool Tryd.underlying4 _), (trodAll_cons_mk (shut_int Tryd.underlying5 w0) (trodAll_cons_mk (shut_int Tryd.underlying3 w1) trodAll_mk0)), rfl, bel.frame _, fun h => by cases h⟩

theorem over : Rows.goldenRepeatsRow.holds Tryd.pinned (OpenSpec.ofChange Rows.goldenRepeatsSpec) :=
  OpenClaim.holds_of_wide 7 Tryd.f7 rfl rfl rfl rfl rfl rfl rfl ⟨rfl, rfl, rfl, rfl, rfl⟩ rfl rfl rfl rfl rfl (by kernel_rfl) Tryd.func7 (by kernel_rfl)
    (of_decide_eq_true (by kernel_rfl)) (by unfold Func.isWrapper; first | (rw [if_pos (by decide +kernel)]; kernel_rfl) | (rw [if_neg (by decide +kernel)]; exact ⟨rfl, rfl⟩))
    (fun os started H enc _ => lifted os started H enc)

/-- The statement: the tied card. -/
theorem proved : Rows.GoldenRepeatsCardSaid :=
  Claim7.holds_tied_plain_at .later [] [.data, .data, .data] true (true, "bff6ddbdc39f65526b6d7b9580cc599cc37756fb6942dc449d115ae4e50ae4ed") false
    over (fun _ h => by cases h) (by kernel_rfl) (fun _ h => by cases h) goldenRepeats_row_tie rfl ⟨rfl, rfl⟩ (by kernel_rfl) rfl
    (fun f fn hf hfn => by
      obtain rfl : f = 7 := Option.some.inj ((show Tryd.prog.funcNamed "computus/computuslaw06.GoldenRepeats" = some 7 by kernel_rfl).symm.trans hf) |>.symm
      obtain rfl : fn = Tryd.f7 := (Option.some.inj (Tryd.func7.symm.trans hfn)).symm
      exact ⟨by kernel_rfl, fun j t ht => by
        rw [Tryd.params7] at ht
        have hm : t ∈ [5, 3] := by simpa using Array.mem_of_getElem? ht
        have hall : ([5, 3].all fun u => !Tryd.prog.wantsStandIn u) = true := by kernel_rfl
        exact (show Tryd.prog.wantsStandIn t = false by simpa using List.all_eq_true.1 hall t hm)⟩)
    (by kernel_rfl)
#print axioms proved
end Go.Proofs.YtclnpnkjldddcaaDoor.goldenRepeats
