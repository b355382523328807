/- Proved: for every byte calendar and every 64-bit integer year, the law PaschalIsTabular of package computuslaw09 (the paschal full moon is the least date from 21 March on whose new moon, thirteen days earlier, bears the label of the year, and it is at most 28 days later) returns true, and what was in memory is as it was. Condition: the tables of packages julian, gregorian and label (the lengths of the months, the groups of years, the beginnings of the lunations) read as the program's text lays them (the card ties them). -/
import Derived.Test.YtodmpmcnlbkhhaaDoorKp
import Derived.Test.YtodmpmcnlbkhhaaDoorVy
import Derived.WalkKit
import Derived.ProofKit
import Derived.OpenShut
import Derived.ShutString
import Derived.Lib.SmallJoins
import Derived.Deep.RegionHeld3
import Derived.LaidMore
import Derived.Stop.Joined
import Derived.SevenTiedAt
import Derived.Test.YtodmpmcnlbkhhaaDoorCards
import Derived.Test.YtodmpmcnlbkhhaaDoorTie
namespace Go.Proofs.YtodmpmcnlbkhhaaDoor.paschalIsTabular
open Go.ChangeShapes Go.WideShapes Go.ChangeAt Go.RowKit Go.Joins
open Go.ChangeMaps (open_string shut_string)
set_option linter.unusedVariables false      -- a walk need not use every fact

theorem walk_a (u y k : Int)
    (hu : 0 ≤ u) (hu2 : u ≤ 255)
    (HA : ∀ w, Calls Tryd.prog 10 #[.int .i64 (1 + u % 2), .int .i64 y] w fun e w' => e = .returned (.int .i64 k) ∧ w = w')
    (hk : (k != 0) = true)
    (W : World) (ht : PT W) :
    Calls Tryd.prog 4 #[.int .u8 u, .int .i64 y] W fun e w' => e = .returned (.bool true) ∧ Below W.heap.size W w' := by
  have S0 := Lib.hid (PSt.start ht)
  clear ht
  go_enter Tryd.func4, Tryd.ntmps4
  go_wp2_with fail
  refine (c9awake_any _ S0.out.t).mono ?_
  rintro e w1 ⟨rfl, hb1⟩
  have S1 := Lib.hid (S0.out.on hb1)
  clear hb1
  go_wp2_with fail
  refine (HA _).mono ?_
  rintro e wq ⟨rfl, rfl⟩
  go_wp2_with fail
  refine (c9awake_any _ S1.out.t).mono ?_
  rintro e w2 ⟨rfl, hb2⟩
  have S2 := Lib.hid (S1.out.on hb2)
  clear hb2
  go_wp2_with fail
  go_ret
  exact ⟨rfl, S2.out.b⟩
set_option maxRecDepth 100000 in
set_option maxHeartbeats 1000000 in
theorem walk_ok (u y m d n l : Int) (f : Nat) (hu : 0 ≤ u) (hu2 : u ≤ 255) (hf : f ≤ 28) (n1 : -1 ≤ n) (n2 : n ≤ 365249999998)
    (HA : ∀ w, Calls Tryd.prog 10 #[.int .i64 (1 + u % 2), .int .i64 y] w fun e w' => e = .returned (.int .i64 0) ∧ w = w')
    (H1 : ∀ w, PT w → Calls Tryd.prog 9 #[.int .i64 (1 + u % 2), .int .i64 y] w fun e w' => e = .returned (datv y m d 0) ∧ Below w.heap.size w w')
    (H2 : ∀ w, PT w → Calls Tryd.prog 15 #[.int .i64 (1 + u % 2), dtv y m d] w fun e w' => e = .returned (numv (n + f) 0) ∧ Below w.heap.size w w')
    (H3 : ∀ w, PT w → Calls Tryd.prog 15 #[.int .i64 (1 + u % 2), dtv y 3 21] w fun e w' => e = .returned (numv n 0) ∧ Below w.heap.size w w')
    (HL : ∀ w, Calls Tryd.prog 16 #[.int .i64 (1 + u % 2), .int .i64 y] w fun e w' => e = .returned (.int .i64 l) ∧ w = w')
    (HF : ∀ w (k m : Int), m = n + k → -20 ≤ k → k ≤ 40 → PT w → Calls Tryd.prog 17 #[.int .i64 (1 + u % 2), .int .i64 m] w fun e w' => e = .returned (datv y (marM k) (marD k) 0) ∧ Below w.heap.size w w')
    (HB : ∀ j : Nat, j < f → ∀ w, Calls Tryd.prog 18 #[.int .i64 (marM (j - 13)), .int .i64 (marD (j - 13)), .int .i64 l] w fun e w' => e = .returned (.bool false) ∧ Below w.heap.size w w')
    (HB1 : ∀ w, Calls Tryd.prog 18 #[.int .i64 (marM (f - 13)), .int .i64 (marD (f - 13)), .int .i64 l] w fun e w' => e = .returned (.bool true) ∧ Below w.heap.size w w')
    (W : World) (ht : PT W) :
    Calls Tryd.prog 4 #[.int .u8 u, .int .i64 y] W fun e w' => e = .returned (.bool true) ∧ Below W.heap.size W w' := by
  have HFh := Lib.hid HF
  have HBh := Lib.hid HB
  have HB1h := Lib.hid HB1
  clear HF HB HB1
  have S0 := Lib.hid (PSt.start ht)
  clear ht
  go_enter Tryd.func4, Tryd.ntmps4
  go_wp2_with fail
  refine (c9awake_any _ S0.out.t).mono ?_
  rintro e w1 ⟨rfl, hb1⟩
  have S1 := Lib.hid (S0.out.on hb1)
  clear hb1
  go_wp2_with fail
  refine (HA _).mono ?_
  rintro e wq ⟨rfl, rfl⟩
  go_wp2_with fail
  refine (H1 _ S1.out.t).mono ?_
  rintro e w2 ⟨rfl, hb2⟩
  have S2 := Lib.hid (S1.out.on hb2)
  clear hb2
  go_wp2_with fail
  refine (H2 _ (S2.out.al _).t).mono ?_
  rintro e w3 ⟨rfl, hb3⟩
  have S3 := Lib.hid ((S2.out.al _).on hb3)
  have RX3 := Lib.hid (row_on (heap_alloc_new _ _) hb3)
  obtain ⟨cX0, cX1, cX2, gX0, gX1, gX2, zX⟩ := row3 RX3.out
  clear hb3
  go_wp2_with fail
  refine (H3 _ S3.out.t).mono ?_
  rintro e w4 ⟨rfl, hb4⟩
  have S4 := Lib.hid (S3.out.on hb4)
  have RX4 := Lib.hid (row_on RX3.out hb4)
  clear RX3
  clear cX0 cX1 cX2 gX0 gX1 gX2 zX
  obtain ⟨cX0, cX1, cX2, gX0, gX1, gX2, zX⟩ := row3 RX4.out
  clear hb4
  go_wp2_with fail
  refine (HL _).mono ?_
  rintro e wq ⟨rfl, rfl⟩
  clear H1 H2 H3 HL HA
  have n3 : decide (n + (f : Int) < n) = false := decide_eq_false (by omega)
  have n4 : decide (n + 28 < n + (f : Int)) = false := decide_eq_false (by omega)
  go_wp2_with fail
  go_loopw [13] (fun i wr => ∃ j : Nat, j ≤ f + 1 ∧ i = .int .i64 (n + j) ∧ PSt W wr) (fun i _ => (n + f + 1 - intOf i).toNat)
  case atStart => exact ⟨0, by omega, by simp, S4.out⟩
  case round =>
    obtain ⟨j, hj, rfl, hS⟩ := hrel
    have Sr := Lib.hid hS
    clear hS
    by_cases hle : j ≤ f
    · have HFj := Lib.hid (fun w m (hm : m = n + ((j : Int) - 13)) (ht : PT w) => HFh.out w ((j : Int) - 13) m hm (by omega) (by omega) ht)
      by_cases hlt : j < f
      · have HBj := Lib.hid (HBh.out j hlt)
        have e1 : (n + (j : Int) == n + f) = false := beq_eq_false_iff_ne.2 (by omega)
        have e2 : ((j : Int) == f) = false := beq_eq_false_iff_ne.2 (by omega)
        generalize marM ((j : Int) - 13) = M at *
        generalize marD ((j : Int) - 13) = D at *
        go_wp2_with fail
        refine (HFj.out _ _ (by omega) Sr.out.t).mono ?_
        rintro e v1 ⟨rfl, hv1⟩
        have T1 := Lib.hid (Sr.out.on hv1)
        clear hv1
        go_wp2_with fail
        refine (HBj.out _).mono ?_
        rintro e v2 ⟨rfl, hv2⟩
        have T2 := Lib.hid ((T1.out.al _).on hv2)
        clear hv2
        go_wp2_with fail
        go_roundw
        case rel => exact ⟨j + 1, by omega, by go_num, T2.out⟩
        case measure => simp [intOf]; omega
      · obtain rfl : j = f := by omega
        have HBj := HB1h
        clear HB1h HBh
        generalize marM ((j : Int) - 13) = M at *
        generalize marD ((j : Int) - 13) = D at *
        go_wp2_with fail
        refine (HFj.out _ _ (by omega) Sr.out.t).mono ?_
        rintro e v1 ⟨rfl, hv1⟩
        have T1 := Lib.hid (Sr.out.on hv1)
        clear hv1
        go_wp2_with fail
        refine (HBj.out _).mono ?_
        rintro e v2 ⟨rfl, hv2⟩
        have T2 := Lib.hid ((T1.out.al _).on hv2)
        clear hv2
        go_wp2_with fail
        go_roundw
        case rel => exact ⟨j + 1, by omega, by go_num, T2.out⟩
        case measure => simp [intOf]; omega
    · go_wp2_with fail
      go_ret
      exact ⟨rfl, Sr.out.b⟩
theorem walk (u y : Int) (w0 : (Lit.int .u8 u).wf = true) (w1 : (Lit.int .i64 y).wf = true) (W : World) (ht0 : CTab W ∧ LTab W) :
    Calls Tryd.prog 4 #[.int .u8 u, .int .i64 y] W fun e w' => e = .returned (.bool true) ∧ Below W.heap.size W w' := by
  have ht : PT W := ⟨ht0.1, ht0.2⟩
  obtain ⟨hu, hu2⟩ := bounds_u8 w0
  obtain ⟨hw, hc⟩ := wfU u
  have HA := fun w => rfail_any (1 + u % 2) y w
  by_cases h : epE (1 + u % 2) y = 0
  · rw [h] at HA
    obtain ⟨y1, y2⟩ := epE_inY h
    obtain ⟨l1, l2⟩ := lab_bd (1 + u % 2) y
    obtain ⟨f1, f2, f3⟩ := off_all l1 l2
    obtain ⟨n1, n2⟩ := marN_bd hc y1 y2
    have H1 := fun w ht => pfu_any (1 + u % 2) y w hw ht
    rw [(pu_ok h).1, (pu_ok h).2.1, (pu_ok h).2.2, h] at H1
    have H2 := fun w (ht : PT w) => r5day_any y (pfM (lab (1 + u % 2) y)) (pfD (lab (1 + u % 2) y)) w (1 + u % 2) ht.c
    have H3 := fun w (ht : PT w) => r5day_any y 3 21 w (1 + u % 2) ht.c
    obtain ⟨t1, t2⟩ := mar_to hc y1 y2 (k := 0) (by omega) (by omega)
    rw [show marM 0 = 3 from rfl, show marD 0 = 21 from rfl] at t1 t2
    rw [t1, t2, Int.add_zero] at H3
    obtain ⟨q1, q2⟩ := mar_to hc y1 y2 (k := off (lab (1 + u % 2) y)) (by omega) (by omega)
    rw [show pfM (lab (1 + u % 2) y) = marM (off (lab (1 + u % 2) y)) from rfl, show pfD (lab (1 + u % 2) y) = marD (off (lab (1 + u % 2) y)) from rfl, q1, q2] at H2
    refine walk_ok u y _ _ (marN (1 + u % 2) y) (lab (1 + u % 2) y) (off (lab (1 + u % 2) y)) hu hu2 f1 n1 n2 HA H1 H2 H3 (fun w => rlabe_any (1 + u % 2) y w h) (fun w k m hm k1 k2 ht => ?_) (fun j hj w => ?_) (fun w => ?_) W ht
    · obtain ⟨a0, a1, a2, a3⟩ := mar_from hc y1 y2 k1 k2
      have := r5from_any m w (1 + u % 2) ht.c
      rw [hm, a0, a1, a2, a3] at this
      rw [hm]; exact this
    · have := rbears_any (marM (j - 13)) (marD (j - 13)) (lab (1 + u % 2) y) w
      rwa [f3 j hj] at this
    · have := rbears_any (marM (off (lab (1 + u % 2) y) - 13)) (marD (off (lab (1 + u % 2) y) - 13)) (lab (1 + u % 2) y) w
      rwa [f2] at this
  · exact walk_a u y _ hu hu2 HA (tE_ne h) W ht

/-! ### the row's step -/
set_option maxRecDepth 100000 in
theorem lifted (os : Os) (started : os.Started) (H : Type) (enc : TypeId × Value → H) :
    ReturnsInHanded {} Tryd.checked os 4 .any (fun w args => (Rows.paschalIsTabularSpec.pre enc Tryd.prog Tryd.f4 [] false w args ∧ laidMetH Tryd.prog laidL w) ∧ sizedMet enc Tryd.prog Tryd.f4 (OpenSpec.ofChange Rows.paschalIsTabularSpec) false w args)
      (Rows.paschalIsTabularSpec.post enc Tryd.prog Tryd.f4 false true false false) := by
  refine returnsInHanded_of_change_and (C := Tryd.checked) (X := fun w _ => laidMetH Tryd.prog laidL w) (fun _ _ _ hh h => h.of_heap hh) own started (by kernel_rfl) Tryd.func4
    (ChangeSpec.witness_shaped (enc := enc) (C := Tryd.checked) (os := os) (X := fun w _ => laidMetH Tryd.prog laidL w) false (World.doorLaid Tryd.prog 400 os) #[.int .u8 0, .int .i64 0] 8 rfl (World.shaped_of_RefB (by kernel_rfl) (by kernel_rfl)) (by kernel_rfl) (by kernel_rfl) (by kernel_rfl) (door_met os _)) ?_
  intro W base args ds gs before hval0 hW _ _ hL _
  have hval : ∀ (j : Nat) t v, Tryd.f4.params[j]? = some t → args[j]? = some v → Value.okWide Tryd.prog W .any base t v := hval0
  have hW' := hW
  obtain ⟨p, q, hA0, hV, rfl, hfz, hnd⟩ := hW
  have hA : DataW.TrodAll enc Tryd.prog W 0 (fun _ => true) true Tryd.f4.params.toList args.toList ds p := hA0
  rw [Tryd.params4] at hA hval
  obtain ⟨v0, vs0, d0, ds0, p0, q0, hargs, rfl, rfl, h0, r0⟩ := trodAll_cons hA
  obtain ⟨v1, vs1, d1, ds1, p1, q1, rfl, rfl, rfl, h1, r1⟩ := trodAll_cons r0
  obtain ⟨rfl, rfl, rfl⟩ := trodAll_nil r1
  obtain rfl : args = #[v0, v1] := by cases args; simp_all
  obtain ⟨rfl, rfl⟩ := trodVars_none hV
  obtain ⟨a0, rfl, rfl, rfl, w0⟩ := open_int Tryd.underlying5 (hval 0 5 v0 rfl rfl) h0
  obtain ⟨a1, rfl, rfl, rfl, w1⟩ := open_int Tryd.underlying3 (hval 1 3 v1 rfl rfl) h1
  clear hA0 hval0
  simp only [List.append_nil] at hW'
  refine (walk a0 a1 w0 w1 W (laid_facts hL)).mono fun e W' ⟨he, bel⟩ => ?_
  subst he
  exact ⟨_, rfl, _, _, _, [], _, [], hW', trodAll_mk1 (shut_bool Tryd.underlying4 _), (trodAll_cons_mk (shut_int Tryd.underlying5 w0) (trodAll_cons_mk (shut_int Tryd.underlying3 w1) trodAll_mk0)), rfl, bel.frame _, fun h => by cases h⟩

theorem over : Rows.paschalIsTabularRow.holds Tryd.pinned (OpenSpec.ofChange Rows.paschalIsTabularSpec) :=
  OpenClaim.holds_of_wide 4 Tryd.f4 rfl rfl rfl rfl rfl rfl rfl ⟨rfl, rfl, rfl, rfl, rfl⟩ rfl rfl rfl rfl rfl (by kernel_rfl) Tryd.func4 (by kernel_rfl)
    (of_decide_eq_true (by kernel_rfl)) (by unfold Func.isWrapper; first | (rw [if_pos (by decide +kernel)]; kernel_rfl) | (rw [if_neg (by decide +kernel)]; exact ⟨rfl, rfl⟩))
    (fun os started H enc _ => lifted os started H enc)

/-- The statement: the tied card. -/
theorem proved : Rows.PaschalIsTabularCardSaid :=
  Claim7.holds_tied_plain_at .later [] [.data, .data, .data, .data, .data] true (true, "1237d3f1e50856818fa86864392605a27e6a3b74ca523ef2395e1d47a8fcbeee") false
    over (fun _ h => by cases h) (by kernel_rfl) (fun _ h => by cases h) paschalIsTabular_row_tie rfl ⟨rfl, rfl⟩ (by kernel_rfl) rfl
    (fun f fn hf hfn => by
      obtain rfl : f = 4 := Option.some.inj ((show Tryd.prog.funcNamed "computus/computuslaw09.PaschalIsTabular" = some 4 by kernel_rfl).symm.trans hf) |>.symm
      obtain rfl : fn = Tryd.f4 := (Option.some.inj (Tryd.func4.symm.trans hfn)).symm
      exact ⟨by kernel_rfl, fun j t ht => by
        rw [Tryd.params4] at ht
        have hm : t ∈ [5, 3] := by simpa using Array.mem_of_getElem? ht
        have hall : ([5, 3].all fun u => !Tryd.prog.wantsStandIn u) = true := by kernel_rfl
        exact (show Tryd.prog.wantsStandIn t = false by simpa using List.all_eq_true.1 hall t hm)⟩)
    (by kernel_rfl)
#print axioms proved
end Go.Proofs.YtodmpmcnlbkhhaaDoor.paschalIsTabular
