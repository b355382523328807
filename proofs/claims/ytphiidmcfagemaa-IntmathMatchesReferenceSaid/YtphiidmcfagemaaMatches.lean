/- Proved: for any integers and any list, the law that all functions of intmath return what the reference returns gives true, and what was in memory is as it was. No condition. -/
import Derived.Test.YtphiidmcfagemaaW
import Derived.Test.YtphiidmcfagemaaE
import Derived.Test.YtphiidmcfagemaaG
import Derived.Test.YtphiidmcfagemaaH
import Derived.WalkKit
import Derived.ProofKit
import Derived.OpenShut
import Derived.ShutString
import Derived.ChangeOld
import Derived.Below
namespace Go.Proofs.Ytphiidmcfagemaa.intmathMatchesReference
open Go.ChangeShapes Go.WideShapes Go.ChangeAt Go.RowKit
open Go.ChangeMaps (open_string shut_string)
set_option linter.unusedVariables false

theorem own : ownKnob Try.prog.godebug = none := by kernel_rfl
theorem laidOut : laidOutB Try.prog = true := by kernel_rfl

/-- A slice of integers that came in: it is nil, or it leads to a row of cap cells that hold zs. -/
def IsRow (k : IntKind) (w : World) (a : Option Addr) (len cap : Nat) (zs : List Int) : Prop :=
  (a = none ∧ len = 0 ∧ cap = 0 ∧ zs = []) ∨
  ∃ x, a = some x ∧ len ≤ cap ∧ cap ≤ maxLen ∧ zs.length = cap ∧ (∀ i, i < zs.length → w.cell? (x.add i) = some (.int k (zs.getD i 0))) ∧ ∀ n ∈ zs, (Lit.int k n).wf = true

theorem bd_of_wf {a : Int} (h : (Lit.int .i64 a).wf = true) : inR a = true := by
  have hmin : IntKind.i64.min = -9223372036854775808 := rfl
  have hmax : IntKind.i64.max = 9223372036854775807 := rfl
  simp only [Lit.wf, Bool.and_eq_true, decide_eq_true_eq] at h
  rw [inR_iff]; omega

def Two (f : Nat) (x y : Int) (r : Int) (c : Bool) : Prop := ∀ w : World, Calls Try.prog f #[.int .i64 x, .int .i64 y] w fun e w' => e = .returned (.tuple #[.int .i64 r, .bool c]) ∧ Below w.heap.size w w'
def Ask (f : Nat) (x y : Int) (c : Bool) : Prop := ∀ w : World, Calls Try.prog f #[.int .i64 x, .int .i64 y] w fun e w' => e = .returned (.bool c) ∧ w = w'
def Val (f : Nat) (x y : Int) (r : Int) : Prop := ∀ w : World, Calls Try.prog f #[.int .i64 x, .int .i64 y] w fun e w' => e = .returned (.int .i64 r) ∧ w = w'
def Res (n : Int) (ok : Bool) (want : Int) (ex : Bool) : Prop := ∀ w : World, Calls Try.prog 13 #[.int .i64 n, .bool ok, .int .i64 want, .bool ex] w fun e w' => e = .returned (.bool true) ∧ w = w'
def Cl (n l h r : Int) : Prop := ∀ w : World, Calls Try.prog 22 #[.int .i64 n, .int .i64 l, .int .i64 h] w fun e w' => e = .returned (.int .i64 r) ∧ w = w'
def SumTo (v : Value) (W : World) (m : Int) (n : Bool) : Prop := ∀ w, Below W.heap.size W w → Calls Try.prog 20 #[v] w fun e w' => e = .returned (.tuple #[.int .i64 m, .bool n]) ∧ Below w.heap.size w w'
def RSumTo (v : Value) (W : World) (m : Int) (n : Bool) : Prop := ∀ w, Below W.heap.size W w → Calls Try.prog 21 #[v] w fun e w' => e = .returned (.tuple #[.int .i64 m, .bool n]) ∧ w = w'
def Mid (a l h k : Int) : Prop := l ≤ k ∧ k ≤ h ∧ (k = a ∨ (a < l ∧ k = l) ∨ (h < a ∧ k = h))

set_option maxRecDepth 100000 in
theorem walk_no (a b : Int) (p : Option Addr) (len cap : Nat) (l h : Int) (w : World) (hlen : 100 < len) :
    Calls Try.prog 3 #[.int .i64 a, .int .i64 b, .slice p len cap, .int .i64 l, .int .i64 h] w fun e w' => e = .returned (.bool true) ∧ Below w.heap.size w w' := by
  go_enter Try.func3, Try.ntmps3
  go_wp2_with fail
  refine (awake_any _).mono ?_
  rintro e w1 ⟨rfl, hb1⟩
  go_wp2_with fail
  refine (awake_any _).mono ?_
  rintro e w2 ⟨rfl, hb2⟩
  go_wp2_with fail
  go_ret
  exact ⟨rfl, hb1.trans (hb2.mono hb1.size)⟩

set_option maxHeartbeats 1000000 in
set_option maxRecDepth 100000 in
theorem core_y (a b s d g m k : Int) (ab sb mb n : Bool) (q r : Int) (p : Option Addr) (len cap : Nat) (l h : Int) (w : World) (hlen : len ≤ 100)
    (H8 : Ask 8 a b true) (HQ : Val 9 a b q) (HR : Val 10 a b r) (HD : Two 11 a b q true) (HM : Two 12 a b r true) (R1 : Res q true q true) (R2 : Res r true r true)
    (HA : Two 14 a b s ab) (HS : Two 15 a b d sb) (HP : Two 16 a b g mb) (A1 : Ask 17 a b ab) (A2 : Ask 18 a b sb) (A3 : Ask 19 a b mb)
    (R3 : Res s ab (wrap64 (a + b)) ab) (R4 : Res d sb (wrap64 (a - b)) sb) (R5 : Res g mb (wrap64 (a * b)) mb)
    (HT : SumTo (.slice p len cap) w m n) (HU : RSumTo (.slice p len cap) w m n) (HC : l ≤ h → Cl a l h k ∧ Hid (Mid a l h k)) (HC' : h < l → Cl a h l k ∧ Hid (Mid a h l k)) :
    Calls Try.prog 3 #[.int .i64 a, .int .i64 b, .slice p len cap, .int .i64 l, .int .i64 h] w fun e w' => e = .returned (.bool true) ∧ Below w.heap.size w w' := by
  go_enter Try.func3, Try.ntmps3
  go_wp2_with fail
  refine (awake_any _).mono ?_
  rintro e w1 ⟨rfl, hb1⟩
  go_wp2_with fail
  refine (H8 _).mono ?_
  rintro e wq ⟨rfl, rfl⟩
  go_wp2_with fail
  refine (HQ _).mono ?_
  rintro e wq ⟨rfl, rfl⟩
  go_wp2_with fail
  refine (HR _).mono ?_
  rintro e wq ⟨rfl, rfl⟩
  go_wp2_with fail
  refine (HD _).mono ?_
  rintro e w2 ⟨rfl, hb2⟩
  go_wp2_with fail
  refine (HM _).mono ?_
  rintro e w3 ⟨rfl, hb3⟩
  go_wp2_with fail
  refine (H8 _).mono ?_
  rintro e wq ⟨rfl, rfl⟩
  go_wp2_with fail
  refine (R1 _).mono ?_
  rintro e wq ⟨rfl, rfl⟩
  go_wp2_with fail
  refine (H8 _).mono ?_
  rintro e wq ⟨rfl, rfl⟩
  go_wp2_with fail
  refine (R2 _).mono ?_
  rintro e wq ⟨rfl, rfl⟩
  go_wp2_with fail
  refine (HA _).mono ?_
  rintro e w4 ⟨rfl, hb4⟩
  go_wp2_with fail
  refine (HS _).mono ?_
  rintro e w5 ⟨rfl, hb5⟩
  go_wp2_with fail
  refine (HP _).mono ?_
  rintro e w6 ⟨rfl, hb6⟩
  go_wp2_with fail
  refine (A1 _).mono ?_
  rintro e wq ⟨rfl, rfl⟩
  go_wp2_with fail
  refine (R3 _).mono ?_
  rintro e wq ⟨rfl, rfl⟩
  go_wp2_with fail
  refine (A2 _).mono ?_
  rintro e wq ⟨rfl, rfl⟩
  go_wp2_with fail
  refine (R4 _).mono ?_
  rintro e wq ⟨rfl, rfl⟩
  go_wp2_with fail
  refine (A3 _).mono ?_
  rintro e wq ⟨rfl, rfl⟩
  go_wp2_with fail
  refine (R5 _).mono ?_
  rintro e wq ⟨rfl, rfl⟩
  go_wp2_with fail
  have k1 := hb1.size; have k2 := hb2.size; have k3 := hb3.size; have k4 := hb4.size; have k5 := hb5.size; have k6 := hb6.size
  have hbel : Below w.heap.size w w6 := (((((hb1.trans (hb2.mono (by omega))).trans (hb3.mono (by omega))).trans (hb4.mono (by omega))).trans (hb5.mono (by omega))).trans (hb6.mono (by omega)))
  clear hb1 hb2 hb3 hb4 hb5 hb6
  refine (HT _ hbel).mono ?_
  rintro e wt ⟨rfl, hbt⟩
  have hbel2 : Below w.heap.size w wt := hbel.trans (hbt.mono (by omega))
  clear hbel hbt k1 k2 k3 k4 k5 k6
  go_wp2_with fail
  refine (HU _ hbel2).mono ?_
  rintro e wq ⟨rfl, rfl⟩
  clear HT HU
  rcases Int.lt_or_le h l with hlh | hlh
  · obtain ⟨hc, hmid⟩ := HC' hlh
    clear HC HC'
    go_wp2_with fail
    refine (hc _).mono ?_
    rintro e wq ⟨rfl, rfl⟩
    obtain ⟨u1, u2, rfl | ⟨u3, rfl⟩ | ⟨u3, rfl⟩⟩ := hmid.out
    all_goals
      clear hmid
      go_wp2_with fail
    all_goals
      go_ret
      exact ⟨rfl, hbel2⟩
  · obtain ⟨hc, hmid⟩ := HC hlh
    clear HC HC'
    go_wp2_with fail
    refine (hc _).mono ?_
    rintro e wq ⟨rfl, rfl⟩
    obtain ⟨u1, u2, rfl | ⟨u3, rfl⟩ | ⟨u3, rfl⟩⟩ := hmid.out
    all_goals
      clear hmid
      go_wp2_with fail
    all_goals
      go_ret
      exact ⟨rfl, hbel2⟩

set_option maxHeartbeats 1000000 in
set_option maxRecDepth 100000 in
theorem core_n (a b s d g m k : Int) (ab sb mb n : Bool) (p : Option Addr) (len cap : Nat) (l h : Int) (w : World) (hlen : len ≤ 100)
    (H8 : Ask 8 a b false) (HD : Two 11 a b 0 false) (HM : Two 12 a b 0 false) (R1 : Res 0 false 0 false) (R2 : Res 0 false 0 false)
    (HA : Two 14 a b s ab) (HS : Two 15 a b d sb) (HP : Two 16 a b g mb) (A1 : Ask 17 a b ab) (A2 : Ask 18 a b sb) (A3 : Ask 19 a b mb)
    (R3 : Res s ab (wrap64 (a + b)) ab) (R4 : Res d sb (wrap64 (a - b)) sb) (R5 : Res g mb (wrap64 (a * b)) mb)
    (HT : SumTo (.slice p len cap) w m n) (HU : RSumTo (.slice p len cap) w m n) (HC : l ≤ h → Cl a l h k ∧ Hid (Mid a l h k)) (HC' : h < l → Cl a h l k ∧ Hid (Mid a h l k)) :
    Calls Try.prog 3 #[.int .i64 a, .int .i64 b, .slice p len cap, .int .i64 l, .int .i64 h] w fun e w' => e = .returned (.bool true) ∧ Below w.heap.size w w' := by
  go_enter Try.func3, Try.ntmps3
  go_wp2_with fail
  refine (awake_any _).mono ?_
  rintro e w1 ⟨rfl, hb1⟩
  go_wp2_with fail
  refine (H8 _).mono ?_
  rintro e wq ⟨rfl, rfl⟩
  go_wp2_with fail
  refine (HD _).mono ?_
  rintro e w2 ⟨rfl, hb2⟩
  go_wp2_with fail
  refine (HM _).mono ?_
  rintro e w3 ⟨rfl, hb3⟩
  go_wp2_with fail
  refine (H8 _).mono ?_
  rintro e wq ⟨rfl, rfl⟩
  go_wp2_with fail
  refine (R1 _).mono ?_
  rintro e wq ⟨rfl, rfl⟩
  go_wp2_with fail
  refine (H8 _).mono ?_
  rintro e wq ⟨rfl, rfl⟩
  go_wp2_with fail
  refine (R2 _).mono ?_
  rintro e wq ⟨rfl, rfl⟩
  go_wp2_with fail
  refine (HA _).mono ?_
  rintro e w4 ⟨rfl, hb4⟩
  go_wp2_with fail
  refine (HS _).mono ?_
  rintro e w5 ⟨rfl, hb5⟩
  go_wp2_with fail
  refine (HP _).mono ?_
  rintro e w6 ⟨rfl, hb6⟩
  go_wp2_with fail
  refine (A1 _).mono ?_
  rintro e wq ⟨rfl, rfl⟩
  go_wp2_with fail
  refine (R3 _).mono ?_
  rintro e wq ⟨rfl, rfl⟩
  go_wp2_with fail
  refine (A2 _).mono ?_
  rintro e wq ⟨rfl, rfl⟩
  go_wp2_with fail
  refine (R4 _).mono ?_
  rintro e wq ⟨rfl, rfl⟩
  go_wp2_with fail
  refine (A3 _).mono ?_
  rintro e wq ⟨rfl, rfl⟩
  go_wp2_with fail
  refine (R5 _).mono ?_
  rintro e wq ⟨rfl, rfl⟩
  go_wp2_with fail
  have k1 := hb1.size; have k2 := hb2.size; have k3 := hb3.size; have k4 := hb4.size; have k5 := hb5.size; have k6 := hb6.size
  have hbel : Below w.heap.size w w6 := (((((hb1.trans (hb2.mono (by omega))).trans (hb3.mono (by omega))).trans (hb4.mono (by omega))).trans (hb5.mono (by omega))).trans (hb6.mono (by omega)))
  clear hb1 hb2 hb3 hb4 hb5 hb6
  refine (HT _ hbel).mono ?_
  rintro e wt ⟨rfl, hbt⟩
  have hbel2 : Below w.heap.size w wt := hbel.trans (hbt.mono (by omega))
  clear hbel hbt k1 k2 k3 k4 k5 k6
  go_wp2_with fail
  refine (HU _ hbel2).mono ?_
  rintro e wq ⟨rfl, rfl⟩
  clear HT HU
  rcases Int.lt_or_le h l with hlh | hlh
  · obtain ⟨hc, hmid⟩ := HC' hlh
    clear HC HC'
    go_wp2_with fail
    refine (hc _).mono ?_
    rintro e wq ⟨rfl, rfl⟩
    obtain ⟨u1, u2, rfl | ⟨u3, rfl⟩ | ⟨u3, rfl⟩⟩ := hmid.out
    all_goals
      clear hmid
      go_wp2_with fail
    all_goals
      go_ret
      exact ⟨rfl, hbel2⟩
  · obtain ⟨hc, hmid⟩ := HC hlh
    clear HC HC'
    go_wp2_with fail
    refine (hc _).mono ?_
    rintro e wq ⟨rfl, rfl⟩
    obtain ⟨u1, u2, rfl | ⟨u3, rfl⟩ | ⟨u3, rfl⟩⟩ := hmid.out
    all_goals
      clear hmid
      go_wp2_with fail
    all_goals
      go_ret
      exact ⟨rfl, hbel2⟩

theorem clamp_mem {n l h : Int} (hlh : l ≤ h) : Mid n l h (clampI n l h) := by
  unfold Mid clampI
  by_cases h1 : n < l
  · rw [if_pos h1]; omega
  · rw [if_neg h1]
    by_cases h2 : h < n
    · rw [if_pos h2]; omega
    · rw [if_neg h2]; omega

theorem clamp_swap {n l h : Int} (hlh : l ≤ h) : Cl n l h (clampI n l h) ∧ Hid (Mid n l h (clampI n l h)) :=
  ⟨fun w => clamp_any n l h w, hide (clamp_mem hlh)⟩

theorem res_of {n want : Int} {ok ex : Bool} (h : resB n ok want ex = true) : Res n ok want ex := fun w => by
  have H := result_any n want ok ex w
  rw [h] at H
  exact H
theorem res_in (x : Int) : Res (ifb (inR x) x) (inR x) (wrap64 x) (inR x) := res_of (by
  cases h : inR x
  · rw [ifb_false]; rfl
  · rw [ifb_true, wrap64_of _ h]; simp [resB])
theorem res_no : Res 0 false 0 false := res_of rfl
theorem res_yes (x : Int) : Res x true x true := res_of (by simp [resB])

theorem sums (p : Option Addr) (len cap : Nat) (zs : List Int) (W : World) (hr : IsRow .i64 W p len cap zs) :
    SumTo (.slice p len cap) W (sm 0 (zs.take len)).1 (sm 0 (zs.take len)).2 ∧ RSumTo (.slice p len cap) W (sm 0 (zs.take len)).1 (sm 0 (zs.take len)).2 := by
  by_cases h0 : len = 0
  · subst h0
    rw [List.take_zero]
    exact ⟨fun w _ => sum_empty p cap w, fun w _ => rsum_empty p cap w⟩
  · rcases hr with ⟨_, h, _⟩ | ⟨x, rfl, hl, hm, hz, hc, hw⟩
    · exact absurd h h0
    · obtain ⟨b, off, rfl, hcell⟩ := ints_at hc (by omega)
      have hb : b < W.heap.size := World.block_lt_of_cell? _ _ (hcell 0 (by omega))
      unfold maxLen at hm
      have hin : ∀ n ∈ zs, inR n = true := fun n hn => bd_of_wf (hw n hn)
      refine ⟨fun w hB => ?_, fun w hB => ?_⟩
      · exact sum_row b off len cap zs w (by omega) (by omega) (by have := hB.size; omega) hin (fun j hj => (hB.cell (p := ⟨b, off + j, none⟩) hb).trans (hcell j hj))
      · exact rsum_row b off len cap zs w (by omega) (by omega) hin (fun j hj => (hB.cell (p := ⟨b, off + j, none⟩) hb).trans (hcell j hj))

theorem walk (a b : Int) (p : Option Addr) (len cap : Nat) (zs : List Int) (l h : Int) (w : World) (w0 : (Lit.int .i64 a).wf = true) (w1 : (Lit.int .i64 b).wf = true) (w2 : IsRow .i64 w p len cap zs) (w3 : (Lit.int .i64 l).wf = true) (w4 : (Lit.int .i64 h).wf = true) :
    Calls Try.prog 3 #[.int .i64 a, .int .i64 b, .slice p len cap, .int .i64 l, .int .i64 h] w fun e w' => e = .returned (.bool true) ∧ Below w.heap.size w w' := by
  have ha := bd_of_wf w0
  have hb := bd_of_wf w1
  by_cases hlen : 100 < len
  · exact walk_no a b p len cap l h w hlen
  obtain ⟨HT, HU⟩ := sums p len cap zs w w2
  have H8 : Ask 8 a b _ := fun w => splits_any a b w
  have HD : Two 11 a b _ _ := fun w => div_any a b w ha
  have HM : Two 12 a b _ _ := fun w => mod_any a b w ha hb
  have HA : Two 14 a b _ _ := fun w => add_any a b w ha hb
  have HS : Two 15 a b _ _ := fun w => sub_any a b w ha hb
  have HP : Two 16 a b _ _ := fun w => mul_any a b w ha hb
  have A1 : Ask 17 a b _ := fun w => adds_any a b w ha hb
  have A2 : Ask 18 a b _ := fun w => subs_any a b w ha hb
  have A3 : Ask 19 a b _ := fun w => muls_any a b ha hb w
  have C1 : l ≤ h → Cl a l h (clampI a (min l h) (max l h)) ∧ Hid (Mid a l h (clampI a (min l h) (max l h))) := fun g => by
    rw [Int.min_eq_left g, Int.max_eq_right g]; exact clamp_swap g
  have C2 : h < l → Cl a h l (clampI a (min l h) (max l h)) ∧ Hid (Mid a h l (clampI a (min l h) (max l h))) := fun g => by
    rw [Int.min_eq_right (by omega), Int.max_eq_left (by omega)]; exact clamp_swap (by omega)
  cases hs : spl a b
  · rw [hs] at H8 HD HM
    rw [ifb_false] at HD HM
    exact core_n a b _ _ _ _ _ _ _ _ _ p len cap l h w (by omega) H8 HD HM res_no res_no HA HS HP A1 A2 A3 (res_in _) (res_in _) (res_in _) HT HU C1 C2
  · rw [hs] at H8 HD HM
    rw [ifb_true] at HD HM
    exact core_y a b _ _ _ _ _ _ _ _ _ _ _ p len cap l h w (by omega) H8 (fun w => rdiv_any a b w ha hs) (fun w => rmod_any a b w ha hb hs) HD HM (res_yes _) (res_yes _) HA HS HP A1 A2 A3 (res_in _) (res_in _) (res_in _) HT HU C1 C2

/-! ### THE ROW's STEP -/
set_option maxRecDepth 100000 in
theorem lifted (os : Os) (started : os.Started) (H : Type) (enc : TypeId × Value → H) :
    ReturnsInHanded {} Try.checked os 3 .any (Rows.intmathMatchesReferenceSpec.pre6 enc Try.prog Try.f3 Rows.intmathMatchesReferenceRow.domain false) (Rows.intmathMatchesReferenceSpec.post enc Try.prog Try.f3 false true false false) := by
  refine returnsInHanded_of_change (C := Try.checked) own started (by kernel_rfl) Try.func3
    (ChangeSpec.witness6 (enc := enc) (C := Try.checked) false ⟨#[], #[.int .i64 0, .int .i64 0, .slice none 0 0, .int .i64 0, .int .i64 0], []⟩ 8 (by kernel_rfl) (by kernel_rfl) (by kernel_rfl) (by kernel_rfl)) ?_
  intro W base args ds gs before hval0 hW hcnd _
  have hval : ∀ (j : Nat) t v, Try.f3.params[j]? = some t → args[j]? = some v → Value.okWide Try.prog W .any base t v := hval0
  have hW' := hW
  obtain ⟨p, q, hA0, hV, rfl, hfz, hnd⟩ := hW
  have hA : DataW.TrodAll enc Try.prog W 0 (fun _ => true) true Try.f3.params.toList args.toList ds p := hA0
  rw [Try.params3] at hA hval
  obtain ⟨v0, vs0, d0, ds0, p0, q0, hargs, rfl, rfl, h0, r0⟩ := trodAll_cons hA
  obtain ⟨v1, vs1, d1, ds1, p1, q1, rfl, rfl, rfl, h1, r1⟩ := trodAll_cons r0
  obtain ⟨v2, vs2, d2, ds2, p2, q2, rfl, rfl, rfl, h2, r2⟩ := trodAll_cons r1
  obtain ⟨v3, vs3, d3, ds3, p3, q3, rfl, rfl, rfl, h3, r3⟩ := trodAll_cons r2
  obtain ⟨v4, vs4, d4, ds4, p4, q4, rfl, rfl, rfl, h4, r4⟩ := trodAll_cons r3
  obtain ⟨rfl, rfl, rfl⟩ := trodAll_nil r4
  obtain rfl : args = #[v0, v1, v2, v3, v4] := by cases args; simp_all
  obtain ⟨rfl, rfl⟩ := trodVars_none hV
  obtain ⟨a0, rfl, rfl, rfl, w0⟩ := open_int Try.underlying3 (hval 0 3 v0 rfl rfl) h0
  obtain ⟨a1, rfl, rfl, rfl, w1⟩ := open_int Try.underlying3 (hval 1 3 v1 rfl rfl) h1
  obtain ⟨a2, len2, cap2, rfl⟩ := okWide_slice Try.underlying22 (hval 2 22 v2 rfl rfl)
  have k2 := h2
  have lt2 : ∀ x ∈ p2, x.block < W.heap.size := by obtain ⟨m, hm⟩ := k2; exact DataW.trod_lt m _ _ _ hm
  obtain ⟨z2, w2⟩ : ∃ zs, IsRow .i64 W a2 len2 cap2 zs := by
    obtain ⟨fuel, hf⟩ := h2
    rcases open_ints Try.underlying22 Try.underlying3 (by kernel_rfl) hf with ⟨hcs, _⟩ | ⟨x, l, c, zs, hcs, _, hl, hm, hz, _, hcell, hwz⟩
    · simp [Value.cells] at hcs
      obtain ⟨rfl, rfl, rfl⟩ := hcs
      exact ⟨[], .inl ⟨rfl, rfl, rfl, rfl⟩⟩
    · simp [Value.cells] at hcs
      obtain ⟨rfl, rfl, rfl⟩ := hcs
      exact ⟨zs, .inr ⟨_, rfl, hl, hm, by simpa using hz, hcell, hwz⟩⟩
  obtain ⟨a3, rfl, rfl, rfl, w3⟩ := open_int Try.underlying3 (hval 3 3 v3 rfl rfl) h3
  obtain ⟨a4, rfl, rfl, rfl, w4⟩ := open_int Try.underlying3 (hval 4 3 v4 rfl rfl) h4
  clear hA0 hval0
  refine (walk a0 a1 a2 len2 cap2 z2 a3 a4 W w0 w1 w2 w3 w4).mono fun e W' ⟨he, bel⟩ => ?_
  subst he
  exact ⟨_, rfl, _, _, _, [], _, [], hW', trodAll_mk1 (shut_bool Try.underlying4 _), (trodAll_cons_mk (shut_int Try.underlying3 w0) (trodAll_cons_mk (shut_int Try.underlying3 w1) (trodAll_cons_mk (Below.trod laidOut (by kernel_rfl) (of_decide_eq_true (by kernel_rfl)) k2 bel lt2) (trodAll_cons_mk (shut_int Try.underlying3 w3) (trodAll_cons_mk (shut_int Try.underlying3 w4) trodAll_mk0))))), rfl, bel.frame _, fun h => by cases h⟩

theorem over : Rows.intmathMatchesReferenceRow.holds Try.pinned (OpenSpec.ofChange Rows.intmathMatchesReferenceSpec) :=
  OpenClaim.holds_of_wide 3 Try.f3 rfl rfl rfl rfl rfl rfl rfl ⟨rfl, rfl, rfl, rfl, rfl⟩ rfl rfl rfl rfl rfl (by kernel_rfl) Try.func3 (by kernel_rfl)
    (of_decide_eq_true (by kernel_rfl)) (by unfold Func.isWrapper; first | (rw [if_pos (by decide +kernel)]; kernel_rfl) | (rw [if_neg (by decide +kernel)]; exact ⟨rfl, rfl⟩))
    (fun os started H enc _ => lifted os started H enc)

/-- The statement. -/
theorem proved : Rows.IntmathMatchesReferenceSaid := over
#print axioms proved
end Go.Proofs.Ytphiidmcfagemaa.intmathMatchesReference
