/- Package transfer: moveAll (one search from the day taken last; a map of the days taken; an inner loop left by a label), lastImpeded, Assign, Taken, Room; TP holds. -/
import Derived.Test.YtaifhikhdcnacaaAe
import Derived.Maps.Own
import Derived.Maps.Views
import Derived.Deep.LoopGhost
import Derived.OwnWalk
namespace Go.Proofs.Ytaifhikhdcnacaa
open Go.RowKit Go.WideMaps Go.Maps

/-! plain -/
/-- Where the search stands: from the day d on nothing up to T is left free, and beyond T nothing has been taken. -/
structure SrF (fr L : List Bool) (d T : Int) : Prop where
  len : L.length = fr.length
  no : ∀ t : Nat, d < (t : Int) → (t : Int) ≤ T → L.getD t false = false
  yes : ∀ t : Nat, T < (t : Int) → L.getD t false = fr.getD t false
theorem SrF.zero (fr : List Bool) : SrF fr fr 0 (-1) := ⟨rfl, fun t h1 h2 => by omega, fun t _ => rfl⟩
theorem SrF.next {fr L : List Bool} {d T : Int} (h : SrF fr L d T) : SrF fr L (d + 1) T := ⟨h.len, fun t h1 h2 => h.no t (by omega) h2, h.yes⟩
theorem SrF.max {fr L : List Bool} {d T : Int} (h : SrF fr L d T) : SrF fr L d (if T < d then d else T) := by
  by_cases g : T < d
  · rw [if_pos g]; exact ⟨h.len, fun t h1 h2 => by omega, fun t h1 => h.yes t (by omega)⟩
  · rw [if_neg g]; exact h
theorem SrF.nx {fr L : List Bool} {d T : Nat} (h : SrF fr L d T) (hd : d ≤ T) {t : Nat} (h1 : T + 1 ≤ t) (h2 : t < fr.length) (h3 : fr.getD t false = true) (h4 : ∀ s, T + 1 ≤ s → s < t → fr.getD s false = false) : nxF L (d + 1) = t ∧ SrF fr (L.set t false) d t := by
  have hl := h.len
  have below : ∀ i, d + 1 ≤ i → i < t → L.getD i false = false := fun i i1 i2 => by
    by_cases g : i ≤ T
    · exact h.no i (by omega) (by omega)
    · rw [h.yes i (by omega)]; exact h4 i (by omega) i2
  refine ⟨nxF_eq (by omega) (by omega) (by rw [h.yes t (by omega)]; exact h3) below, by simpa using hl, fun s s1 s2 => ?_, fun s s1 => ?_⟩
  · rw [getD_set _ _ _ _ (by omega)]
    split
    · rfl
    · exact below s (by omega) (by omega)
  · rw [getD_set _ _ _ _ (by omega), if_neg (by omega)]
    exact h.yes s (by omega)
theorem SrF.out {fr L : List Bool} {d T : Nat} (h : SrF fr L d T) (h4 : ∀ s, T + 1 ≤ s → s < fr.length → fr.getD s false = false) : ¬ nxF L (d + 1) < L.length :=
  nxF_out fun i i1 i2 => by
    have hl := h.len
    by_cases g : i ≤ T
    · exact h.no i (by omega) (by omega)
    · rw [h.yes i (by omega)]; exact h4 i (by omega) (by omega)
/-- What the map of the days taken reads as. -/
structure TkD (ms : List Mv) (D : DataW Unit) : Prop where
  m : IsMap D
  a : ∀ t : Nat, D.atKey (.int .i64 t) (.lit (.bool false)) = .lit (.bool (tkn ms t))
theorem TkD.zero : TkD [] (.map []) := ⟨isMap_empty, fun _ => rfl⟩
theorem TkD.put {ms : List Mv} {D : DataW Unit} (h : TkD ms D) (f d : Int) (t : Nat) : TkD (ms ++ [(f, d, (t : Int))]) (D.put (.int .i64 t) (.lit (.bool true))) := by
  refine ⟨h.m.put _ _, fun s => ?_⟩
  rw [tkn_snoc]
  by_cases g : s = t
  · subst g
    rw [atKey_put_same h.m (show WideAt.IsKeyLit (.int .i64 s) from trivial)]
    simp
  · have hne : Lit.int .i64 (s : Int) ≠ Lit.int .i64 (t : Int) := fun e => g (by injection e with _ e; omega)
    rw [atKey_put_other hne, h.a s, decide_eq_false (show ¬ ((f, d, (t : Int)) : Mv).2.2 = (s : Int) from fun e => g (by dsimp only at e; omega)), Bool.or_false]

theorem infoMm : (Try.prog.info? 36).map (fun i => (i.zero, i.size, i.bytes)) = some (some (.agg #[.int .i64 0, .int .i64 0, .int .i64 0]), 3, 24) := by kernel_rfl
theorem wf_small {t : Nat} (h : t ≤ 100000) : (Lit.int .i64 (t : Int)).wf = true := by
  have a : IntKind.i64.min ≤ (t : Int) := by show (-9223372036854775808 : Int) ≤ t; omega
  have b : (t : Int) ≤ IntKind.i64.max := by show (t : Int) ≤ 9223372036854775807; omega
  show (decide (IntKind.i64.min ≤ (t : Int)) && decide ((t : Int) ≤ IntKind.i64.max)) = true
  rw [decide_eq_true a, decide_eq_true b]; rfl
theorem int_law : Keyed Try.prog 3 := int_keyed Try.underlying3
theorem zero_bl (w : World) : (zeroValue 4).run Try.prog w = .ok (.bool false) w := by kernel_rfl
set_option maxRecDepth 100000 in
theorem bl_inv {v : Value} {b : Bool} {ps : List MemPlace} (h : plainElem (H := Unit) Try.prog 4 v = some (.lit (.bool b), ps)) : v = .bool b := by
  unfold plainElem at h
  rw [Try.underlying4] at h
  cases v <;> simp at h
  rw [h.1]
/-- What moveAll hands back: the moves, the map of the days taken (if it does not fail), the error. -/
def RetMA (W : World) (fr : List Bool) (imp : List (List Int)) (e : Ending) (w' : World) : Prop :=
  ∃ v tv, e = .returned (.tuple #[v, tv, .int .i64 (asE fr imp)]) ∧ OwM 36 W.heap.size v (asM fr imp) w' ∧ Below W.heap.size W w' ∧
    (asE fr imp = 0 → tv = .map (some W.heap.size) ∧ ∃ n D, w'.ownsMap Try.prog 3 (plainElem Try.prog 4) W.heap.size n D ∧ TkD (asM fr imp) D)
theorem p22ma_far (fr : List Bool) (imp : List (List Int)) (vf vi : Value) (W : World) (h : fr.length ≠ imp.length) (h1 : BlAt W vf fr) (h2 : LsAt W vi imp) : Calls Try.prog 18 #[vf, vi] W (RetMA W fr imp) := by
  obtain ⟨A1, c1, rfl, n1, n2, _⟩ := h1
  obtain ⟨f, ⟨A2, c2, rfl, m1, m2, h3⟩, h4⟩ := h2
  clear h3 h4
  have HA := Lib.hid (as_far h)
  have k1 : ((fr.length : Int) != (imp.length : Int)) = true := bne_iff_ne.2 (by omega)
  go_enter Try.func18, Try.ntmps18
  go_wp2_with fail
  go_ret3
  unfold RetMA
  rw [HA.out.1, HA.out.2]
  exact ⟨_, _, rfl, OwM.nil _ _ _, Below.refl _ _, fun e => absurd e (by decide)⟩
set_option maxHeartbeats 4000000 in
set_option maxRecDepth 100000 in
theorem p22ma_same (fr : List Bool) (imp : List (List Int)) (vf vi : Value) (W : World) (hE : fr.length = imp.length) (hl : fr.length ≤ 400) (h100 : ∀ d, (imp.getD d []).length ≤ 100) (hS : sumF imp imp.length ≤ 400) (h1 : BlAt W vf fr) (h2 : LsAt W vi imp) :
    Calls Try.prog 18 #[vf, vi] W (RetMA W fr imp) := by
  obtain ⟨j0, ji, jz0, jz1, jz2⟩ := info_parts infoMm
  have hmm := @run_makeMap Try.prog
  obtain ⟨A1, c1, rfl, n1, n2, h3⟩ := h1
  obtain ⟨A2, c2, rfl, h4⟩ := h2.day
  have H3 := Lib.hid h3
  have H4 := Lib.hid h4
  have HE := Lib.hid hE
  have HS := Lib.hid hS
  have HH := Lib.hid h100
  have k1 : ((fr.length : Int) != (imp.length : Int)) = false := bne_eq_false_iff_eq.2 (by omega)
  clear h3 h4 h2 hS h100 hE
  go_enter Try.func18, Try.ntmps18
  go_wp2
  go_loopg [7, 9, 22] imp.length (fun g v tt i wr => ∃ (day : Nat) (L : List Bool) (ms : List Mv) (T : Int) (D : DataW Unit), day + g = imp.length ∧ i = .int .i64 day ∧ tt = .int .i64 T ∧ -1 ≤ T ∧ T < fr.length ∧ wr.ownsMap Try.prog 3 (plainElem Try.prog 4) W.heap.size ms.length D ∧ TkD ms D ∧
    OwM 36 (W.heap.size + 1) v ms wr ∧ Below W.heap.size W wr ∧ W.heap.size + 1 ≤ wr.heap.size ∧ ms.length = sumF imp day ∧ SrF fr L day T ∧ runF fr (jobsF imp day) = some (L, ms))
  case atStart => exact ⟨0, fr, [], -1, .map [], by omega, rfl, rfl, by omega, by omega, World.ownsMap_made _ _ _ _, TkD.zero, OwM.nil _ _ _, (Below.refl _ _).alloc (Nat.le_refl _) _, by simp, rfl, SrF.zero fr, rfl⟩
  case round =>
    obtain ⟨day, L, ms, T, D, hg, rfl, rfl, hT1, hT2, hO, hD, hM, hb, hz, hn, hJ, hr⟩ := hrel
    have QO := Lib.hid hO
    have QD := Lib.hid hD
    have QM := Lib.hid hM
    have QB := Lib.hid hb
    have QN := Lib.hid hn
    have QJ := Lib.hid hJ
    have QR := Lib.hid hr
    clear hO hD hM hb hn hJ hr
    cases gk with
    | zero =>
      have hday : ¬ ((day : Int) < (imp.length : Int)) := by omega
      obtain rfl : day = imp.length := by omega
      have HA := Lib.hid (as_yes HE.out QR.out)
      go_wp2_with fail
      try rw [Exit.noGoto_ret]
      go_ret3
      unfold RetMA
      rw [HA.out.1, HA.out.2]
      exact ⟨_, _, rfl, QM.out.lower (by omega), QB.out, fun _ => ⟨rfl, _, _, QO.out, QD.out⟩⟩
    | succ g =>
      have hlt : day < imp.length := by omega
      obtain ⟨b, o, A3, c3, rfl, e2, e3, p2, h5⟩ := H4.out day hlt
      have H5 := Lib.hid h5
      have E3 := Lib.hid e3
      have hq := HH.out day
      have HSd := Lib.hid (sumF_succ hlt)
      have HSm := Lib.hid (sumF_mono (show day + 1 ≤ imp.length by omega) (Nat.le_refl _))
      have JS := Lib.hid (jobsF_succ imp day)
      have RS := Lib.hid (fun (k : Nat) (hk : k + 1 ≤ (imp.getD day []).length) (h : runF fr (jobsF imp day ++ dayF imp day (k + 1)) = none) => run_stop hlt hk h)
      have DS := Lib.hid (fun (k : Nat) (f : Int) (h : (imp.getD day [])[k]? = some f) => dayF_succ h)
      clear h5
      obtain ⟨X, hX⟩ : ∃ X, imp.getD day [] = X := ⟨_, rfl⟩
      rw [hX] at H5 E3 e3 p2 hq HSd RS DS
      have HXX := Lib.hid hX
      clear hX e3
      have hc0 : wr.cell? ⟨b, o + day, none⟩ = some (.slice A3 X.length c3) := cell_below E3.out QB.out
      have hJx := QJ.out.max
      obtain ⟨U, hU⟩ : ∃ U : Nat, (if T < (day : Int) then (day : Int) else T) = (U : Int) := ⟨(if T < (day : Int) then (day : Int) else T).toNat, by split <;> omega⟩
      have hU1 : day ≤ U := by by_cases q : T < (day : Int) <;> simp [q] at hU <;> omega
      have hU2 : U < fr.length := by have := HE.out; by_cases q : T < (day : Int) <;> simp [q] at hU <;> omega
      rw [hU] at hJx
      have QX := Lib.hid hJx
      clear hJx
      go_wp2_with fail
      go_step3
      go_wp2_with fail
      go_step3
      go_wp2_with fail
      go_loopg [7, 9, 32] X.length (fun g2 v tt i wr => ∃ (k : Nat) (L : List Bool) (ms : List Mv) (T : Nat) (D : DataW Unit), k + g2 = X.length ∧ i = .int .i64 k ∧ tt = .int .i64 T ∧ day ≤ T ∧ T < fr.length ∧ wr.ownsMap Try.prog 3 (plainElem Try.prog 4) W.heap.size ms.length D ∧ TkD ms D ∧
        OwM 36 (W.heap.size + 1) v ms wr ∧ Below W.heap.size W wr ∧ W.heap.size + 1 ≤ wr.heap.size ∧ ms.length = sumF imp day + k ∧ SrF fr L day T ∧ runF fr (jobsF imp day ++ dayF imp day k) = some (L, ms))
      case atStart => exact ⟨0, L, ms, U, D, by omega, rfl, rfl, hU1, hU2, QO.out, QD.out, QM.out, QB.out, hz, QN.out, QX.out, by rw [show dayF imp day 0 = [] by unfold dayF; rfl, List.append_nil]; exact QR.out⟩
      case round =>
        clear hc0 QO QD QM QB QN QJ QX QR hz hU hU1 hU2 hT1 hT2
        obtain ⟨k, L, ms, T, D, hk, rfl, rfl, hT1, hT2, hO, hD, hM, hb, hz, hn, hJ, hr⟩ := hrel
        have QO := Lib.hid hO
        have QD := Lib.hid hD
        have QM := Lib.hid hM
        have QB := Lib.hid hb
        have QN := Lib.hid hn
        have QJ := Lib.hid hJ
        have QR := Lib.hid hr
        clear hO hD hM hb hn hJ hr
        have hc0 : wr.cell? ⟨b, o + day, none⟩ = some (.slice A3 X.length c3) := cell_below E3.out QB.out
        cases gk with
        | zero =>
          obtain rfl : k = X.length := by omega
          have QR' : Hid (runF fr (jobsF imp (day + 1)) = some (L, ms)) := Lib.hid (by rw [JS.out, HXX.out]; exact QR.out)
          have QN' : Hid (ms.length = sumF imp (day + 1)) := Lib.hid (by rw [QN.out, HSd.out])
          go_wp2_with fail
          rw [Exit.noGoto_normal]
          go_wp2_with fail
          go_roundg g
          case measure => omega
          case rel => exact ⟨day + 1, L, ms, T, D, by omega, by go_num, rfl, by omega, by omega, QO.out, QD.out, QM.out, QB.out, hz, QN'.out, QJ.out.next, QR'.out⟩
        | succ g2 =>
          have hlk : k < X.length := by omega
          obtain ⟨f, hf⟩ : ∃ f, X[k]? = some f := ⟨_, List.getElem?_eq_getElem hlk⟩
          obtain ⟨b3, o3, rfl, e5, e6⟩ := H5.out k f hf
          have hc1 : wr.cell? ⟨b3, o3 + k, none⟩ = some (.int .i64 f) := cell_below e6 QB.out
          have DK := Lib.hid (DS.out k f hf)
          clear e6 hf
          go_wp2_with fail
          go_loopg [7, 9] fr.length (fun g3 v tt wx => ∃ t : Nat, t + g3 = fr.length + T + 1 ∧ t ≤ fr.length ∧ T + 1 ≤ t ∧ v = u7 ∧ tt = .int .i64 t ∧ (∀ s, T + 1 ≤ s → s < t → fr.getD s false = false) ∧ wr = wx)
          case atStart => exact ⟨T + 1, by omega, by omega, by omega, rfl, by go_num, fun s s1 s2 => by omega, rfl⟩
          case round =>
            obtain ⟨t, htg, ht1, ht2, rfl, rfl, hno, rfl⟩ := hrel
            have HNo := Lib.hid hno
            clear hno
            by_cases htl : t < fr.length
            · cases gk with
              | zero => omega
              | succ g3 =>
                obtain ⟨bf, of, rfl, ef1, ef2⟩ := H3.out t htl
                have hct : wr.cell? ⟨bf, of + t, none⟩ = some (.bool (fr.getD t false)) := cell_below ef2 QB.out
                clear ef2
                cases hfree : fr.getD t false
                · rw [hfree] at hct
                  have HNt := Lib.hid (fun (s : Nat) (s1 : T + 1 ≤ s) (s2 : s < t + 1) => show fr.getD s false = false by
                    by_cases q : s < t
                    · exact HNo.out s s1 q
                    · rw [show s = t by omega]; exact hfree)
                  clear hfree
                  go_wp2_with fail
                  go_roundg g3
                  case measure => omega
                  case rel => exact ⟨t + 1, by omega, by omega, by omega, rfl, by go_num, HNt.out, rfl⟩
                · rw [hfree] at hct
                  obtain ⟨hnx, hJ'⟩ := QJ.out.nx hT1 ht2 htl hfree HNo.out
                  have QJ' := Lib.hid hJ'
                  have hstp : stpF (L, ms) (day, f) = some (L.set t false, ms ++ [(f, (day : Int), (t : Int))]) := by
                    unfold stpF
                    rw [if_pos (show nxF (L, ms).1 ((day, f).1 + 1) < (L, ms).1.length by show nxF L (day + 1) < L.length; rw [hnx]; have := QJ.out.len; omega)]
                    show some (L.set (nxF L (day + 1)) false, ms ++ [(f, (day : Int), ((nxF L (day + 1) : Nat) : Int))]) = _
                    rw [hnx]
                  have QR' : Hid (runF fr (jobsF imp day ++ dayF imp day (k + 1)) = some (L.set t false, ms ++ [(f, (day : Int), (t : Int))])) := Lib.hid (by rw [DK.out, ← List.append_assoc, runF_snoc, QR.out]; exact hstp)
                  have HK := Lib.hid (keyOf_int_mk (P := Try.prog) (q := .i64) Try.underlying3 (a := (t : Int)) (wf_small (by omega)))
                  have QD' := Lib.hid (QD.out.put f day t)
                  have hSS := HS.out
                  have hSd := HSd.out
                  have hSm := HSm.out
                  have hSn := QN.out
                  have hmsl : ms.length ≤ 400 := by omega
                  clear hnx hstp hfree hJ' hSS hSd hSm hSn
                  go_wp2_with (first
                    | (at_mapUpdate; refine wpList_mapUpdate_own _ rfl _ _ _ 47 rfl 3 4 int_law Try.underlying47 (plainElem (H := Unit) Try.prog 4) W.heap.size ms.length D rfl QO.out (by unfold maxLen; omega) _ _ _ rfl rfl HK.out _ [] (plainElem_bool Try.underlying4 true) ?_)
                    | fail)
                  intro w2 hown2 hgrow2
                  have O2 := Lib.hid hown2
                  have G2 := Lib.hid hgrow2
                  have M2 : Hid (OwM 36 (W.heap.size + 1) u7 ms w2) := Lib.hid (World.ownsRow.kept QM.out hgrow2 (.inr fun e => by have := (World.ownsRow.lt QM.out _ e).1; omega))
                  have B2 := Lib.hid (QB.out.grown hgrow2 QB.out.size (fun j hj => by cases hj; exact Nat.le_refl _))
                  have hz2 : Hid (W.heap.size + 1 ≤ w2.heap.size) := Lib.hid (Nat.le_trans hz hgrow2.size)
                  clear hown2 hgrow2 hct hc0 hc1
                  have hc3 := Lib.hid (cell_three_new w2 (.int .i64 f) (.int .i64 day) (.int .i64 t) 36)
                  go_wp2_with (at_builtin; refine wpList_append_own _ rfl _ _ 26 rfl (W.heap.size + 1) 36 j0 (.agg #[.int .i64 0, .int .i64 0, .int .i64 0]) 3 24 Try.underlying26 ji jz0 jz1 jz2 rfl (by decide) _ _ _ rfl (M2.out.al _) ⟨w2.heap.size, 0, none⟩ 1 1 [.int .i64 f, .int .i64 day, .int .i64 t] rfl rfl hc3.out (by simp [Value.oneCell']) (by unfold maxLen; omega) (by omega) (by have := hz2.out; simp at this ⊢; omega) ?_; intro v' w3 hown' hgrow _; have HM3 := Lib.hid hown'; have HG := Lib.hid hgrow; clear hown' hgrow)
                  have M3 : Hid (OwM 36 (W.heap.size + 1) v' (ms ++ [(f, (day : Int), (t : Int))]) w3) := Lib.hid (by rw [OwM, List.length_append, flat3_app]; exact HM3.out)
                  have B3 := Lib.hid ((B2.out.alloc B2.out.size _).grown HG.out (by have := B2.out.size; simp at this ⊢; omega) (fun k e => by have := (World.ownsRow.lt M2.out k e).1; omega))
                  have O3 := Lib.hid (((O2.out.alloc _).kept HG.out (fun e => by have := (World.ownsRow.lt M2.out _ e.symm).1; omega)))
                  have Z3 : Hid (W.heap.size + 1 ≤ w3.heap.size) := Lib.hid (Nat.le_trans (Nat.le_trans hz2.out (by simp)) HG.out.size)
                  go_wp2_with fail
                  go_roundg g2
                  case measure => omega
                  case rel => exact ⟨k + 1, L.set t false, ms ++ [(f, (day : Int), (t : Int))], t, _, by omega, by go_num, rfl, by omega, htl, by simpa using O3.out, QD'.out, M3.out, B3.out, Z3.out, by have := QN.out; simp; omega, QJ'.out, QR'.out⟩
            · obtain rfl : t = fr.length := by omega
              have hstp : stpF (L, ms) (day, f) = none := by
                unfold stpF
                exact if_neg (QJ.out.out fun s s1 s2 => HNo.out s s1 s2)
              have hrun : runF fr (jobsF imp day ++ dayF imp day (k + 1)) = none := by rw [DK.out, ← List.append_assoc, runF_snoc, QR.out]; exact hstp
              have HA := Lib.hid (as_no HE.out (RS.out k (by omega) hrun))
              clear hrun hstp
              go_wp2_with fail
              try rw [Exit.noGoto_ret]
              go_ret3
              unfold RetMA
              rw [HA.out.1, HA.out.2]
              exact ⟨_, _, rfl, OwM.nil _ _ _, QB.out, fun e => absurd e (by decide)⟩
theorem p22ma_any (fr : List Bool) (imp : List (List Int)) (vf vi : Value) (W : World) (h1 : BlAt W vf fr) (h2 : LsAt W vi imp) (hf : fewT fr imp = true) : Calls Try.prog 18 #[vf, vi] W (RetMA W fr imp) := by
  obtain ⟨f1, f2, f3, f4⟩ := fewT_iff.1 hf
  by_cases hE : fr.length = imp.length
  · exact p22ma_same fr imp vf vi W hE f1 (fun d => by
      by_cases hd : d < imp.length
      · exact f3 _ (by rw [List.getD_eq_getElem?_getD, List.getElem?_eq_getElem hd]; exact List.getElem_mem hd)
      · rw [List.getD_eq_getElem?_getD, List.getElem?_eq_none (by omega)]; exact Nat.zero_le _) f4 h1 h2
  · exact p22ma_far fr imp vf vi W hE h1 h2
/-! Assign -/
theorem p22as_any (fr : List Bool) (imp : List (List Int)) (vf vi : Value) (W : World) (h1 : BlAt W vf fr) (h2 : LsAt W vi imp) (hf : fewT fr imp = true) : Calls Try.prog 11 #[vf, vi] W (RetA 36 W (asE fr imp) (asM fr imp)) := by
  have H := Lib.hid (p22ma_any fr imp vf vi W h1 h2 hf)
  clear h1 h2 hf
  go_enter Try.func11, Try.ntmps11
  go_wp2_with fail
  refine H.out.mono ?_
  rintro e w1 ⟨v, tv, rfl, hm, hb, -⟩
  have M1 := Lib.hid hm
  have B1 := Lib.hid hb
  clear hm hb
  go_wp2_with fail
  go_ret2
  exact ⟨_, rfl, M1.out, B1.out⟩
/-! lastImpeded -/
set_option maxRecDepth 100000 in
theorem p22li_any (imp : List (List Int)) (vi : Value) (W : World) (hl : imp.length ≤ 400) (h2 : LsAt W vi imp) : Calls Try.prog 19 #[vi] W fun e w' => e = .returned (.int .i64 ((lstF imp imp.length : Int) - 1)) ∧ W = w' := by
  obtain ⟨f, ⟨A2, c2, rfl, m1, m2, h3⟩, h4⟩ := h2
  have H3 := Lib.hid h3
  have H4 := Lib.hid h4
  clear h3 h4
  go_enter Try.func19, Try.ntmps19
  go_wp2_with fail
  go_loop [3] (fun i => ∃ k : Nat, k ≤ imp.length ∧ i = .int .i64 ((k : Int) - 1) ∧ lstF imp imp.length = lstF imp k) (fun i => (intOf i + 1).toNat)
  case atStart => exact ⟨imp.length, Nat.le_refl _, by go_num, rfl⟩
  case round =>
    obtain ⟨k, hk, rfl, hlst⟩ := hrel
    have HL := Lib.hid hlst
    clear hlst
    cases k with
    | zero =>
      have hneg : ¬ (0 : Int) ≤ ((0 : Nat) : Int) - 1 := by omega
      go_wp2_with fail
      go_ret
      rw [HL.out]
      exact ⟨rfl, rfl⟩
    | succ k =>
      have hlt : k < imp.length := by omega
      obtain ⟨b, o, rfl, hb, hc⟩ := H3.out k hlt
      obtain ⟨A3, c3, hf, p1, p2, _⟩ := H4.out k hlt
      rw [hf] at hc
      clear hf
      have e1 : (((k + 1 : Nat) : Int) - 1) = (k : Int) := by omega
      have hu : lstF imp (k + 1) = if (imp.getD k []).length = 0 then lstF imp k else k + 1 := by rw [lstF]
      have HU := Lib.hid hu
      clear hu
      obtain ⟨n, hn⟩ : ∃ n, (imp.getD k []).length = n := ⟨_, rfl⟩
      rw [hn] at hc HU p1
      clear hn
      rw [e1]
      by_cases g : n = 0
      · subst g
        go_wp2_with fail
        go_round
        case rel => exact ⟨k, by omega, by go_num, by rw [HL.out, HU.out, if_pos rfl]⟩
        case measure => simp [intOf]
      · have g1 : decide ((0 : Int) < n) = true := decide_eq_true (by omega)
        have g2 : 0 < n := by omega
        have HG := Lib.hid g
        clear g
        go_wp2_with fail
        go_ret
        rw [HL.out, HU.out, if_neg HG.out]
        exact ⟨show Ending.returned (.int .i64 (k : Int)) = .returned (.int .i64 (((k + 1 : Nat) : Int) - 1)) by rw [e1], rfl⟩
/-! Room -/
set_option maxHeartbeats 1000000 in
set_option maxRecDepth 100000 in
theorem p22rm_any (fr : List Bool) (imp : List (List Int)) (vf vi : Value) (W : World) (h1 : BlAt W vf fr) (h2 : LsAt W vi imp) (hf : fewT fr imp = true) : Calls Try.prog 16 #[vf, vi] W fun e w' => e = .returned (.int .i64 (roomF fr imp)) ∧ Below W.heap.size W w' := by
  obtain ⟨f1, f2, f3, f4⟩ := fewT_iff.1 hf
  have H := p22ma_any fr imp vf vi W h1 h2 hf
  unfold RetMA at H
  have HL := Lib.hid (fun u (h : LsAt u vi imp) => p22li_any imp vi u f2 h)
  have V2 := Lib.hid h2
  rcases as_cases fr imp with ⟨e0, hl, L, hr⟩ | ⟨e0, -, -⟩ | ⟨e0, -, -, -⟩
  · have HR := Lib.hid (show roomF fr imp = cntF fr (asM fr imp) (lstF imp imp.length) fr.length by unfold roomF; rw [if_pos e0])
    have hll : lstF imp imp.length ≤ fr.length := by rw [hl]; exact lstF_le imp imp.length
    rw [e0] at H
    have HH := Lib.hid H
    obtain ⟨A1, c1, rfl, n1, n2, h3⟩ := h1
    have H3 := Lib.hid h3
    clear h3 H h2 f2 f3 f4 hl hr hf e0
    go_enter Try.func16, Try.ntmps16
    go_wp2_with fail
    refine HH.out.mono ?_
    rintro e w1 ⟨v, tv, rfl, hm, hb, hmap⟩
    obtain ⟨rfl, n, D, hO, hD⟩ := hmap (by first | trivial | rfl)
    have B1 := Lib.hid hb
    have QO := Lib.hid hO
    have QD := Lib.hid hD
    clear hm hb hmap hO hD
    go_wp2_with fail
    refine (HL.out _ (V2.out.on B1.out)).mono ?_
    rintro e w2 ⟨rfl, rfl⟩
    obtain ⟨a, ha⟩ : ∃ a, lstF imp imp.length = a := ⟨_, rfl⟩
    rw [ha] at HR hll ⊢
    clear ha
    have e1 : ((a : Int) - 1 + 1) = (a : Int) := by omega
    go_wp2_with fail
    go_loop [8, 9] (fun r d => ∃ k : Nat, a ≤ k ∧ k ≤ fr.length ∧ d = .int .i64 k ∧ r = .int .i64 (cntF fr (asM fr imp) a k) ∧ cntF fr (asM fr imp) a k ≤ k) (fun _ d => fr.length - (intOf d).toNat)
    case atStart => exact ⟨a, Nat.le_refl _, hll, by go_num, by rw [cntF_self]; go_num, by rw [cntF_self]; omega⟩
    case round =>
      obtain ⟨k, hk1, hk2, rfl, rfl, hc⟩ := hrel
      have HS := Lib.hid (cntF_succ fr (asM fr imp) hk1)
      by_cases hlt : k < fr.length
      · obtain ⟨b, o, rfl, ef1, ef2⟩ := H3.out k hlt
        have hct : w1.cell? ⟨b, o + k, none⟩ = some (.bool (fr.getD k false)) := cell_below ef2 B1.out
        clear ef2
        obtain ⟨x, ps, hrun, hrv⟩ := QO.out.lookup int_law Try.underlying47 (zero_bl _) (plainElem_bool Try.underlying4 false) (keyOf_int_mk (P := Try.prog) (q := .i64) Try.underlying3 (a := (k : Int)) (wf_small (by omega)))
        rw [QD.out.a k] at hrv
        obtain rfl := bl_inv hrv
        clear hrv
        obtain ⟨c, hcc⟩ : ∃ c, cntF fr (asM fr imp) a k = c := ⟨_, rfl⟩
        rw [hcc] at hc HS ⊢
        clear hcc
        cases h1 : fr.getD k false
        · rw [h1] at hct HS
          have HS' := Lib.hid (HS.out.trans (by rw [if_neg (fun e => by cases e.1)]))
          clear h1 HS
          go_wp2_with fail
          go_round
          case rel => exact ⟨k + 1, by omega, by omega, by go_num, by rw [HS'.out]; go_num, by rw [HS'.out]; omega⟩
          case measure => simp [intOf]; omega
        · rw [h1] at hct HS
          cases h2 : tkn (asM fr imp) k
          · rw [h2] at hrun HS
            have HS' := Lib.hid (HS.out.trans (by rw [if_pos ⟨rfl, rfl⟩]))
            clear h1 h2 HS
            go_wp2_with fail
            go_round
            case rel => exact ⟨k + 1, by omega, by omega, by go_num, by rw [HS'.out]; go_num, by rw [HS'.out]; omega⟩
            case measure => simp [intOf]; omega
          · rw [h2] at hrun HS
            have HS' := Lib.hid (HS.out.trans (by rw [if_neg (fun e => by cases e.2)]))
            clear h1 h2 HS
            go_wp2_with fail
            go_round
            case rel => exact ⟨k + 1, by omega, by omega, by go_num, by rw [HS'.out]; go_num, by rw [HS'.out]; omega⟩
            case measure => simp [intOf]; omega
      · obtain rfl : k = fr.length := by omega
        go_wp2_with fail
        go_ret
        rw [HR.out]
        exact ⟨rfl, B1.out⟩
  · have HR := Lib.hid (show roomF fr imp = 0 by unfold roomF; rw [if_neg (by rw [e0]; decide)])
    rw [e0] at H
    have HH := Lib.hid H
    clear H h1 h2 f1 f2 f3 f4 hf e0
    go_enter Try.func16, Try.ntmps16
    go_wp2_with fail
    refine HH.out.mono ?_
    rintro e w1 ⟨v, tv, rfl, -, hb, -⟩
    have B1 := Lib.hid hb
    clear hb
    go_wp2_with fail
    go_ret
    rw [HR.out]
    exact ⟨rfl, B1.out⟩
  · have HR := Lib.hid (show roomF fr imp = 0 by unfold roomF; rw [if_neg (by rw [e0]; decide)])
    rw [e0] at H
    have HH := Lib.hid H
    clear H h1 h2 f1 f2 f3 f4 hf e0
    go_enter Try.func16, Try.ntmps16
    go_wp2_with fail
    refine HH.out.mono ?_
    rintro e w1 ⟨v, tv, rfl, -, hb, -⟩
    have B1 := Lib.hid hb
    clear hb
    go_wp2_with fail
    go_ret
    rw [HR.out]
    exact ⟨rfl, B1.out⟩
/-! Taken -/
abbrev mvO (a b c : Int) : Obj := .cells #[.int .i64 a, .int .i64 b, .int .i64 c] 36
set_option maxHeartbeats 1000000 in
set_option maxRecDepth 100000 in
theorem p22tk_any (ms : List Mv) (day : Int) (v : Value) (W : World) (h : MvAt W v ms) (hl : ms.length ≤ 400) : Calls Try.prog 15 #[v, .int .i64 day] W fun e w' => e = .returned (.tuple #[mvv (tkV ms day).1, .bool (tkV ms day).2]) ∧ Below W.heap.size W w' := by
  obtain ⟨A, cap, rfl, h1, h2, h3⟩ := h
  have H3 := Lib.hid h3
  have R0 := Lib.hid (heap_alloc_new W (mvO 0 0 0))
  have B0 := Lib.hid ((Below.refl W.heap.size W).alloc (Nat.le_refl _) (mvO 0 0 0))
  have Z0 := Lib.hid (show (W.alloc (mvO 0 0 0)).heap.size = W.heap.size + 1 by simp)
  clear h3
  go_enter Try.func15, Try.ntmps15
  go_wp2_with fail
  generalize hW1 : W.alloc (mvO 0 0 0) = W1 at *
  clear hW1
  go_loopw [10] (fun i wr => ∃ k : Nat, k ≤ ms.length ∧ i = .int .i64 k ∧ wr.heap[W.heap.size]? = some (mvO 0 0 0) ∧ Below W.heap.size W wr ∧ ∀ (j : Nat) (u : Mv), j < k → ms[j]? = some u → u.2.2 ≠ day) (fun i _ => ms.length - (intOf i).toNat)
  case atStart => exact ⟨0, Nat.zero_le _, rfl, R0.out, B0.out, fun j u hj => by omega⟩
  case round =>
    obtain ⟨k, hk, rfl, hrow, hb, hno⟩ := hrel
    have RW := Lib.hid hrow
    have QB := Lib.hid hb
    have HNo := Lib.hid hno
    clear hrow hb hno
    by_cases hlt : k < ms.length
    · obtain ⟨m, hm⟩ : ∃ m, ms[k]? = some m := ⟨_, List.getElem?_eq_getElem hlt⟩
      obtain ⟨b, o, rfl, hbl, d1, d2, d3⟩ := H3.out k m hm
      have q1 := cell_below d1 QB.out
      have q2 := cell_below d2 QB.out
      have q3 := cell_below d3 QB.out
      have hx := Lib.hid (fun (h : m.2.2 = day) => tkV_at hm h HNo.out)
      have hy := Lib.hid (fun (h : m.2.2 ≠ day) (j : Nat) (u : Mv) (hj : j < k + 1) (hu : ms[j]? = some u) => show u.2.2 ≠ day by
        by_cases g : j < k
        · exact HNo.out j u g hu
        · obtain rfl : j = k := by omega
          rw [hm] at hu
          rwa [← Option.some.inj hu])
      clear d1 d2 d3 hm
      obtain ⟨x1, x2, x3⟩ := m
      dsimp only at *
      cases g : (x3 == day)
      · have hz := Lib.hid (hy.out (beq_eq_false_iff_ne.1 g))
        have RW' := Lib.hid (row_al RW.out (mvO x1 x2 x3))
        have QB' := Lib.hid (QB.out.alloc QB.out.size (mvO x1 x2 x3))
        go_wp2_with fail
        go_roundw
        case rel => exact ⟨k + 1, by omega, by go_num, RW'.out, QB'.out, hz.out⟩
        case measure => simp [intOf]; omega
      · have hz := Lib.hid (hx.out (beq_iff_eq.1 g))
        obtain rfl : x3 = day := beq_iff_eq.1 g
        have RW' := Lib.hid (row_al RW.out (mvO x1 x2 x3))
        have QB' := Lib.hid (QB.out.alloc QB.out.size (mvO x1 x2 x3))
        obtain ⟨r0, r1, r2, g0, g1, g2, rz⟩ := row3 RW.out
        go_wp2_with fail
        generalize hu8 : ((wr.setCell ⟨W.heap.size, 0, none⟩ (.int .i64 x1)).setCell ⟨W.heap.size, 1, none⟩ (.int .i64 x2)).setCell ⟨W.heap.size, 2, none⟩ (.int .i64 x3) = u8
        obtain ⟨m0, m1, m2⟩ := three_set _ _ _ RW.out hu8
        have b8 := below_set3 QB.out (Nat.le_refl _) _ _ _ hu8
        have b9 := (Below.refl u8.heap.size u8).alloc (Nat.le_refl _) (mvO x1 x2 x3)
        have n0 := cell_below m0 b9
        have n1 := cell_below m1 b9
        have n2 := cell_below m2 b9
        rw [hz.out]
        exact bodyPost_ret (v := .tuple #[mvv (x1, x2, x3), .bool true]) (by simp [results, Try.results15, go_sem, n0, n1, n2]) rfl ⟨rfl, below_on b8 b9⟩
    · obtain rfl : k = ms.length := by omega
      have hz := Lib.hid (tkV_no (ms := ms) (day := day) fun j u hj => HNo.out j u (List.getElem?_eq_some_iff.1 hj).1 hj)
      obtain ⟨r0, r1, r2, g0, g1, g2, rz⟩ := row3 RW.out
      go_wp2_with fail
      generalize hu8 : ((wr.setCell ⟨W.heap.size, 0, none⟩ (.int .i64 0)).setCell ⟨W.heap.size, 1, none⟩ (.int .i64 0)).setCell ⟨W.heap.size, 2, none⟩ (.int .i64 0) = u8
      obtain ⟨m0, m1, m2⟩ := three_set _ _ _ RW.out hu8
      have b8 := below_set3 QB.out (Nat.le_refl _) _ _ _ hu8
      rw [hz.out]
      exact bodyPost_ret (v := .tuple #[mvv (0, 0, 0), .bool false]) (by simp [results, Try.results15, go_sem, m0, m1, m2]) rfl ⟨rfl, b8⟩
theorem tp22 : TP where
  asg := p22as_any
  tk := fun ms day v u h hl => p22tk_any ms day v u h hl
  rm := p22rm_any
end Go.Proofs.Ytaifhikhdcnacaa
