/- Windows: the reference's Assign. -/
import Derived.Test.YtaifhikhdcnacaaAc
import Derived.Laws.OwnMore
namespace Go.Proofs.Ytaifhikhdcnacaa
open Go.RowKit

theorem infoBool : (Try.prog.info? 4).map (fun i => (i.zero, i.size, i.bytes)) = some (some (.bool false), 1, 1) := by kernel_rfl
/-- What Assign hands back: the moves (none, if it fails) and the error. -/
def RetA (t : Nat) (W : World) (E : Int) (ms : List Mv) (e : Ending) (w' : World) : Prop := ∃ v, e = .returned (.tuple #[v, .int .i64 E]) ∧ OwM t W.heap.size v ms w' ∧ Below W.heap.size W w'
theorem BlAt.news {W : World} {A : Option Addr} {bs : List Bool} {cap b o : Nat} (h : BlAt W (.slice A bs.length cap) bs) (hA : A = some ⟨b, o, none⟩) {W' : World} (hb : Below W.heap.size W W') : ∀ j u, (bs.map Value.bool)[j]? = some u → W'.cell? ((⟨b, o, none⟩ : Addr).add j) = some u := by
  intro j u hu
  obtain ⟨A', cap', e, _, _, h3⟩ := h
  obtain ⟨rfl, -, rfl⟩ : A = A' ∧ bs.length = bs.length ∧ cap = cap' := by simpa using e
  rw [List.getElem?_map] at hu
  cases hj : bs[j]? with
  | none => rw [hj] at hu; cases hu
  | some x =>
    rw [hj] at hu
    obtain rfl : Value.bool x = u := by simpa using hu
    obtain ⟨b', o', e1, e2, e3⟩ := h3 j (List.getElem?_eq_some_iff.1 hj).1
    obtain ⟨rfl, rfl⟩ : b = b' ∧ o = o' := by rw [hA] at e1; simpa using e1
    rw [add_none, hb.cell e2, e3]
    show some (Value.bool (bs.getD j false)) = _
    rw [List.getD_eq_getElem?_getD, hj]; rfl
theorem own_empty (W : World) (t : TypeId) (s : Nat) : (W.alloc (.cells #[] t)).ownsRow W.heap.size t s (.slice (some ⟨W.heap.size, 0, none⟩) 0 0) 0 [] :=
  ⟨by simp, .inr ⟨W.heap.size, 0, #[], rfl, Nat.le_refl _, heap_alloc_new W _, Nat.le_refl _, Nat.zero_le _, by simp, by simp⟩⟩
/-- A slice of the call's own that is not nil stands in a block of its own. -/
theorem OwB.in {B : Nat} {v : Value} {bs : List Bool} {w : World} (h : OwB B v bs w) (h0 : v ≠ .slice none 0 0) : ∃ g cap, v = .slice (some ⟨g, 0, none⟩) bs.length cap ∧ B ≤ g ∧ g < w.heap.size := by
  rcases h.2 with ⟨rfl, hn⟩ | ⟨g, cap, cur, rfl, hb, hg, hnc, hcm, hcs, htake⟩
  · exact absurd rfl h0
  · exact ⟨g, cap, rfl, hb, (Array.getElem?_eq_some_iff.1 hg).1⟩
theorem OwB.cell {B g n cap : Nat} {bs : List Bool} {w : World} (h : OwB B (.slice (some ⟨g, 0, none⟩) n cap) bs w) {j : Nat} (hj : j < bs.length) : w.cell? ⟨g, j, none⟩ = some (.bool (bs.getD j false)) := by
  have := World.ownsRow.cells h (g := g) rfl j (.bool (bs.getD j false)) (by rw [List.getElem?_map, List.getElem?_eq_getElem hj, List.getD_eq_getElem?_getD, List.getElem?_eq_getElem hj]; rfl)
  rwa [add_none, Nat.zero_add] at this
theorem OwB.set {B g cap : Nat} {bs : List Bool} {w : World} (h : OwB B (.slice (some ⟨g, 0, none⟩) bs.length cap) bs w) (j : Nat) (x : Bool) : OwB B (.slice (some ⟨g, 0, none⟩) (bs.set j x).length cap) (bs.set j x) (w.setCell ⟨g, j, none⟩ (.bool x)) := by
  have := World.ownsRow.stored h j (.bool x)
  rw [OwB, List.map_set, List.length_set]
  exact this.1
theorem OwB.fz {B g n cap : Nat} {bs : List Bool} {w : World} (h : OwB B (.slice (some ⟨g, 0, none⟩) n cap) bs w) (hn : bs.length = n) (j : Nat) : w.frozen? ⟨g, j, none⟩ = false := by
  subst hn
  exact World.ownsRow.frozenAt h j
theorem OwM.other {t B : Nat} {v : Value} {ms : List Mv} {w : World} (h : OwM t B v ms w) {p : Addr} (hp : p.block < B) (x : Value) : OwM t B v ms (w.setCell p x) := by
  refine World.ownsRow.kept h ⟨rfl, rfl, rfl, by simp, fun k _ hne => heap_setCell_other _ _ _ _ (fun e => hne (by rw [e]))⟩ (row := some p.block) ?_
  cases hv : v.ownBlock
  · exact .inl rfl
  · refine .inr fun e => ?_
    have := (World.ownsRow.lt h _ hv).1
    rw [Option.some.inj e] at this
    omega
theorem OwB.other {B : Nat} {v : Value} {bs : List Bool} {w w' : World} {row : Option Nat} (h : OwB B v bs w) (hg : w.grownBy w' row) (hne : v.ownBlock ≠ row) : OwB B v bs w' := World.ownsRow.kept h hg (.inr hne)
theorem r22as_far (fr : List Bool) (imp : List (List Int)) (vf vi : Value) (W : World) (h : fr.length ≠ imp.length) (h1 : BlAt W vf fr) (h2 : LsAt W vi imp) : Calls Try.prog 12 #[vf, vi] W (RetA 39 W 3 []) := by
  obtain ⟨A1, c1, rfl, n1, n2, _⟩ := h1
  obtain ⟨f, ⟨A2, c2, rfl, m1, m2, h3⟩, h4⟩ := h2
  clear h3 h4
  have k1 : ((fr.length : Int) != (imp.length : Int)) = true := bne_iff_ne.2 (by omega)
  go_enter Try.func12, Try.ntmps12
  go_wp2_with fail
  go_ret2
  exact ⟨_, rfl, OwM.nil _ _ _, Below.refl _ _⟩
/-- What a walk of Assign reads of the impeded feasts. -/
theorem LsAt.day {W : World} {vi : Value} {imp : List (List Int)} (h : LsAt W vi imp) : ∃ (A2 : Option Addr) (c2 : Nat), vi = .slice A2 imp.length c2 ∧ ∀ d, d < imp.length → ∃ (b o : Nat) (A3 : Option Addr) (c3 : Nat), A2 = some ⟨b, o, none⟩ ∧ b < W.heap.size ∧ W.cell? ⟨b, o + d, none⟩ = some (.slice A3 (imp.getD d []).length c3) ∧ (imp.getD d []).length ≤ maxLen ∧
    ∀ (k : Nat) (f : Int), (imp.getD d [])[k]? = some f → ∃ b3 o3, A3 = some ⟨b3, o3, none⟩ ∧ b3 < W.heap.size ∧ W.cell? ⟨b3, o3 + k, none⟩ = some (.int .i64 f) := by
  obtain ⟨f, ⟨A2, c2, rfl, m1, m2, h3⟩, h4⟩ := h
  refine ⟨A2, c2, rfl, fun d hd => ?_⟩
  obtain ⟨b, o, e1, e2, e3⟩ := h3 d hd
  obtain ⟨A3, c3, hf, p1, p2, h5⟩ := h4 d hd
  refine ⟨b, o, A3, c3, e1, e2, by rw [e3, hf], Nat.le_trans p1 p2, fun k x hk => ?_⟩
  obtain ⟨b3, o3, q1, q2, q3⟩ := h5 k (List.getElem?_eq_some_iff.1 hk).1
  refine ⟨b3, o3, q1, q2, ?_⟩
  rw [q3]
  show some (Value.int .i64 ((imp.getD d []).getD k 0)) = _
  rw [List.getD_eq_getElem?_getD, hk]; rfl
set_option maxHeartbeats 4000000 in
set_option maxRecDepth 100000 in
theorem r22as_some (fr : List Bool) (imp : List (List Int)) (b1 o1 c1 : Nat) (vi : Value) (W : World) (hE : fr.length = imp.length) (h0 : 0 < fr.length) (hl : fr.length ≤ 400) (h100 : ∀ d, (imp.getD d []).length ≤ 100) (hS : sumF imp imp.length ≤ 400) (h1 : BlAt W (.slice (some ⟨b1, o1, none⟩) fr.length c1) fr) (h2 : LsAt W vi imp) :
    Calls Try.prog 12 #[.slice (some ⟨b1, o1, none⟩) fr.length c1, vi] W (RetA 39 W (asE fr imp) (asM fr imp)) := by
  obtain ⟨i0, hi, hz0, hz1, hz2⟩ := info_parts infoBool
  obtain ⟨j0, ji, jz0, jz1, jz2⟩ := info_parts infoMr
  obtain ⟨A2, c2, rfl, h4⟩ := h2.day
  have H4 := Lib.hid h4
  have HE := Lib.hid hE
  have HS := Lib.hid hS
  have HH := Lib.hid h100
  have k1 : ((fr.length : Int) != (imp.length : Int)) = false := bne_eq_false_iff_eq.2 (by omega)
  have HN := Lib.hid (h1.news rfl ((Below.refl W.heap.size W).alloc (Nat.le_refl _) (.cells #[] 4)))
  have B1 := Lib.hid ((Below.refl W.heap.size W).alloc (Nat.le_refl _) (.cells #[] 4))
  have OW := Lib.hid (own_empty W 4 1)
  clear h4 h1 h2 hS h100
  go_enter Try.func12, Try.ntmps12
  go_wp2_with (at_builtin; refine wpList_append_own _ rfl _ _ 22 rfl W.heap.size 4 i0 (.bool false) 1 1 Try.underlying22 hi hz0 hz1 hz2 rfl (by decide) _ 0 [] rfl OW.out ⟨b1, o1, none⟩ fr.length c1 (fr.map Value.bool) rfl (by simp) HN.out (fun u hu => by obtain ⟨x, _, rfl⟩ := List.mem_map.1 hu; rfl) (by unfold maxLen; omega) (by omega) (by simp) ?_; intro v0 w1 hown' hgrow hnn; have hv0 : OwB W.heap.size v0 fr w1 := (by rw [OwB, ← Nat.zero_add fr.length]; exact hown'); have hb0 := (B1.out.grown hgrow (by simp) (fun k e => (World.ownsRow.lt OW.out k e).1)); obtain ⟨gL, cL, rfl, hg1, hg2⟩ := hv0.in (fun e => by have := (hnn.1 e).2; omega); have V1 := Lib.hid hv0; have BW1 := Lib.hid hb0; clear hown' hgrow hnn hv0 hb0)
  go_loopw [7, 8] (fun v i wr => ∃ (day : Nat) (L : List Bool) (ms : List Mv), day ≤ imp.length ∧ L.length = fr.length ∧ i = .int .i64 day ∧ OwB W.heap.size (.slice (some ⟨gL, 0, none⟩) fr.length cL) L wr ∧ OwM 39 w1.heap.size v ms wr ∧ Below W.heap.size W wr ∧ w1.heap.size ≤ wr.heap.size ∧ ms.length = sumF imp day ∧ runF fr (jobsF imp day) = some (L, ms)) (fun _ i _ => imp.length - (intOf i).toNat)
  case atStart => exact ⟨0, fr, [], Nat.zero_le _, rfl, rfl, V1.out, OwM.nil _ _ _, BW1.out, Nat.le_refl _, rfl, rfl⟩
  case round =>
    obtain ⟨day, L, ms, hd, hLl, rfl, hL, hM, hb, hz, hn, hr⟩ := hrel
    have QL := Lib.hid hL
    have QM := Lib.hid hM
    have QB := Lib.hid hb
    have QR := Lib.hid hr
    have QN := Lib.hid hn
    clear hL hM hb hr hn
    by_cases hlt : day < imp.length
    · obtain ⟨b, o, A3, c3, rfl, e2, e3, p2, h5⟩ := H4.out day hlt
      have H5 := Lib.hid h5
      have E3 := Lib.hid e3
      have hq := HH.out day
      have hsd := sumF_succ hlt
      have hsm := sumF_mono (show day + 1 ≤ imp.length by omega) (Nat.le_refl _)
      have HSd := Lib.hid hsd
      have HSm := Lib.hid hsm
      have JS := Lib.hid (jobsF_succ imp day)
      have RS := Lib.hid (fun (k : Nat) (hk : k + 1 ≤ (imp.getD day []).length) (h : runF fr (jobsF imp day ++ dayF imp day (k + 1)) = none) => run_stop hlt hk h)
      have DS := Lib.hid (fun (k : Nat) (f : Int) (h : (imp.getD day [])[k]? = some f) => dayF_succ h)
      clear h5 hsd hsm
      obtain ⟨X, hX⟩ : ∃ X, imp.getD day [] = X := ⟨_, rfl⟩
      rw [hX] at H5 E3 e3 p2 hq HSd RS DS
      have HXX := Lib.hid hX
      clear hX e3
      have hc0 : wr.cell? ⟨b, o + day, none⟩ = some (.slice A3 X.length c3) := cell_below E3.out QB.out
      go_wp2_with fail
      go_loopw [7, 9] (fun v i wr => ∃ (k : Nat) (L : List Bool) (ms : List Mv), k ≤ X.length ∧ L.length = fr.length ∧ i = .int .i64 k ∧ OwB W.heap.size (.slice (some ⟨gL, 0, none⟩) fr.length cL) L wr ∧ OwM 39 w1.heap.size v ms wr ∧ Below W.heap.size W wr ∧ w1.heap.size ≤ wr.heap.size ∧ ms.length = sumF imp day + k ∧ runF fr (jobsF imp day ++ dayF imp day k) = some (L, ms)) (fun _ i _ => X.length - (intOf i).toNat)
      case atStart => exact ⟨0, L, ms, Nat.zero_le _, hLl, rfl, QL.out, QM.out, QB.out, hz, QN.out, by rw [show dayF imp day 0 = [] by unfold dayF; rfl, List.append_nil]; exact QR.out⟩
      case round =>
        clear hc0 QL QM QB QR QN hz hLl
        obtain ⟨k, L, ms, hk, hLl, rfl, hL, hM, hb, hz, hn, hr⟩ := hrel
        have QL := Lib.hid hL
        have QM := Lib.hid hM
        have QB := Lib.hid hb
        have QR := Lib.hid hr
        have QN := Lib.hid hn
        clear hL hM hb hr hn
        have hc0 : wr.cell? ⟨b, o + day, none⟩ = some (.slice A3 X.length c3) := cell_below E3.out QB.out
        by_cases hlk : k < X.length
        · obtain ⟨f, hf⟩ : ∃ f, X[k]? = some f := ⟨_, List.getElem?_eq_getElem hlk⟩
          obtain ⟨b3, o3, rfl, e5, e6⟩ := H5.out k f hf
          have E6 := Lib.hid e6
          have DK := Lib.hid (DS.out k f hf)
          have QC := Lib.hid (fun (j : Nat) (hj : j < L.length) => QL.out.cell hj)
          clear e6 hf
          go_wp2_with fail
          go_loop [10] (fun i => ∃ t : Nat, day + 1 ≤ t ∧ t ≤ L.length ∧ i = .int .i64 t ∧ ∀ s, day + 1 ≤ s → s < t → L.getD s false = false) (fun i => L.length - (intOf i).toNat)
          case atStart => exact ⟨day + 1, Nat.le_refl _, by omega, by go_num, fun s s1 s2 => by omega⟩
          case round =>
            obtain ⟨t, t1, t2, rfl, hno⟩ := hrel
            have HNo := Lib.hid hno
            clear hno
            by_cases htl : t < L.length
            · have hct := QC.out t htl
              cases hfree : L.getD t false
              · rw [hfree] at hct
                have HNt := Lib.hid (fun (s : Nat) (s1 : day + 1 ≤ s) (s2 : s < t + 1) => show L.getD s false = false by
                  by_cases g : s < t
                  · exact HNo.out s s1 g
                  · rw [show s = t by omega]; exact hfree)
                clear hfree
                go_wp2_with fail
                go_round
                case rel => exact ⟨t + 1, by omega, by omega, by go_num, HNt.out⟩
                case measure => simp [intOf]; omega
              · rw [hfree] at hct
                have hnx := nxF_eq t1 htl hfree HNo.out
                have hstp : stpF (L, ms) (day, f) = some (L.set t false, ms ++ [(f, (day : Int), (t : Int))]) := by
                  unfold stpF
                  rw [if_pos (show nxF (L, ms).1 ((day, f).1 + 1) < (L, ms).1.length by show nxF L (day + 1) < L.length; rw [hnx]; exact htl)]
                  show some (L.set (nxF L (day + 1)) false, ms ++ [(f, (day : Int), ((nxF L (day + 1) : Nat) : Int))]) = _
                  rw [hnx]
                have QR' : Hid (runF fr (jobsF imp day ++ dayF imp day (k + 1)) = some (L.set t false, ms ++ [(f, (day : Int), (t : Int))])) := Lib.hid (by rw [DK.out, ← List.append_assoc, runF_snoc, QR.out]; exact hstp)
                have hfz : wr.frozen? ⟨gL, t, none⟩ = false := QL.out.fz hLl t
                obtain ⟨w2, hw2⟩ : ∃ w2, w2 = wr.setCell ⟨gL, t, none⟩ (.bool false) := ⟨_, rfl⟩
                have B2 : Below W.heap.size W w2 := by rw [hw2]; exact QB.out.setCell (p := ⟨gL, t, none⟩) hg1 _
                have L2 : Hid (OwB W.heap.size (.slice (some ⟨gL, 0, none⟩) fr.length cL) (L.set t false) w2) := Lib.hid (by
                  have := (hLl ▸ QL.out : OwB W.heap.size (.slice (some ⟨gL, 0, none⟩) L.length cL) L wr).set t false
                  rw [hw2]; simpa [hLl] using this)
                have M2 : Hid (OwM 39 w1.heap.size u7 ms w2) := Lib.hid (by rw [hw2]; exact QM.out.other (p := ⟨gL, t, none⟩) hg2 _)
                have hz2 : w1.heap.size ≤ w2.heap.size := by rw [hw2]; simpa using hz
                have d1 : (wr.setCell ⟨gL, t, none⟩ (.bool false)).cell? ⟨b, o + day, none⟩ = some (.slice (some ⟨b3, o3, none⟩) X.length c3) := by rw [← hw2]; exact cell_below E3.out B2
                have d2 : (wr.setCell ⟨gL, t, none⟩ (.bool false)).cell? ⟨b3, o3 + k, none⟩ = some (.int .i64 f) := by rw [← hw2]; exact cell_below E6.out B2
                have ms400 := QN.out
                have hSS := HS.out
                have hSd := HSd.out
                have hSm := HSm.out
                have hsz := Lib.hid (show (wr.setCell ⟨gL, t, none⟩ (.bool false)).heap.size = wr.heap.size by simp)
                have hc3 := Lib.hid (show ∀ j u, [Value.int .i64 f, .int .i64 day, .int .i64 t][j]? = some u → ((wr.setCell ⟨gL, t, none⟩ (.bool false)).alloc (.cells #[.int .i64 f, .int .i64 day, .int .i64 t] 39)).cell? ((⟨wr.heap.size, 0, none⟩ : Addr).add j) = some u by
                  have := cell_three_new (wr.setCell ⟨gL, t, none⟩ (.bool false)) (.int .i64 f) (.int .i64 day) (.int .i64 t) 39
                  rwa [hsz.out] at this)
                rw [hw2] at L2 M2 B2 hz2
                clear hw2 w2
                have HB2 := Lib.hid B2
                have hz2' := Lib.hid hz2
                have hzW := Lib.hid BW1.out.size
                have hmsl : ms.length ≤ 400 := by omega
                have hg2' := Lib.hid hg2
                clear hnx hstp hfree B2 hz2
                go_wp2_with (at_builtin; refine wpList_append_own _ rfl _ _ 30 rfl w1.heap.size 39 j0 (.agg #[.int .i64 0, .int .i64 0, .int .i64 0]) 3 24 Try.underlying30 ji jz0 jz1 jz2 rfl (by decide) _ _ _ rfl (M2.out.al _) ⟨wr.heap.size, 0, none⟩ 1 1 [.int .i64 f, .int .i64 day, .int .i64 t] rfl rfl hc3.out (by simp [Value.oneCell']) (by unfold maxLen; omega) (by omega) (by have := hz2'.out; simp at this ⊢; omega) ?_; intro v' w3 hown' hgrow _; have HM3 := Lib.hid hown'; have HG := Lib.hid hgrow; clear hown' hgrow)
                have M3 : Hid (OwM 39 w1.heap.size v' (ms ++ [(f, (day : Int), (t : Int))]) w3) := Lib.hid (by rw [OwM, List.length_append, flat3_app]; exact HM3.out)
                have B3 := Lib.hid ((HB2.out.alloc HB2.out.size _).grown HG.out (by have := HB2.out.size; simp at this ⊢; omega) (fun k e => by have := (World.ownsRow.lt M2.out k e).1; have := hzW.out; omega))
                have L3 := Lib.hid ((L2.out.al _).other HG.out (fun e => by have := (World.ownsRow.lt M2.out gL e.symm).1; have := hg2'.out; omega))
                have Z3 : Hid (w1.heap.size ≤ w3.heap.size) := Lib.hid (Nat.le_trans (Nat.le_trans hz2'.out (by simp)) HG.out.size)
                go_wp2_with fail
                go_roundw
                case rel => exact ⟨k + 1, L.set t false, ms ++ [(f, (day : Int), (t : Int))], by omega, by simpa using hLl, by go_num, L3.out, M3.out, B3.out, Z3.out, by simp; omega, QR'.out⟩
                case measure => simp [intOf]; omega
            · obtain rfl : t = L.length := by omega
              have hstp : stpF (L, ms) (day, f) = none := by
                unfold stpF
                exact if_neg (nxF_out HNo.out)
              have hrun : runF fr (jobsF imp day ++ dayF imp day (k + 1)) = none := by rw [DK.out, ← List.append_assoc, runF_snoc, QR.out]; exact hstp
              have hA := as_no HE.out (RS.out k (by omega) hrun)
              have HA := Lib.hid hA
              clear hA hrun hstp
              go_wp2_with fail
              go_ret2
              rw [HA.out.1, HA.out.2]
              exact ⟨_, rfl, OwM.nil _ _ _, QB.out⟩
        · obtain rfl : k = X.length := by omega
          have QR' : Hid (runF fr (jobsF imp (day + 1)) = some (L, ms)) := Lib.hid (by rw [JS.out, HXX.out]; exact QR.out)
          have QN' : Hid (ms.length = sumF imp (day + 1)) := Lib.hid (by rw [QN.out, HSd.out])
          go_wp2_with fail
          go_roundw
          case rel => exact ⟨day + 1, L, ms, by omega, hLl, by go_num, QL.out, QM.out, QB.out, hz, QN'.out, QR'.out⟩
          case measure => simp [intOf]; omega
    · obtain rfl : day = imp.length := by omega
      have HA := Lib.hid (as_yes HE.out QR.out)
      go_wp2_with fail
      go_ret2
      rw [HA.out.1, HA.out.2]
      exact ⟨_, rfl, QM.out.lower (by omega), QB.out⟩
end Go.Proofs.Ytaifhikhdcnacaa
