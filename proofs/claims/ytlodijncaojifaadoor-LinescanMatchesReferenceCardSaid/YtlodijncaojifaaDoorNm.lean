/- Package linescan: acceptWord. -/
import Derived.Test.YtlodijncaojifaaDoorNl
namespace Go.Proofs.YtlodijncaojifaaDoor
open Go.RowKit

/-! plain -/
def NoHit (S : ByteArray) (k : Nat) (ws : List ByteArray) (n : Nat) : Prop := ∀ i, i < ws.length → (ws.getD i ByteArray.empty).size ≤ n → hitB S k (ws.getD i ByteArray.empty) = false
theorem hit_eq {S : ByteArray} {k : Nat} {w : ByteArray} (h : hitB S k w = true) : cm S k w = w.size := of_decide_eq_true h
theorem hit_not {S : ByteArray} {k : Nat} {w : ByteArray} (h : hitB S k w = false) : cm S k w ≠ w.size := of_decide_eq_false h
theorem noHit_zero {S : ByteArray} {k : Nat} {ws : List ByteArray} (hw : Wok ws) : NoHit S k ws 0 := fun i hi h => by have := hw.1 i hi; omega
theorem wd_hit {S : ByteArray} {k n i0 : Nat} {ws : List ByteArray} (hw : Wok ws) (hm : i0 ∈ poss S k ws (n + 1)) (hs : (ws.getD i0 ByteArray.empty).size = n + 1) (hn : NoHit S k ws n) : wdF S k ws = some i0 := by
  obtain ⟨h1, h2⟩ := poss_mem.1 hm
  have hit : hitB S k (ws.getD i0 ByteArray.empty) = true := decide_eq_true (by have := (cm_spec S k (ws.getD i0 ByteArray.empty)).1; omega)
  refine wdF_is h1 hit fun j hj => ?_
  cases e : hitB S k (ws.getD j ByteArray.empty)
  · rfl
  · have e1 := hit_eq e
    by_cases q : (ws.getD j ByteArray.empty).size ≤ n
    · rw [hn j (by omega) q] at e; cases e
    · have := wok_one hw h1 (show j < ws.length by omega) hit (by omega)
      omega
theorem wd_go {S : ByteArray} {k n i0 : Nat} {ws : List ByteArray} (hw : Wok ws) (hm : i0 ∈ poss S k ws (n + 1)) (hs : (ws.getD i0 ByteArray.empty).size ≠ n + 1) (hn : NoHit S k ws n) : NoHit S k ws (n + 1) := by
  obtain ⟨h1, h2⟩ := poss_mem.1 hm
  intro j hj hq
  cases e : hitB S k (ws.getD j ByteArray.empty)
  · rfl
  · by_cases q : (ws.getD j ByteArray.empty).size ≤ n
    · rw [hn j hj q] at e; cases e
    · have := wok_one hw hj h1 e (by omega)
      subst this
      omega
theorem wd_none {S : ByteArray} {k n : Nat} {ws : List ByteArray} (hn : NoHit S k ws n) (he : poss S k ws (n + 1) = []) (hp : n = 0 ∨ poss S k ws n ≠ []) : wdF S k ws = none ∧ mxW S k ws = n := by
  have small : ∀ j, j < ws.length → cm S k (ws.getD j ByteArray.empty) ≤ n := fun j hj => by
    refine Classical.byContradiction fun c => ?_
    have : j ∈ poss S k ws (n + 1) := poss_mem.2 ⟨hj, by omega⟩
    rw [he] at this; cases this
  refine ⟨wdF_is_none fun j hj => ?_, ?_⟩
  · cases e : hitB S k (ws.getD j ByteArray.empty)
    · rfl
    · have e1 := hit_eq e
      have := small j hj
      rw [hn j hj (by omega)] at e; cases e
  · have h1 : mxW S k ws ≤ n := mxW_le fun w hw => by
      obtain ⟨j, hj, e⟩ := List.getElem_of_mem hw
      have := small j hj
      rw [List.getD_eq_getElem?_getD, List.getElem?_eq_getElem hj, Option.getD_some, e] at this
      exact this
    rcases hp with e | e
    · omega
    · obtain ⟨j, hj⟩ := List.exists_mem_of_ne_nil _ e
      obtain ⟨g1, g2⟩ := poss_mem.1 hj
      have := mxW_ge (S := S) (k := k) (getD_mem g1)
      omega
theorem wd_end {S : ByteArray} {k n : Nat} {ws : List ByteArray} (hn : NoHit S k ws n) (hp : poss S k ws n ≠ []) (hl : lgW ws ≤ n) : False := by
  obtain ⟨j, hj⟩ := List.exists_mem_of_ne_nil _ hp
  obtain ⟨g1, g2⟩ := poss_mem.1 hj
  have h1 := lgW_ge (getD_mem g1)
  have h2 := (cm_spec S k (ws.getD j ByteArray.empty)).1
  exact hit_not (hn j g1 (by omega)) (by omega)
theorem poss_ne {S : ByteArray} {k : Nat} {ws : List ByteArray} (h : 1 ≤ ws.length) : poss S k ws 0 ≠ [] := by
  intro e
  have : 0 ∈ poss S k ws 0 := poss_mem.2 ⟨h, Nat.zero_le _⟩
  rw [e] at this; cases this

/-! memory -/
theorem StrsIn.bt {g cap b : Nat} {xs : List ByteArray} {w w' : World} (h : StrsIn g cap xs w) (hb : Bt b w w') (hn : g ≠ b) : StrsIn g cap xs w' :=
  ⟨Nat.lt_of_lt_of_le h.lt hb.size, h.le, h.mx, fun i hi => hb.cell hn (h.cell i hi)⟩
theorem IntC.bt {g b : Nat} {l : List Nat} {w w' : World} (h : IntC g l w) (hb : Bt b w w') (hn : g ≠ b) (hl : g < w.heap.size) : IntC g l w' :=
  ⟨fun i hi => hb.cell hn (h.cell i hi), fun i hi => hb.frozen hn hl (h.fz i hi)⟩
theorem Bt.over {b h : Nat} {W u u' : World} (H : Bt b W u) (H' : Bt h u u') (hh : W.heap.size ≤ h) : Bt b W u' :=
  ⟨H'.os.trans H.os, H'.tape.trans H.tape, H'.output.trans H.output, Nat.le_trans H.size H'.size, fun j h1 h2 => (H'.block j (Nat.lt_of_lt_of_le h1 H.size) (by omega)).trans (H.block j h1 h2)⟩
/-- Where the loop of acceptWord stands: the scanner, the words, the boxes of both. -/
structure AwS (S : ByteArray) (k : Nat) (ws : List ByteArray) (g cap b p q h : Nat) (W : World) (n : Nat) (u : World) : Prop where
  row : u.heap[b]? = some (scO S (k + n) false)
  st : StrsIn g cap ws u
  cp : u.cell? ⟨p, 0, none⟩ = some (xp b)
  cq : u.cell? ⟨q, 0, none⟩ = some (.slice (some ⟨g, 0, none⟩) ws.length cap)
  bt : Bt b W u
  hl : h < u.heap.size
theorem AwS.on {S : ByteArray} {k : Nat} {ws : List ByteArray} {g cap b p q h n : Nat} {W u u' : World} (H : AwS S k ws g cap b p q h W n u) (hb : Below u.heap.size u u') : AwS S k ws g cap b p q h W n u' :=
  ⟨row_kept H.row hb, H.st.on hb, cell_below H.cp hb, cell_below H.cq hb, H.bt.trans (.of_below hb), Nat.lt_of_lt_of_le H.hl hb.size⟩
theorem AwS.bth {S : ByteArray} {k : Nat} {ws : List ByteArray} {g cap b p q h n : Nat} {W u u' : World} (H : AwS S k ws g cap b p q h W n u) (hb : Bt h u u') (h1 : b ≠ h) (h2 : g ≠ h) (h3 : p ≠ h) (h4 : q ≠ h) (h5 : W.heap.size ≤ h) : AwS S k ws g cap b p q h W n u' :=
  ⟨hb.row h1 H.row, H.st.bt hb h2, hb.cell h3 H.cp, hb.cell h4 H.cq, H.bt.over hb h5, Nat.lt_of_lt_of_le H.hl hb.size⟩
theorem AwS.next {S : ByteArray} {k : Nat} {ws : List ByteArray} {g cap b p q h n : Nat} {W u : World} (H : AwS S k ws g cap b p q h W n u) (h2 : g ≠ b) (h3 : p ≠ b) (h4 : q ≠ b) : AwS S k ws g cap b p q h W (n + 1) (u.setCell ⟨b, 1, none⟩ (.int .i64 (((k + n : Nat) : Int) + 1))) :=
  ⟨sc_next H.row, H.st.bt (Bt.set b u 1 _) h2, (Bt.set b u 1 _).cell h3 H.cp, (Bt.set b u 1 _).cell h4 H.cq, H.bt.trans (Bt.set b u 1 _), by rw [show (u.setCell ⟨b, 1, none⟩ (.int .i64 (((k + n : Nat) : Int) + 1))).heap.size = u.heap.size by simp]; exact H.hl⟩
theorem poss_le (S : ByteArray) (k : Nat) (ws : List ByteArray) (n : Nat) : (poss S k ws n).length ≤ ws.length := by
  unfold poss
  have := List.length_filter_le (fun i => decide (n ≤ cm S k (ws.getD i ByteArray.empty))) (List.range ws.length)
  rw [List.length_range] at this
  exact this
/-- One byte more: the words that are no longer possible are deleted. -/
theorem del_any {S : ByteArray} {k : Nat} {ws : List ByteArray} {g cap b p q h r n : Nat} {W u : World} (A : AwS S k ws g cap b p q h W n u) (hI : IntC h (poss S k ws n) u) (cr : u.cell? ⟨r, 0, none⟩ = some (.int .i64 n)) (hl : ws.length ≤ 1000000)
    (h1 : b ≠ h) (h2 : g ≠ h) (h3 : p ≠ h) (h4 : q ≠ h) (h5 : W.heap.size ≤ h) (h6 : r ≠ h) :
    Calls Tryd.prog 45 #[.slice (some ⟨h, 0, none⟩) (poss S k ws n).length ws.length, .func (.func 46) #[] #[xp p, xp q, xp r]] u fun e w' =>
      e = .returned (.slice (some ⟨h, 0, none⟩) (poss S k ws (n + 1)).length ws.length) ∧ IntC h (poss S k ws (n + 1)) w' ∧ AwS S k ws g cap b p q h W n w' ∧ w'.cell? ⟨r, 0, none⟩ = some (.int .i64 n) := by
  have hp := poss_le S k ws n
  have D := dlf_any (l := poss S k ws n) (P := fun x => !contB S (k + n) (ws.getD x ByteArray.empty) n) (g := h) (cap := ws.length) (c1 := xp p) (c2 := xp q) (c3 := xp r) (w := u) (by omega) hp hI (fun v i hi hb => by
    have A' := A.bth hb h1 h2 h3 h4 h5
    have hm : (poss S k ws n).getD i 0 ∈ poss S k ws n := by rw [List.getD_eq_getElem?_getD, List.getElem?_eq_getElem hi]; exact List.getElem_mem hi
    exact cloW_any A'.row (poss_mem.1 hm).1 A'.st A'.cp A'.cq (hb.cell h6 cr))
  refine D.mono ?_
  rintro e w' ⟨rfl, d1, d2⟩
  have e : ((poss S k ws n).filter fun x => !(fun x => !contB S (k + n) (ws.getD x ByteArray.empty) n) x) = poss S k ws (n + 1) := by
    rw [← poss_succ]
    congr 1
    funext x
    simp
  rw [e] at d1 ⊢
  exact ⟨rfl, d1, A.bth d2 h1 h2 h3 h4 h5, d2.cell h6 cr⟩
theorem lgW_lt {ws : List ByteArray} (h : ∀ i, i < ws.length → (ws.getD i ByteArray.empty).size < big) : lgW ws < big := by
  induction ws with
  | nil => show 0 < 4611686018427387904; omega
  | cons a ws ih =>
    have h1 := h 0 (by simp)
    have h2 := ih (fun i hi => h (i + 1) (by simpa using hi))
    simp only [List.getD_cons_zero] at h1
    unfold lgW
    have h1' : a.size < 4611686018427387904 := h1
    have h2' : lgW ws < 4611686018427387904 := h2
    show max a.size (lgW ws) < 4611686018427387904
    omega
set_option maxHeartbeats 2000000 in
set_option maxRecDepth 100000 in
theorem acw_any {S : ByteArray} {b k g cap : Nat} {ws : List ByteArray} {w : World} (h : w.heap[b]? = some (scO S k false)) (hk : k ≤ S.size) (hs : S.size < big) (hW : StrsIn g cap ws w) (hgb : g ≠ b) (hw : Wok ws) (h1 : 1 ≤ ws.length) (h2 : ws.length ≤ 1000000) (h3 : lgW ws < big) :
    Calls Tryd.prog 26 #[xp b, .slice (some ⟨g, 0, none⟩) ws.length cap] w fun e w' =>
      ((∃ i, wdF S k ws = some i ∧ e = .returned (.int .i64 (i : Nat))) ∨ (wdF S k ws = none ∧ e = .panicked [sgP])) ∧ w'.heap[b]? = some (scO S (wdK S k ws) false) ∧ Bt b w w' := by
  have hmf : ∀ (fn : Fn) (first cap : Array Value) (w : World), (Instr.makeFunc fn first cap).run Tryd.prog w = .ok (.func fn first cap) w := fun _ _ _ _ => rfl
  have hbl := row_lt h
  have hgl := hW.lt
  have HK := Lib.hid hk
  have HW := Lib.hid hw
  have HL1 := Lib.hid h1
  clear hk hw h1
  go_enter Tryd.func26, Tryd.ntmps26
  go_wp2_with fail
  obtain ⟨u, hu⟩ : ∃ u, u = (w.alloc (bx1 b)).alloc (.cells #[.slice (some ⟨g, 0, none⟩) ws.length cap] 31) := ⟨_, rfl⟩
  have B0 : Below w.heap.size w u := hu ▸ al2 w _ _
  have cp : u.cell? ⟨w.heap.size, 0, none⟩ = some (xp b) := hu ▸ one_new w #[xp b] _ _ _ rfl
  have cq : u.cell? ⟨w.heap.size + 1, 0, none⟩ = some (.slice (some ⟨g, 0, none⟩) ws.length cap) := hu ▸ (two_new w _ _ _ _ _ rfl).1
  have us : w.heap.size + 2 ≤ u.heap.size := by rw [hu]; simp
  rw [← hu]
  clear hu
  refine (ind_any _ ws.length g cap rfl h2 u).mono ?_
  rintro e w1 ⟨rfl, hic, hb1⟩
  obtain ⟨hh, ehh⟩ : ∃ hh, hh = u.heap.size := ⟨_, rfl⟩
  rw [← ehh] at hic ⊢
  have hne : w.heap.size + 2 ≤ hh := by omega
  clear ehh
  have hhl : hh < w1.heap.size := World.block_lt_of_cell? w1 _ (hic.cell 0 (by rw [List.length_range]; have := HL1.out; omega))
  have A0 : AwS S k ws g cap b w.heap.size (w.heap.size + 1) hh w 0 w1 := ⟨row_kept (row_kept h B0) hb1, (hW.on B0).on hb1, cell_below cp hb1, cell_below cq hb1, .of_below (below_on B0 hb1), hhl⟩
  clear hb1 B0 cp cq hW h
  have c2 := A0.cq
  go_wp2_with fail
  refine (lon25_any A0.st).mono ?_
  rintro e w2 ⟨rfl, rfl⟩
  go_wp2_with fail
  have N0 := noHit_zero (S := S) (k := k) HW.out
  rw [← poss_zero S k ws] at hic
  have P0 := poss_ne (S := S) (k := k) HL1.out
  have l0 : (poss S k ws 0).length = ws.length := by rw [poss_zero, List.length_range]
  have I0 := Lib.hid (And.intro A0 (And.intro hic (And.intro N0 P0)))
  have lgb : lgW ws < 4611686018427387904 := h3
  clear A0 hic N0 P0 c2 hhl us
  go_loopw [5, 12] (fun v5 v12 wr => ∃ n m : Nat, v5 = .slice (some ⟨hh, 0, none⟩) m ws.length ∧ v12 = .int .i64 n ∧ n ≤ lgW ws ∧ Hid (m = (poss S k ws n).length) ∧ Hid (AwS S k ws g cap b w.heap.size (w.heap.size + 1) hh w n wr ∧ IntC hh (poss S k ws n) wr ∧ NoHit S k ws n ∧ poss S k ws n ≠ [])) (fun _ v12 _ => lgW ws - (intOf v12).toNat)
  case atStart => exact ⟨0, ws.length, rfl, rfl, Nat.zero_le _, Lib.hid l0.symm, I0⟩
  case round =>
    clear I0 l0 h3
    obtain ⟨n, m, rfl, rfl, hn, HM, HI⟩ := hrel
    obtain ⟨lg, hlg⟩ : ∃ lg, lg = lgW ws := ⟨_, rfl⟩
    rw [← hlg] at hn lgb ⊢
    have HLG := Lib.hid hlg
    clear hlg
    by_cases hlt : n < lg
    · obtain ⟨A, hI, hN, hP⟩ := HI.out
      have A1 := A.on (al1 wr (.cells #[.int .i64 n] 3))
      have hI1 := hI.bt (Bt.al b wr (.cells #[.int .i64 n] 3)) (by omega) A.hl
      have hD := del_any (r := wr.heap.size) A1 hI1 (cell_new wr #[.int .i64 n] 3 _ rfl) h2 (by omega) (by omega) (by omega) (by omega) (by omega) (by have := A.hl; omega)
      rw [← HM.out] at hD
      have HN := Lib.hid hN
      have HP := Lib.hid hP
      have rb : wr.heap.size ≠ b := by have := row_lt A.row; omega
      clear A A1 hI hI1 hN hP HI
      obtain ⟨m', hm'⟩ : ∃ m', m' = (poss S k ws (n + 1)).length := ⟨_, rfl⟩
      rw [← hm'] at hD
      have HM' := Lib.hid hm'
      clear hm'
      go_wp2_with fail
      refine hD.mono ?_
      rintro e w2 ⟨rfl, hI2, A2, cr⟩
      clear hD
      obtain ⟨K, hK⟩ : ∃ K, K = k + n := ⟨_, rfl⟩
      have HKn := Lib.hid hK
      have row2 := A2.row
      rw [← hK] at row2
      clear hK
      by_cases m0 : m' = 0
      · subst m0
        have e0 : poss S k ws (n + 1) = [] := List.eq_nil_of_length_eq_zero HM'.out.symm
        obtain ⟨q1, q2⟩ := wd_none HN.out e0 (.inr HP.out)
        have Q1 := Lib.hid q1
        have Q2 := Lib.hid (show wdK S k ws = K by unfold wdK; rw [q1, HKn.out, ← q2])
        have A3 := Lib.hid A2
        clear q1 q2 e0 hI2 A2 cr
        go_wp2_with fail
        refine ⟨rfl, .inr ⟨Q1.out, rfl⟩, ?_, A3.out.bt⟩
        rw [Q2.out]; exact row2
      · obtain ⟨i0, hi0⟩ : ∃ i0, i0 = (poss S k ws (n + 1)).getD 0 0 := ⟨_, rfl⟩
        have pm : i0 ∈ poss S k ws (n + 1) := by
          rw [hi0, List.getD_eq_getElem?_getD, List.getElem?_eq_getElem (by rw [← HM'.out]; omega)]
          exact List.getElem_mem _
        obtain ⟨il, ic⟩ := poss_mem.1 pm
        have K1 := (cm_ge.1 ic).2 n (by omega)
        rw [← HKn.out] at K1
        have sb : (K : Int) + 1 ≤ 9223372036854775807 := by have : K < 4611686018427387904 := Nat.lt_trans K1.1 hs; omega
        have A3 := A2.next (by omega) (by omega) (by omega)
        rw [← HKn.out] at A3
        have ci := (Bt.set b w2 1 (.int .i64 ((K : Int) + 1))).cell (show hh ≠ b by omega) (hI2.cell 0 (by rw [← HM'.out]; omega))
        rw [← hi0] at ci
        have cq := A3.cq
        have cg := A3.st.cell i0 il
        have cn := (Bt.set b w2 1 (.int .i64 ((K : Int) + 1))).cell rb cr
        have I3 := hI2.bt (Bt.set b w2 1 (.int .i64 ((K : Int) + 1))) (by omega) A2.hl
        have cp := A2.cp
        obtain ⟨c0, c1, c2, f0, f1, f2, -⟩ := sc_facts row2
        have HA3 := Lib.hid A3
        have HI3 := Lib.hid I3
        have HPM := Lib.hid pm
        have b1 : (0 : Int) ≤ 0 ∧ (0 : Int) < (m' : Int) := ⟨by omega, by omega⟩
        have b2 : (0 : Int) ≤ (i0 : Int) ∧ (i0 : Int) < (ws.length : Int) := ⟨by omega, by omega⟩
        have z1 : ((m' : Int) == 0) = false := beq_eq_false_iff_ne.2 (by omega)
        have z2 : (m' == 0) = false := beq_eq_false_iff_ne.2 m0
        have sn : (n : Int) + 1 ≤ 9223372036854775807 := by omega
        have wn : IntKind.i64.wrap ((n : Int) + 1) = (n : Int) + 1 := by rw [IntKind.wrap_i64]; omega
        obtain ⟨wd, hwd⟩ : ∃ wd, wd = ws.getD i0 ByteArray.empty := ⟨_, rfl⟩
        rw [← hwd] at cg
        have HWD := Lib.hid hwd
        clear hwd A3 A2 I3 hI2 pm il ic K1 hi0 row2 cr
        by_cases hsz : wd.size = n + 1
        · have e1 : ((wd.size : Int) == (n : Int) + 1) = true := beq_iff_eq.2 (by omega)
          have e2 : (wd.size == n + 1) = true := beq_iff_eq.2 hsz
          have HS := Lib.hid hsz
          have wf := wd_hit HW.out HPM.out (by rw [← HWD.out]; exact hsz) HN.out
          have WF := Lib.hid wf
          clear wf hsz
          go_wp2_with fail
          go_quiet (fail)
          go_wp2_with fail
          go_ret
          have eK : wdK S k ws = k + (n + 1) := by
            unfold wdK; rw [WF.out]
            show k + (ws.getD i0 ByteArray.empty).size = _
            rw [← HWD.out, HS.out]
          exact ⟨.inl ⟨i0, WF.out, rfl⟩, by rw [eK]; exact row_dn HA3.out.row _, HA3.out.bt.trans (Bt.dn _ _ _)⟩
        · have e1 : ((wd.size : Int) == (n : Int) + 1) = false := beq_eq_false_iff_ne.2 (by omega)
          have e2 : (wd.size == n + 1) = false := beq_eq_false_iff_ne.2 hsz
          have n1 := Lib.hid (wd_go HW.out HPM.out (by rw [← HWD.out]; exact hsz) HN.out)
          clear hsz
          go_wp2_with fail
          go_quiet (fail)
          go_wp2_with fail
          go_roundw
          case rel => exact ⟨n + 1, m', rfl, by go_num, by omega, HM', Lib.hid ⟨HA3.out.on (below_dn (Below.refl _ _) _), HI3.out.dn _, n1.out, List.ne_nil_of_mem HPM.out⟩⟩
          case measure => simp [intOf]; omega
    · exact (wd_end HI.out.2.2.1 HI.out.2.2.2 (by rw [← HLG.out]; omega)).elim
end Go.Proofs.YtlodijncaojifaaDoor
