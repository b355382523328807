/- Package cattext: what the parser's methods answer; catalogue, Parse. -/
import Derived.Test.YthmfhgehahpgbaaGreatDoorYf
import Derived.Test.YthmfhgehahpgbaaGreatDoorL1
namespace Go.Proofs.YthmfhgehahpgbaaGreatDoor
open Go.RowKit

theorem lt_big {S : ByteArray} (h : S.size ≤ 100000) : S.size < big := Nat.lt_of_le_of_lt h (by unfold big; decide)
section
variable {S : ByteArray} {b : Nat} {x : Sc} {w : World}
theorem p26cho {g cap : Nat} {ws : List ByteArray} (h : w.heap[b]? = some (scX S x)) (hk : x.k ≤ S.size) (hs : S.size ≤ 100000) (hW : StrsIn g cap ws w) (hgb : g ≠ b) (hw : Wds ws) :
    Calls Tryz.prog 67 #[pv b, .slice (some ⟨g, 0, none⟩) ws.length cap] w fun r w' => r = .returned (.int .i64 (zC ws S x).1) ∧ w'.heap[b]? = some (scX S (zC ws S x).2) ∧ Bt b w w' :=
  p26cho_go (j := (yW [wSp] S (yW ws S x).2).1) h (fun _ hu hb => xw_sc hu hk (lt_big hs) (hW.on hb) hgb hw) (fun _ hu => xw_one hu ((gd_W ws).le S x hk).2 (lt_big hs) wds_wSp)
theorem yI_small (hk : x.k ≤ S.size) : (yI S x).1.size ≤ 40 := by
  obtain ⟨k, b⟩ := x
  cases b
  · show (idV S k).size ≤ 40
    unfold idV
    split
    · decide
    · have := idL_le S k hk
      rw [ByteArray.size_extract]; omega
  · show (ByteArray.mk #[]).size ≤ 40
    decide
theorem p26ide (h : w.heap[b]? = some (scX S x)) (hk : x.k ≤ S.size) (hs : S.size ≤ 100000) :
    Calls Tryz.prog 65 #[pv b] w fun r w' => r = .returned (.string (zI S x).1) ∧ w'.heap[b]? = some (scX S (zI S x).2) ∧ Bt b w w' :=
  p26ide_go (i := (yW [wSp] S (yI S x).2).1) h (fun _ hu => xi_sc hu hk (lt_big hs)) (fun u => p26clo _ (Nat.le_trans (yI_small hk) (by decide)) u) (fun _ hu => xw_one hu (gd_I.le S x hk).2 (lt_big hs) wds_wSp)
theorem p26fix (h : w.heap[b]? = some (scX S x)) (hk : x.k ≤ S.size) (hs : S.size ≤ 100000) :
    Calls Tryz.prog 89 #[pv b] w fun r w' => r = .returned (anc26 (pFix S x).1) ∧ w'.heap[b]? = some (scX S (pFix S x).2) ∧ Bt b w w' :=
  p26fix_go h (fun _ hu => p26num hu hk (lt_big hs) wds_wSp) (fun _ hu => p26num hu ((gd_zN wSp).le S x hk).2 (lt_big hs) wds_wLf)
theorem p26eas (h : w.heap[b]? = some (scX S x)) (hk : x.k ≤ S.size) (hs : S.size ≤ 100000) :
    Calls Tryz.prog 90 #[pv b] w fun r w' => r = .returned (anc26 (pEas S x).1) ∧ w'.heap[b]? = some (scX S (pEas S x).2) ∧ Bt b w w' :=
  p26eas_go h (fun _ hu => p26num hu hk (lt_big hs) wds_wLf)
theorem p26nth (h : w.heap[b]? = some (scX S x)) (hk : x.k ≤ S.size) (hs : S.size ≤ 100000) (hT : WTab w) :
    Calls Tryz.prog 91 #[pv b] w fun r w' => r = .returned (anc26 (pNth S x).1) ∧ w'.heap[b]? = some (scX S (pNth S x).2) ∧ Bt b w w' := by
  have k1 := ((gd_zC lWd).le S x hk).2
  have k2 := ((gd_zN wSp).le S _ k1).2
  have k3 := ((gd_zN wSp).le S _ k2).2
  exact p26nth_go h hT (fun u hu => p26wwd u hu) (fun _ _ _ hu hI hg => p26cho hu hk hs hI hg wds_lWd) (fun _ hu => p26num hu k1 (lt_big hs) wds_wSp) (fun _ hu => p26num hu k2 (lt_big hs) wds_wSp) (fun _ hu => p26num hu k3 (lt_big hs) wds_wLf)
theorem zC_cases (ws : List ByteArray) : (zC ws S x).1 = -1 ∨ (0 ≤ (zC ws S x).1 ∧ (zC ws S x).1 < ws.length) := by
  obtain ⟨k, b⟩ := x
  cases b
  · show wdI S k ws = -1 ∨ (0 ≤ wdI S k ws ∧ wdI S k ws < ws.length)
    unfold wdI
    cases e : wdF S k ws with
    | none => exact .inl rfl
    | some i => exact .inr ⟨by show (0 : Int) ≤ i; omega, by have := (wdF_some e).1; show (i : Int) < ws.length; omega⟩
  · exact .inl rfl
theorem p26cho3 {u : World} (h : u.heap[b]? = some (scX S x)) (hk : x.k ≤ S.size) (hs : S.size ≤ 100000) :
    Calls Tryz.prog 67 #[pv b, .slice (some ⟨u.heap.size, 0, none⟩) 3 3] (u.alloc (.cells #[.string wFix, .string wEas, .string wNth] 9)) fun r w' => r = .returned (.int .i64 (zC lAn S x).1) ∧ w'.heap[b]? = some (scX S (zC lAn S x).2) ∧ Bt b u w' :=
  (p26cho (ws := lAn) (row_kept h (al1 u _)) hk hs (lit3 wFix wEas wNth _) (by have := row_lt h; omega) wds_lAn).mono fun _ _ ⟨h1, h2, h3⟩ => ⟨h1, h2, (Bt.al b u _).trans h3⟩
theorem p26anc (h : w.heap[b]? = some (scX S x)) (hk : x.k ≤ S.size) (hs : S.size ≤ 100000) (hT : WTab w) :
    Calls Tryz.prog 66 #[pv b] w fun r w' => r = .returned (anc26 (pAnc S x).1) ∧ w'.heap[b]? = some (scX S (pAnc S x).2) ∧ Bt b w w' := by
  have k1 := ((gd_zC lAn).le S x hk).2
  have hc : (zC lAn S x).1 = 0 ∨ (zC lAn S x).1 = 1 ∨ (zC lAn S x).1 = 2 ∨ (zC lAn S x).1 = -1 := by
    rcases zC_cases (S := S) (x := x) lAn with e | ⟨e1, e2⟩
    · exact .inr (.inr (.inr e))
    · have e2 : (zC lAn S x).1 < 3 := e2
      omega
  have H : ∀ u : World, u.heap[b]? = some (scX S x) → _ := fun u hu => p26cho3 (u := u) hu hk hs
  rcases hc with e | e | e | e
  · have ep : pAnc S x = pFix S (zC lAn S x).2 := by show pAnx (zC lAn S x).1 S _ = _; rw [e]; rfl
    rw [ep]; rw [e] at H
    exact p26anc_go0 h H (fun _ hu => p26fix hu k1 hs)
  · have ep : pAnc S x = pEas S (zC lAn S x).2 := by show pAnx (zC lAn S x).1 S _ = _; rw [e]; rfl
    rw [ep]; rw [e] at H
    exact p26anc_go1 h H (fun _ hu => p26eas hu k1 hs)
  · have ep : pAnc S x = pNth S (zC lAn S x).2 := by show pAnx (zC lAn S x).1 S _ = _; rw [e]; rfl
    rw [ep]; rw [e] at H
    exact p26anc_go2 h hT H (fun _ hu hT => p26nth hu k1 hs hT)
  · have ep : pAnc S x = (⟨0, 0, 0, 0, 0, 0⟩, (zC lAn S x).2) := by show pAnx (zC lAn S x).1 S _ = _; rw [e]; rfl
    rw [ep]; rw [e] at H
    exact p26anc_go3 h H
theorem p26sea (h : w.heap[b]? = some (scX S x)) (hk : x.k ≤ S.size) (hs : S.size ≤ 100000) (hT : WTab w) :
    Calls Tryz.prog 41 #[pv b] w fun r w' => r = .returned (.agg (pSea S x).1.vals) ∧ w'.heap[b]? = some (scX S (pSea S x).2) ∧ Bt b w w' := by
  have k1 := ((gd_W [wSea]).le S x hk).2
  have k2 := (gd_zI.le S _ k1).2
  have k3 := ((gd_zN wSp).le S _ k2).2
  have k4 := ((gd_zN wSp).le S _ k3).2
  exact p26sea_go (j := (yW [wSea] S x).1) h hT (fun _ hu => xw_one (e := wSea) hu hk (lt_big hs) wds_wSea) (fun _ hu => p26ide hu k1 hs) (fun _ hu => p26num hu k2 (lt_big hs) wds_wSp) (fun _ hu => p26num hu k3 (lt_big hs) wds_wSp) (fun _ hu hT => p26anc hu k4 hs hT)
theorem p26fea (h : w.heap[b]? = some (scX S x)) (hk : x.k ≤ S.size) (hs : S.size ≤ 100000) (hT : WTab w) :
    Calls Tryz.prog 42 #[pv b] w fun r w' => r = .returned (.agg (pFea S x).1.vals) ∧ w'.heap[b]? = some (scX S (pFea S x).2) ∧ Bt b w w' := by
  have k1 := ((gd_W [wFea]).le S x hk).2
  have k2 := (gd_zI.le S _ k1).2
  have k3 := ((gd_zN wSp).le S _ k2).2
  have k4 := ((gd_zC lPo).le S _ k3).2
  exact p26fea_go (j := (yW [wFea] S x).1) h hT (fun _ hu => xw_one (e := wFea) hu hk (lt_big hs) wds_wFea) (fun _ hu => p26ide hu k1 hs) (fun _ hu => p26num hu k2 (lt_big hs) wds_wSp) (fun u => p26pol u) (fun _ _ hu hI hg => p26cho (ws := lPo) hu k3 hs hI hg wds_lPo)
    (by rcases zC_cases (S := S) (x := (zN wSp S (zI S (yW [wFea] S x).2).2).2) lPo with e | ⟨e1, e2⟩
        · rw [e]; omega
        · have e2 : (zC lPo S (zN wSp S (zI S (yW [wFea] S x).2).2).2).1 < 3 := e2
          omega) (fun _ hu hT => p26anc hu k4 hs hT)
theorem p26beg {t : ByteArray} (d : Int) (h : w.heap[b]? = some (scX S x)) (hk : x.k ≤ S.size) (hd : bt t 0 = d) (h1 : 1 ≤ t.size) :
    Calls Tryz.prog 40 #[pv b, .string t] w fun e w' => e = .returned (.bool (fpV x.b S x.k == d)) ∧ Below w.heap.size w w' :=
  p26beg_go (d := d) h (fun _ hu => xp_all hu hk) (fun u => by have e := idx_str t 0 (Int.le_refl _) (by omega) u; rw [show (0 : Int).toNat = 0 from rfl, hd] at e; exact e) rfl
end

/-! the loops -/
def msr (S : ByteArray) (y : Sc) : Nat := S.size - y.k + (if y.b then 0 else 1)
def msW (S : ByteArray) (b : Nat) (w : World) : Nat := S.size - (intOf ((w.cell? ⟨b, 1, none⟩).getD undef)).toNat + (match w.cell? ⟨b, 2, none⟩ with | some (.bool true) => 0 | _ => 1)
theorem msW_is {S : ByteArray} {b : Nat} {y : Sc} {w : World} (h : w.heap[b]? = some (scX S y)) : msW S b w = msr S y := by
  obtain ⟨c0, c1, c2, -⟩ := sc_facts h
  unfold msW msr
  rw [c1, c2]
  obtain ⟨k, bb⟩ := y
  cases bb <;> rfl
theorem msr_step {f : Prs Itm} (G : Gk f) (A : Adv f) {S : ByteArray} {y : Sc} (hk : y.k ≤ S.size) (hb : y.b = false) : msr S (f S y).2 < msr S y := by
  have h1 := (G.le S y hk)
  have h2 := A S y hk
  unfold msr
  rw [hb]
  cases q : (f S y).2.b
  · have := h2 q
    show _ + 1 < _ + 1
    omega
  · show _ + 0 < _ + 1
    omega
/-- The state of the loops of catalogue. -/
structure CL (S : ByteArray) (b P R Q : Nat) (W : World) (free : Int) (vS vF : Value) (ls lf : List Itm) (y : Sc) (u : World) : Prop where
  p : u.heap[P]? = some (.cells #[xp b] 47 (0, 0))
  r : u.heap[R]? = some (.cells #[.int .i64 0, .slice none 0 0, .slice none 0 0] 26 (0, 0))
  q : u.heap[Q]? = some (.cells #[.int .i64 free, vS, vF] 26 (0, 0))
  s : u.heap[b]? = some (scX S y)
  bt : Bt b W u
  t : WTab u
  z : Q + 1 ≤ u.heap.size
  os : ItsAt 41 (Q + 1) vS ls u
  of : ItsAt 43 (Q + 1) vF lf u
theorem ItsAt.bt {t : TypeId} {B b : Nat} {v : Value} {xs : List Itm} {w w' : World} (h : ItsAt t B v xs w) (hb : Bt b w w') (hB : b < B) : ItsAt t B v xs w' := by
  refine World.ownsRow.kept h (row := some b) ⟨hb.os, hb.tape, hb.output, hb.size, fun k hk hne => hb.block k hk (fun e => hne (by rw [e]))⟩ ?_
  rcases h.2 with ⟨rfl, _⟩ | ⟨g, cap, cur, rfl, hg, _⟩
  · exact .inl rfl
  · right; simp [Value.ownBlock]; omega
section
variable {S : ByteArray} {b P R Q : Nat} {W : World} {free : Int} {vS vF : Value} {ls lf : List Itm} {y : Sc} {u u' : World}
theorem CL.below (h : CL S b P R Q W free vS vF ls lf y u) (hb : Below u.heap.size u u') : CL S b P R Q W free vS vF ls lf y u' :=
  ⟨row_kept h.p hb, row_kept h.r hb, row_kept h.q hb, row_kept h.s hb, h.bt.trans (.of_below hb), h.t.on hb, Nat.le_trans h.z hb.size, h.os.on hb, h.of.on hb⟩
theorem CL.call (h : CL S b P R Q W free vS vF ls lf y u) (lp : b < P) (lr : P < R) (lq : R < Q) {y' : Sc} (hs : u'.heap[b]? = some (scX S y')) (hb : Bt b u u') : CL S b P R Q W free vS vF ls lf y' u' :=
  ⟨hb.row (by omega) h.p, hb.row (by omega) h.r, hb.row (by omega) h.q, hs, h.bt.trans hb, h.t.mv hb (ne_scan h.t h.s), Nat.le_trans h.z hb.size, h.os.bt hb (by omega), h.of.bt hb (by omega)⟩
end
theorem own_ne {t T : TypeId} {B c : Nat} {v : Value} {xs : List Itm} {w : World} {cs : Array Value} {fr : Nat × Nat} (h : ItsAt t B v xs w) (hr : w.heap[c]? = some (.cells cs T fr)) (ht : T ≠ t) : some c ≠ v.ownBlock := fun e => by
  rcases h.2 with ⟨rfl, _⟩ | ⟨g, cap, cur, rfl, _, hg, _⟩
  · cases e
  · obtain rfl : c = g := by simpa [Value.ownBlock] using e
    rw [hr] at hg
    injection hg with hg
    injection hg with _ h2 _
    exact ht h2
theorem CL.adds {S : ByteArray} {b P R Q : Nat} {W : World} {free : Int} {vS vF vN : Value} {ls lf : List Itm} {t : Itm} {y : Sc} {u wz : World} (h : CL S b P R Q W free vS vF ls lf y u) (lw : W.heap.size = P) (lg : 1 < P) (lp : b < P) (lr : P < R) (lq : R < Q)
    (hown : wz.ownsRow (Q + 1) 41 9 vN (ls.length + 1) (flat9 ls ++ flat9 [t])) (hg : u.grownBy wz vS.ownBlock) :
    CL S b P R Q W free vN vF (ls ++ [t]) lf y (wz.setCell ⟨Q, 1, none⟩ vN) ∧ wz.heap[Q]? = some (.cells #[.int .i64 free, vS, vF] 26 (0, 0)) := by
  have kp : ∀ (c : Nat) (o : Array Value) (T : TypeId), u.heap[c]? = some (.cells o T (0, 0)) → T ≠ 41 → wz.heap[c]? = some (.cells o T (0, 0)) := fun c o T hr ht => by
    rw [hg.block c (row_lt hr) (own_ne h.os hr ht)]; exact hr
  have zq := kp Q _ _ h.q (by decide)
  have g0 := Bt.set Q wz 1 vN
  obtain ⟨tt, fr, te⟩ := h.t.row
  have far : ∀ j, j < Q + 1 → some j ≠ vS.ownBlock := fun j hj e => absurd (World.ownsRow.lt h.os j e.symm).1 (by omega)
  have hbz : Bt b W wz := ⟨hg.os.trans h.bt.os, hg.tape.trans h.bt.tape, hg.output.trans h.bt.output, Nat.le_trans h.bt.size hg.size, fun j hj hne => by
    rw [hg.block j (Nat.lt_of_lt_of_le hj h.bt.size) (far j (by omega))]; exact h.bt.block j hj hne⟩
  have hT : WTab wz := ⟨⟨tt, fr, by rw [hg.block _ h.t.heap (far _ (by omega))]; exact te⟩⟩
  refine ⟨⟨g0.row (by omega) (kp P _ _ h.p (by decide)), g0.row (by omega) (kp R _ _ h.r (by decide)), heap_setCell_same wz Q 1 _ _ vN zq, g0.row (by omega) (kp b _ _ h.s (by decide)), hbz.over g0 (by omega), hT.mv g0 (by omega), Nat.le_trans (Nat.le_trans h.z hg.size) g0.size, ?_, ?_⟩, zq⟩
  · exact (ItsAt.app (xs := ls) (ys := [t]) hown).put (p := ⟨Q, 1, none⟩) (Nat.lt_succ_self Q) vN
  · exact (ItsAt.oth h.of h.os hg (by decide)).put (p := ⟨Q, 1, none⟩) (Nat.lt_succ_self Q) vN
theorem CL.addf {S : ByteArray} {b P R Q : Nat} {W : World} {free : Int} {vS vF vN : Value} {ls lf : List Itm} {t : Itm} {y : Sc} {u wz : World} (h : CL S b P R Q W free vS vF ls lf y u) (lw : W.heap.size = P) (lg : 1 < P) (lp : b < P) (lr : P < R) (lq : R < Q)
    (hown : wz.ownsRow (Q + 1) 43 9 vN (lf.length + 1) (flat9 lf ++ flat9 [t])) (hg : u.grownBy wz vF.ownBlock) :
    CL S b P R Q W free vS vN ls (lf ++ [t]) y (wz.setCell ⟨Q, 2, none⟩ vN) ∧ wz.heap[Q]? = some (.cells #[.int .i64 free, vS, vF] 26 (0, 0)) := by
  have kp : ∀ (c : Nat) (o : Array Value) (T : TypeId), u.heap[c]? = some (.cells o T (0, 0)) → T ≠ 43 → wz.heap[c]? = some (.cells o T (0, 0)) := fun c o T hr ht => by
    rw [hg.block c (row_lt hr) (own_ne h.of hr ht)]; exact hr
  have zq := kp Q _ _ h.q (by decide)
  have g0 := Bt.set Q wz 2 vN
  obtain ⟨tt, fr, te⟩ := h.t.row
  have far : ∀ j, j < Q + 1 → some j ≠ vF.ownBlock := fun j hj e => absurd (World.ownsRow.lt h.of j e.symm).1 (by omega)
  have hbz : Bt b W wz := ⟨hg.os.trans h.bt.os, hg.tape.trans h.bt.tape, hg.output.trans h.bt.output, Nat.le_trans h.bt.size hg.size, fun j hj hne => by
    rw [hg.block j (Nat.lt_of_lt_of_le hj h.bt.size) (far j (by omega))]; exact h.bt.block j hj hne⟩
  have hT : WTab wz := ⟨⟨tt, fr, by rw [hg.block _ h.t.heap (far _ (by omega))]; exact te⟩⟩
  refine ⟨⟨g0.row (by omega) (kp P _ _ h.p (by decide)), g0.row (by omega) (kp R _ _ h.r (by decide)), heap_setCell_same wz Q 2 _ _ vN zq, g0.row (by omega) (kp b _ _ h.s (by decide)), hbz.over g0 (by omega), hT.mv g0 (by omega), Nat.le_trans (Nat.le_trans h.z hg.size) g0.size, ?_, ?_⟩, zq⟩
  · exact (ItsAt.oth h.os h.of hg (by decide)).put (p := ⟨Q, 2, none⟩) (Nat.lt_succ_self Q) vN
  · exact (ItsAt.app (xs := lf) (ys := [t]) hown).put (p := ⟨Q, 2, none⟩) (Nat.lt_succ_self Q) vN
end Go.Proofs.YthmfhgehahpgbaaGreatDoor
