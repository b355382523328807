/- What earlier stages proved: Yx Yp. -/
import Derived.Test.YtkhicgafhbecfaaGreatDoorP4
import Derived.Test.YtkhicgafhbecfaaGreatDoorP2
import Derived.Test.YtkhicgafhbecfaaGreatDoorP5
import Derived.Test.YtkhicgafhbecfaaGreatDoorKz
namespace Go.Proofs.YtkhicgafhbecfaaGreatDoor
open Go.RowKit

/-- Two chains end alike; where they don't fail, their values are equal. -/
def EqP {α : Type} (f g : Prs α) : Prop := ∀ S x, x.k ≤ S.size → (f S x).2 = (g S x).2 ∧ ((f S x).2.b = false → (f S x).1 = (g S x).1)
theorem EqP.rfl' {α : Type} (f : Prs α) : EqP f f := fun _ _ _ => ⟨rfl, fun _ => rfl⟩
theorem EqP.symm {α : Type} {f g : Prs α} (h : EqP f g) : EqP g f := fun S x hx => ⟨(h S x hx).1.symm, fun hb => ((h S x hx).2 (by rw [(h S x hx).1]; exact hb)).symm⟩
theorem EqP.trans {α : Type} {f g h : Prs α} (a : EqP f g) (b : EqP g h) : EqP f h := fun S x hx => ⟨(a S x hx).1.trans (b S x hx).1, fun hb => ((a S x hx).2 hb).trans ((b S x hx).2 (by rw [← (a S x hx).1]; exact hb))⟩
theorem eqp_B {α β : Type} {f f' : Prs α} {g g' : α → Prs β} (Q : α → Prop) (hQ : ∀ S x, x.k ≤ S.size → (f S x).2.b = false → Q (f S x).1) (Gf : Gk f) (G1 : ∀ a, Gk (g a)) (G2 : ∀ a, Gk (g' a)) (hf : EqP f f') (hg : ∀ a, Q a → EqP (g a) (g' a)) : EqP (yB f g) (yB f' g') := by
  intro S x hx
  obtain ⟨e1, e2⟩ := hf S x hx
  show (g (f S x).1 S (f S x).2).2 = (g' (f' S x).1 S (f' S x).2).2 ∧ ((g (f S x).1 S (f S x).2).2.b = false → (g (f S x).1 S (f S x).2).1 = (g' (f' S x).1 S (f' S x).2).1)
  cases hb : (f S x).2.b
  · rw [← e2 hb, ← e1]
    exact hg _ (hQ S x hx hb) S _ (Gf.le S x hx).2
  · rw [← e1, (G1 _).bad S _ hb, (G2 _).bad S _ hb]
    exact ⟨rfl, fun h => by rw [hb] at h; cases h⟩
theorem eqp_C {α β : Type} {f : Prs α} {g g' : α → Prs β} (Gf : Gk f) (G1 : ∀ a, Gk (g a)) (G2 : ∀ a, Gk (g' a)) (hg : ∀ a, EqP (g a) (g' a)) : EqP (yB f g) (yB f g') :=
  eqp_B (fun _ => True) (fun _ _ _ _ => trivial) Gf G1 G2 (EqP.rfl' f) (fun a _ => hg a)
theorem yW_one (S : ByteArray) (k : Nat) (w : ByteArray) : yW [w] S ⟨k, false⟩ = (if cm S k w = w.size then 0 else -1, ⟨k + cm S k w, !decide (cm S k w = w.size)⟩) := by
  show ((wdI S k [w], (⟨wdK S k [w], false || wdB S k [w]⟩ : Sc)) : Int × Sc) = _
  unfold wdI wdK wdB
  by_cases c : cm S k w = w.size
  · have e : wdF S k [w] = some 0 := by
      unfold wdF hitB
      simp [c]
    rw [e, if_pos c, c]
    simp
  · have e : wdF S k [w] = none := by
      unfold wdF hitB
      simp [c]
    rw [e, if_neg c]
    simp [mxW, c]
theorem cm_app (S : ByteArray) (k : Nat) (a b : ByteArray) : cm S k (a ++ b) = if cm S k a = a.size then a.size + cm S (k + a.size) b else cm S k a := by
  obtain ⟨h1, h2, h3⟩ := cm_spec S k a
  obtain ⟨g1, g2, g3⟩ := cm_spec S (k + a.size) b
  have hs : (a ++ b).size = a.size + b.size := ByteArray.size_append
  split
  · rename_i c
    rw [c] at h2
    refine cm_eq (by omega) (fun j hj => ?_) ?_
    · rw [bt_app]
      by_cases q : j < a.size
      · rw [if_pos q]; exact h2 j q
      · rw [if_neg q]
        have := g2 (j - a.size) (by omega)
        rw [show k + a.size + (j - a.size) = k + j by omega] at this
        exact this
    · rcases g3 with g | g
      · exact .inl (by omega)
      · refine .inr ?_
        rw [bt_app, if_neg (by omega), show a.size + cm S (k + a.size) b - a.size = cm S (k + a.size) b by omega, ← Nat.add_assoc]
        exact g
  · rename_i c
    refine cm_eq (by omega) (fun j hj => ?_) ?_
    · rw [bt_app, if_pos (by omega)]
      exact h2 j hj
    · rcases h3 with g | g
      · exact absurd g c
      · refine .inr ?_
        rw [bt_app, if_pos (by omega)]
        exact g
/-- A word of two parts, one scan or two. -/
theorem eqp_app (a b : ByteArray) : EqP (yW [a ++ b]) (yB (yW [a]) fun _ => yW [b]) := by
  rintro S ⟨k, f⟩ hx
  cases f
  · show (yW [a ++ b] S ⟨k, false⟩).2 = (yW [b] S (yW [a] S ⟨k, false⟩).2).2 ∧ _
    show _ ∧ ((yW [a ++ b] S ⟨k, false⟩).2.b = false → (yW [a ++ b] S ⟨k, false⟩).1 = (yW [b] S (yW [a] S ⟨k, false⟩).2).1)
    rw [yW_one, yW_one S k a, cm_app]
    have hs : (a ++ b).size = a.size + b.size := ByteArray.size_append
    have g1 := (cm_spec S (k + a.size) b).1
    have h1 := (cm_spec S k a).1
    by_cases c : cm S k a = a.size
    · rw [if_pos c]
      simp only [c, decide_true, Bool.not_true]
      rw [yW_one]
      by_cases d : cm S (k + a.size) b = b.size
      · rw [if_pos d, d]
        refine ⟨?_, fun _ => ?_⟩
        · simp only [hs, Nat.add_assoc, decide_true]
        · rw [if_pos (by omega)]
      · rw [if_neg d]
        have d' : ¬ a.size + cm S (k + a.size) b = (a ++ b).size := by omega
        refine ⟨?_, fun _ => ?_⟩
        · simp only [Nat.add_assoc, decide_eq_false d, decide_eq_false d']
        · rw [if_neg d']
    · rw [if_neg c]
      have e : ¬ cm S k a = (a ++ b).size := by omega
      simp only [decide_eq_false c, decide_eq_false e, Bool.not_false]
      refine ⟨?_, fun h => by cases h⟩
      exact ((gd_W [b]).bad S _ rfl).symm
  · exact ⟨rfl, fun h => by cases h⟩
theorem an_rest (i : Int) (h : 0 ≤ i ∧ i < 3) : EqP (yB (rIf (i = 1) rNu 0) fun o => yB (rIf (i = 2) (rCh lWd) 0) fun w => yB (rIf (i = 2) rNu 0) fun c => yB (rIf (¬ i = 1) rNu 0) fun m => yB (rIf (¬ i = 1) rNu 0) fun d => yB (yW [wLf]) fun _ => yR (⟨i + 1, m, d, o, w, c⟩ : Anc)) (yB (yW [wSp]) fun _ => pAnx i) := by
  have hi : i = 0 ∨ i = 1 ∨ i = 2 := by omega
  rcases hi with rfl | rfl | rfl
  · exact EqP.rfl' _
  · exact EqP.rfl' _
  · exact EqP.rfl' _
theorem gd_anRest (i : Int) : Gk (yB (rIf (i = 1) rNu 0) fun o => yB (rIf (i = 2) (rCh lWd) 0) fun w => yB (rIf (i = 2) rNu 0) fun c => yB (rIf (¬ i = 1) rNu 0) fun m => yB (rIf (¬ i = 1) rNu 0) fun d => yB (yW [wLf]) fun _ => yR (⟨i + 1, m, d, o, w, c⟩ : Anc)) :=
  gd_B (gd_rIf gd_rNu) fun _ => gd_B (gd_rIf (gd_rCh _)) fun _ => gd_B (gd_rIf gd_rNu) fun _ => gd_B (gd_rIf gd_rNu) fun _ => gd_B (gd_rIf gd_rNu) fun _ => gd_B (gd_W _) fun _ => gd_R _
theorem wLan_rg (S : ByteArray) (x : Sc) (hx : x.k ≤ S.size) (hb : (yW lAn S x).2.b = false) : 0 ≤ (yW lAn S x).1 ∧ (yW lAn S x).1 < 3 := ((rd_W wds_lAn.ok).so S x hx hb).1
/-- An anchor, the blank ahead of it read first. -/
theorem eqp_An : EqP rAn (yB (yW [wSp]) fun _ => pAnc) := by
  show EqP (yB (yW [wSp]) fun _ => yB (yW lAn) fun i => yB (rIf (i = 1) rNu 0) fun o => yB (rIf (i = 2) (rCh lWd) 0) fun w => yB (rIf (i = 2) rNu 0) fun c => yB (rIf (¬ i = 1) rNu 0) fun m => yB (rIf (¬ i = 1) rNu 0) fun d => yB (yW [wLf]) fun _ => yR (⟨i + 1, m, d, o, w, c⟩ : Anc)) (yB (yW [wSp]) fun _ => yB (yW lAn) fun i => yB (yW [wSp]) fun _ => pAnx i)
  exact eqp_C (gd_W _) (fun _ => gd_B (gd_W _) gd_anRest) (fun _ => gd_B (gd_W _) fun i => gd_B (gd_W _) fun _ => gd_Anx i) fun _ =>
    eqp_B (fun i => 0 ≤ i ∧ i < 3) wLan_rg (gd_W _) gd_anRest (fun i => gd_B (gd_W _) fun _ => gd_Anx i) (EqP.rfl' _) an_rest
theorem eqp_Sea : EqP (yB (yW [wSe5]) fun _ => rSea) pSea := by
  have e : wSea = wSe5 ++ wSp := rfl
  refine EqP.trans (g := yB (yB (yW [wSe5]) fun _ => yW [wSp]) fun _ => yB zI fun id => yB (zN wSp) fun x => yB (zN wSp) fun y => yB pAnc fun a => yR (mkI id x y a)) ?_ ?_
  · show EqP (yB (yB (yW [wSe5]) fun _ => yW [wSp]) fun _ => yB yI fun id => yB (yW [wSp]) fun _ => yB yNu fun x => yB (yW [wSp]) fun _ => yB yNu fun y => yB rAn fun a => yR (mkI id x y a)) (yB (yB (yW [wSe5]) fun _ => yW [wSp]) fun _ => yB yI fun id => yB (yW [wSp]) fun _ => yB yNu fun x => yB (yW [wSp]) fun _ => yB yNu fun y => yB (yB (yW [wSp]) fun _ => pAnc) fun a => yR (mkI id x y a))
    refine eqp_C (gd_B (gd_W _) fun _ => gd_W _) ?_ ?_ fun _ => eqp_C gd_I ?_ ?_ fun id => eqp_C (gd_W _) ?_ ?_ fun _ => eqp_C gd_N ?_ ?_ fun x => eqp_C (gd_W _) ?_ ?_ fun _ => eqp_C gd_N ?_ ?_ fun y => eqp_B (fun _ => True) (fun _ _ _ _ => trivial) gd_rAn (fun _ => gd_R _) (fun _ => gd_R _) eqp_An (fun _ _ => EqP.rfl' _)
    all_goals intro _
    all_goals repeat' first | exact gd_I | exact gd_N | exact gd_W _ | exact gd_rAn | exact gd_R _ | exact gd_Anc | refine gd_B ?_ fun _ => ?_
  · show EqP _ (yB (yW [wSea]) fun _ => _)
    rw [e]
    refine eqp_B (fun _ => True) (fun _ _ _ _ => trivial) (gd_B (gd_W _) fun _ => gd_W _) ?_ ?_ (eqp_app _ _).symm (fun _ _ => EqP.rfl' _)
    all_goals intro _
    all_goals repeat' first | exact gd_zI | exact gd_zN _ | exact gd_Anc | exact gd_R _ | refine gd_B ?_ fun _ => ?_
theorem eqp_Fea : EqP (yB (yW [wFe5]) fun _ => rFea) pFea := by
  have e : wFea = wFe5 ++ wSp := rfl
  refine EqP.trans (g := yB (yB (yW [wFe5]) fun _ => yW [wSp]) fun _ => yB zI fun id => yB (zN wSp) fun x => yB (zC lPo) fun y => yB pAnc fun a => yR (mkI id x (1 + y) a)) ?_ ?_
  · show EqP (yB (yB (yW [wFe5]) fun _ => yW [wSp]) fun _ => yB yI fun id => yB (yW [wSp]) fun _ => yB yNu fun x => yB (yW [wSp]) fun _ => yB (yW lPo) fun y => yB rAn fun a => yR (mkI id x (y + 1) a)) (yB (yB (yW [wFe5]) fun _ => yW [wSp]) fun _ => yB yI fun id => yB (yW [wSp]) fun _ => yB yNu fun x => yB (yW [wSp]) fun _ => yB (yW lPo) fun y => yB (yB (yW [wSp]) fun _ => pAnc) fun a => yR (mkI id x (1 + y) a))
    refine eqp_C (gd_B (gd_W _) fun _ => gd_W _) ?_ ?_ fun _ => eqp_C gd_I ?_ ?_ fun id => eqp_C (gd_W _) ?_ ?_ fun _ => eqp_C gd_N ?_ ?_ fun x => eqp_C (gd_W _) ?_ ?_ fun _ => eqp_C (gd_W _) ?_ ?_ fun y => eqp_B (fun _ => True) (fun _ _ _ _ => trivial) gd_rAn (fun _ => gd_R _) (fun _ => gd_R _) eqp_An (fun a _ => by rw [Int.add_comm y 1]; exact EqP.rfl' _)
    all_goals intro _
    all_goals repeat' first | exact gd_I | exact gd_N | exact gd_W _ | exact gd_rAn | exact gd_R _ | exact gd_Anc | refine gd_B ?_ fun _ => ?_
  · show EqP _ (yB (yW [wFea]) fun _ => _)
    rw [e]
    refine eqp_B (fun _ => True) (fun _ _ _ _ => trivial) (gd_B (gd_W _) fun _ => gd_W _) ?_ ?_ (eqp_app _ _).symm (fun _ _ => EqP.rfl' _)
    all_goals intro _
    all_goals repeat' first | exact gd_zI | exact gd_zN _ | exact gd_zC _ | exact gd_Anc | exact gd_R _ | refine gd_B ?_ fun _ => ?_
theorem cm_zero {S : ByteArray} {k : Nat} {w : ByteArray} (h : nxB S k ≠ bt w 0) : cm S k w = 0 :=
  cm_eq (Nat.zero_le _) (fun j hj => absurd hj (Nat.not_lt_zero j)) (.inr fun g => h (by unfold nxB; rw [if_pos (by have := g.1; omega)]; have := g.2; simpa using this))
theorem yW_neg {ws : List ByteArray} {S : ByteArray} {x : Sc} (h : (yW ws S x).2.b = true) : (yW ws S x).1 = -1 := by
  obtain ⟨k, b⟩ := x
  cases b
  · replace h : (false || wdB S k ws) = true := h
    show wdI S k ws = -1
    unfold wdB at h
    unfold wdI
    cases e : wdF S k ws with
    | none => rfl
    | some i => rw [e] at h; cases h
  · rfl
theorem wd_lF (S : ByteArray) (k : Nat) : wdF S k lF = if cm S k wEnd = 4 then some 0 else if cm S k wFe5 = 5 then some 1 else none := by
  unfold wdF hitB lF
  have e1 : wEnd.size = 4 := rfl
  have e2 : wFe5.size = 5 := rfl
  rw [List.findIdx?_cons, List.findIdx?_cons, List.findIdx?_nil, e1, e2]
  by_cases a : cm S k wEnd = 4 <;> by_cases b : cm S k wFe5 = 5 <;> simp [a, b]
theorem wd_lT (S : ByteArray) (k : Nat) : wdF S k lT = if cm S k wEnd = 4 then some 0 else if cm S k wFe5 = 5 then some 1 else if cm S k wSe5 = 6 then some 2 else none := by
  unfold wdF hitB lT
  have e1 : wEnd.size = 4 := rfl
  have e2 : wFe5.size = 5 := rfl
  have e3 : wSe5.size = 6 := rfl
  rw [List.findIdx?_cons, List.findIdx?_cons, List.findIdx?_cons, List.findIdx?_nil, e1, e2, e3]
  by_cases a : cm S k wEnd = 4 <;> by_cases b : cm S k wFe5 = 5 <;> by_cases c : cm S k wSe5 = 6 <;> simp [a, b, c]
theorem yW_lF_f {S : ByteArray} {k : Nat} (h : cm S k wEnd = 0) : yW lF S ⟨k, false⟩ = (if cm S k wFe5 = 5 then 1 else -1, (yW [wFe5] S ⟨k, false⟩).2) := by
  have e2 : wFe5.size = 5 := rfl
  rw [yW_one, e2]
  show ((wdI S k lF, (⟨wdK S k lF, false || wdB S k lF⟩ : Sc)) : Int × Sc) = _
  unfold wdI wdK wdB
  rw [wd_lF, h, if_neg (by decide)]
  by_cases c : cm S k wFe5 = 5
  · rw [if_pos c, if_pos c, c]; rfl
  · rw [if_neg c, if_neg c]
    simp only [lF, mxW, h, Option.isNone, decide_eq_false c]
    simp
theorem yW_lF_e {S : ByteArray} {k : Nat} (h : cm S k wFe5 = 0) : yW lF S ⟨k, false⟩ = (if cm S k wEnd = 4 then 0 else -1, (yW [wEnd] S ⟨k, false⟩).2) := by
  have e2 : wEnd.size = 4 := rfl
  rw [yW_one, e2]
  show ((wdI S k lF, (⟨wdK S k lF, false || wdB S k lF⟩ : Sc)) : Int × Sc) = _
  unfold wdI wdK wdB
  rw [wd_lF]
  by_cases c : cm S k wEnd = 4
  · rw [if_pos c, if_pos c, c]; rfl
  · rw [if_neg c, if_neg c, h, if_neg (by decide)]
    simp only [lF, mxW, h, Option.isNone, decide_eq_false c]
    simp
theorem yW_lT_s {S : ByteArray} {k : Nat} (h : cm S k wEnd = 0) (h2 : cm S k wFe5 = 0) : yW lT S ⟨k, false⟩ = (if cm S k wSe5 = 6 then 2 else -1, (yW [wSe5] S ⟨k, false⟩).2) := by
  have e2 : wSe5.size = 6 := rfl
  rw [yW_one, e2]
  show ((wdI S k lT, (⟨wdK S k lT, false || wdB S k lT⟩ : Sc)) : Int × Sc) = _
  unfold wdI wdK wdB
  rw [wd_lT, h, if_neg (by decide), h2, if_neg (by decide)]
  by_cases c : cm S k wSe5 = 6
  · rw [if_pos c, if_pos c, c]; rfl
  · rw [if_neg c, if_neg c]
    simp only [lT, mxW, h, h2, Option.isNone, decide_eq_false c]
    simp
theorem yW_lT_lF {S : ByteArray} {k : Nat} (h : cm S k wSe5 = 0) : yW lT S ⟨k, false⟩ = yW lF S ⟨k, false⟩ := by
  show ((wdI S k lT, (⟨wdK S k lT, false || wdB S k lT⟩ : Sc)) : Int × Sc) = ((wdI S k lF, (⟨wdK S k lF, false || wdB S k lF⟩ : Sc)) : Int × Sc)
  unfold wdI wdK wdB
  rw [wd_lT, wd_lF, h, if_neg (show ¬ (0 : Nat) = 6 by decide)]
  by_cases a : cm S k wEnd = 4
  · rw [if_pos a]; rfl
  · rw [if_neg a]
    by_cases b : cm S k wFe5 = 5
    · rw [if_pos b]; rfl
    · rw [if_neg b]
      simp only [lT, lF, mxW, h]
      simp
theorem rGo_bad {n : Nat} {t : Bool} {ss fs : List Itm} {S : ByteArray} {x : Sc} (h : x.b = true) : rGo n t ss fs S x = ((ss, fs), x) := by
  cases n with
  | zero => rfl
  | succ n => show (if x.b = true then _ else _) = _; rw [if_pos h]
theorem rGo_step (n : Nat) (t : Bool) (ss fs : List Itm) (S : ByteArray) (k : Nat) : rGo (n + 1) t ss fs S ⟨k, false⟩ = if (yW (lBt t) S ⟨k, false⟩).1 = 0 then ((ss, fs), (zE S (yW (lBt t) S ⟨k, false⟩).2).2) else
      if (yW (lBt t) S ⟨k, false⟩).1 = 1 then rGo n false ss (fs ++ [(rFea S (yW (lBt t) S ⟨k, false⟩).2).1]) S (rFea S (yW (lBt t) S ⟨k, false⟩).2).2 else
      if (yW (lBt t) S ⟨k, false⟩).1 = 2 then rGo n t (ss ++ [(rSea S (yW (lBt t) S ⟨k, false⟩).2).1]) fs S (rSea S (yW (lBt t) S ⟨k, false⟩).2).2 else
      rGo n t ss fs S (yW (lBt t) S ⟨k, false⟩).2 := by
  show (if (false = true) then ((ss, fs), (⟨k, false⟩ : Sc)) else _) = _
  exact if_neg (by decide)
theorem pMany_step (c : Int) (f : Prs Itm) (n : Nat) (l : List Itm) (S : ByteArray) (x : Sc) : pMany c f (n + 1) l S x = if fpV x.b S x.k = c then pMany c f n (l ++ [(f S x).1]) S (f S x).2 else (l, x) := rfl
theorem pMany_bad {c : Int} (hc : c ≠ 0) {f : Prs Itm} {n : Nat} {l : List Itm} {S : ByteArray} {x : Sc} (h : x.b = true) : pMany c f n l S x = (l, x) := by
  cases n with
  | zero => rfl
  | succ n =>
    rw [pMany_step, h]
    exact if_neg (fun e => hc e.symm)
theorem zE_bad {S : ByteArray} {x : Sc} (h : x.b = true) : (zE S x).2 = x := by
  obtain ⟨k, b⟩ := x
  obtain rfl : b = true := h
  rfl
theorem go_F (S : ByteArray) : ∀ (n m : Nat) (x : Sc) (ss fs : List Itm), x.k ≤ S.size → msr S x < n → msr S x < m →
    (rGo n false ss fs S x).2 = (zE S (yW [wEnd] S (pMany 102 pFea m fs S x).2).2).2 ∧ ((rGo n false ss fs S x).2.b = false → (rGo n false ss fs S x).1 = (ss, (pMany 102 pFea m fs S x).1)) := by
  intro n
  induction n with
  | zero => intro m x ss fs _ h; omega
  | succ n ih =>
    intro m x ss fs hx h1 h2
    obtain ⟨m, rfl⟩ : ∃ m', m = m' + 1 := ⟨m - 1, by omega⟩
    have stop : ∀ (y : Sc) (t : Bool) (l : List Itm), y.b = true → (rGo n t ss l S y).2 = (zE S (yW [wEnd] S y).2).2 ∧ ((rGo n t ss l S y).2.b = false → (rGo n t ss l S y).1 = (ss, fs)) := fun y t l hy => by
      rw [rGo_bad hy, (gd_W [wEnd]).bad S y hy, zE_bad hy]
      exact ⟨rfl, fun g => by rw [hy] at g; cases g⟩
    cases hxb : x.b
    · obtain ⟨k, b⟩ := x
      obtain rfl : b = false := hxb
      by_cases q : nxB S k = 102
      · have z : cm S k wEnd = 0 := cm_zero (by rw [q]; decide)
        have E := eqp_Fea S ⟨k, false⟩ hx
        have e1 : (rFea S (yW [wFe5] S ⟨k, false⟩).2).2 = (pFea S ⟨k, false⟩).2 := E.1
        rw [pMany_step, if_pos (show fpV false S k = 102 from q), rGo_step]
        rw [show lBt false = lF from rfl, yW_lF_f z]
        by_cases c : cm S k wFe5 = 5
        · rw [if_pos c]
          simp only
          rw [if_neg (by decide), if_pos trivial]
          have e2 : (rFea S (yW [wFe5] S ⟨k, false⟩).2).2.b = false → (rFea S (yW [wFe5] S ⟨k, false⟩).2).1 = (pFea S ⟨k, false⟩).1 := E.2
          rw [e1] at e2 ⊢
          cases hb : (pFea S ⟨k, false⟩).2.b
          · rw [e2 hb]
            have hm := msr_step gd_Fea adv_Fea (y := ⟨k, false⟩) hx rfl
            exact ih m _ ss _ (gd_Fea.le S ⟨k, false⟩ hx).2 (by omega) (by omega)
          · rw [pMany_bad (by decide) hb, rGo_bad hb, (gd_W [wEnd]).bad S _ hb, zE_bad hb]
            exact ⟨rfl, fun g => by rw [hb] at g; cases g⟩
        · rw [if_neg c]
          simp only
          rw [if_neg (by decide), if_neg (by decide), if_neg (by decide)]
          have hf : (yW [wFe5] S ⟨k, false⟩).2.b = true := by
            rw [yW_one]
            show (!decide (cm S k wFe5 = wFe5.size)) = true
            rw [decide_eq_false (show ¬ cm S k wFe5 = wFe5.size from c)]; rfl
          rw [gd_rFea.bad S _ hf] at e1
          rw [← e1, pMany_bad (by decide) hf, rGo_bad hf, (gd_W [wEnd]).bad S _ hf, zE_bad hf]
          exact ⟨rfl, fun g => by rw [hf] at g; cases g⟩
      · have z : cm S k wFe5 = 0 := cm_zero (by rw [show bt wFe5 0 = 102 from rfl]; exact q)
        rw [pMany_step, if_neg (show ¬ fpV false S k = 102 from q), rGo_step, show lBt false = lF from rfl, yW_lF_e z]
        by_cases c : cm S k wEnd = 4
        · rw [if_pos c]
          simp only
          rw [if_pos trivial]
          exact ⟨rfl, fun _ => rfl⟩
        · rw [if_neg c]
          simp only
          rw [if_neg (by decide), if_neg (by decide), if_neg (by decide)]
          have hf : (yW [wEnd] S ⟨k, false⟩).2.b = true := by
            rw [yW_one]
            show (!decide (cm S k wEnd = wEnd.size)) = true
            rw [decide_eq_false (show ¬ cm S k wEnd = wEnd.size from c)]; rfl
          rw [rGo_bad hf, zE_bad hf]
          exact ⟨rfl, fun _ => rfl⟩
    · rw [pMany_bad (by decide) hxb, rGo_bad hxb, (gd_W [wEnd]).bad S _ hxb, zE_bad hxb]
      exact ⟨rfl, fun _ => rfl⟩
theorem rGo_TF {S : ByteArray} {k : Nat} (hx : k ≤ S.size) (h : cm S k wSe5 = 0) (n : Nat) (ss fs : List Itm) : rGo (n + 1) true ss fs S ⟨k, false⟩ = rGo (n + 1) false ss fs S ⟨k, false⟩ := by
  rw [rGo_step, rGo_step, show lBt true = lT from rfl, show lBt false = lF from rfl, yW_lT_lF h]
  cases hb : (yW lF S ⟨k, false⟩).2.b
  · obtain ⟨r1, r2⟩ := ((rd_W wds_lF.ok).so S ⟨k, false⟩ hx hb).1
    replace r2 : (yW lF S ⟨k, false⟩).1 < 2 := r2
    by_cases a : (yW lF S ⟨k, false⟩).1 = 0
    · rw [if_pos a]
      try rw [if_pos a]
    · have c : (yW lF S ⟨k, false⟩).1 = 1 := by omega
      rw [if_neg a, if_neg a, if_pos c]
      try rw [if_pos c]
  · have e := yW_neg hb
    rw [rGo_bad hb, rGo_bad hb, e, if_neg (show ¬ (-1 : Int) = 2 by decide), if_neg (show ¬ (-1 : Int) = 2 by decide)]
theorem go_T (S : ByteArray) (N : Nat) : ∀ (n m : Nat) (x : Sc) (ss : List Itm), x.k ≤ S.size → msr S x < n → msr S x < m → msr S x < N →
    (rGo n true ss [] S x).2 = (zE S (yW [wEnd] S (pMany 102 pFea N [] S (pMany 115 pSea m ss S x).2).2).2).2 ∧ ((rGo n true ss [] S x).2.b = false → (rGo n true ss [] S x).1 = ((pMany 115 pSea m ss S x).1, (pMany 102 pFea N [] S (pMany 115 pSea m ss S x).2).1)) := by
  intro n
  induction n with
  | zero => intro m x ss _ h; omega
  | succ n ih =>
    intro m x ss hx h1 h2 h3
    obtain ⟨m, rfl⟩ : ∃ m', m = m' + 1 := ⟨m - 1, by omega⟩
    cases hxb : x.b
    · obtain ⟨k, b⟩ := x
      obtain rfl : b = false := hxb
      by_cases q : nxB S k = 115
      · have z : cm S k wEnd = 0 := cm_zero (by rw [q]; decide)
        have z2 : cm S k wFe5 = 0 := cm_zero (by rw [q]; decide)
        have E := eqp_Sea S ⟨k, false⟩ hx
        have e1 : (rSea S (yW [wSe5] S ⟨k, false⟩).2).2 = (pSea S ⟨k, false⟩).2 := E.1
        rw [pMany_step, if_pos (show fpV false S k = 115 from q), rGo_step, show lBt true = lT from rfl, yW_lT_s z z2]
        by_cases c : cm S k wSe5 = 6
        · rw [if_pos c]
          simp only
          rw [if_neg (by decide), if_neg (by decide), if_pos trivial]
          have e2 : (rSea S (yW [wSe5] S ⟨k, false⟩).2).2.b = false → (rSea S (yW [wSe5] S ⟨k, false⟩).2).1 = (pSea S ⟨k, false⟩).1 := E.2
          rw [e1] at e2 ⊢
          cases hb : (pSea S ⟨k, false⟩).2.b
          · rw [e2 hb]
            have hm := msr_step gd_Sea adv_Sea (y := ⟨k, false⟩) hx rfl
            exact ih m _ _ (gd_Sea.le S ⟨k, false⟩ hx).2 (by omega) (by omega) (by omega)
          · rw [pMany_bad (by decide) hb, pMany_bad (by decide) hb, rGo_bad hb, (gd_W [wEnd]).bad S _ hb, zE_bad hb]
            exact ⟨rfl, fun g => by rw [hb] at g; cases g⟩
        · rw [if_neg c]
          simp only
          rw [if_neg (by decide), if_neg (by decide), if_neg (by decide)]
          have hf : (yW [wSe5] S ⟨k, false⟩).2.b = true := by
            rw [yW_one]
            show (!decide (cm S k wSe5 = wSe5.size)) = true
            rw [decide_eq_false (show ¬ cm S k wSe5 = wSe5.size from c)]; rfl
          rw [gd_rSea.bad S _ hf] at e1
          rw [← e1, pMany_bad (by decide) hf, pMany_bad (by decide) hf, rGo_bad hf, (gd_W [wEnd]).bad S _ hf, zE_bad hf]
          exact ⟨rfl, fun g => by rw [hf] at g; cases g⟩
      · have z : cm S k wSe5 = 0 := cm_zero (by rw [show bt wSe5 0 = 115 from rfl]; exact q)
        rw [pMany_step, if_neg (show ¬ fpV false S k = 115 from q), rGo_TF hx z]
        exact go_F S (n + 1) N ⟨k, false⟩ ss [] hx h1 h3
    · rw [pMany_bad (by decide) hxb, pMany_bad (by decide) hxb, rGo_bad hxb, (gd_W [wEnd]).bad S _ hxb, zE_bad hxb]
      exact ⟨rfl, fun _ => rfl⟩
theorem eqp_head : EqP (yB (yW [wCaf]) fun _ => yB rNu fun f => yB (yW [wLf]) fun _ => yR f) (yB (yW [wCat]) fun _ => yB (yW [wFre]) fun _ => zN wLf) := by
  have e1 : wCaf = wCat ++ ⟨#[102, 114, 101, 101]⟩ := rfl
  have e2 : wFre = ⟨#[102, 114, 101, 101]⟩ ++ wSp := rfl
  refine EqP.trans (g := yB (yB (yW [wCat]) fun _ => yW [⟨#[102, 114, 101, 101]⟩]) fun _ => yB rNu fun f => yB (yW [wLf]) fun _ => yR f) ?_ ?_
  · rw [e1]
    exact eqp_B (fun _ => True) (fun _ _ _ _ => trivial) (gd_W _) (fun _ => gd_B gd_rNu fun _ => gd_B (gd_W _) fun _ => gd_R _) (fun _ => gd_B gd_rNu fun _ => gd_B (gd_W _) fun _ => gd_R _) (eqp_app _ _) (fun _ _ => EqP.rfl' _)
  · show EqP (yB (yW [wCat]) fun _ => yB (yB (yW [⟨#[102, 114, 101, 101]⟩]) fun _ => yW [wSp]) fun _ => zN wLf) _
    refine eqp_C (gd_W _) (fun _ => gd_B (gd_B (gd_W _) fun _ => gd_W _) fun _ => gd_zN _) (fun _ => gd_B (gd_W _) fun _ => gd_zN _) fun _ => ?_
    rw [e2]
    exact eqp_B (fun _ => True) (fun _ _ _ _ => trivial) (gd_B (gd_W _) fun _ => gd_W _) (fun _ => gd_zN _) (fun _ => gd_zN _) (eqp_app _ _).symm (fun _ _ => EqP.rfl' _)
/-- The reference's reading ends as the program's, and yields the same. -/
theorem body_same {S : ByteArray} {N : Nat} (h : S.size + 1 < N) : (rBody N S).2 = pEnd N S ∧ ((pEnd N S).b = false → (rBody N S).1 = (pBody N S ⟨0, false⟩).1) := by
  have E := eqp_head S ⟨0, false⟩ (Nat.zero_le _)
  have Gh : Gk (yB (yW [wCat]) fun _ => yB (yW [wFre]) fun _ => zN wLf) := gd_B (gd_W _) fun _ => gd_B (gd_W _) fun _ => gd_zN _
  generalize hy : (yB (yW [wCat]) fun _ => yB (yW [wFre]) fun _ => zN wLf) S ⟨0, false⟩ = y at E
  have hk := (Gh.le S ⟨0, false⟩ (Nat.zero_le _)).2
  rw [hy] at hk
  have hm : msr S y.2 < N := by unfold msr; split <;> omega
  have T := go_T S N N N y.2 [] hk hm hm hm
  have e3 : (yW [wLf] S (rNu S (yW [wCaf] S ⟨0, false⟩).2).2).2 = y.2 := E.1
  have eB : rBody N S = (⟨(rNu S (yW [wCaf] S ⟨0, false⟩).2).1, (rGo N true [] [] S y.2).1.1, (rGo N true [] [] S y.2).1.2⟩, (rGo N true [] [] S y.2).2) := by rw [← e3]; rfl
  have eP : pBody N S ⟨0, false⟩ = (⟨y.1, (pMany 115 pSea N [] S y.2).1, (pMany 102 pFea N [] S (pMany 115 pSea N [] S y.2).2).1⟩, (yW [wEnd] S (pMany 102 pFea N [] S (pMany 115 pSea N [] S y.2).2).2).2) := by rw [← hy]; rfl
  have eE : pEnd N S = (zE S (yW [wEnd] S (pMany 102 pFea N [] S (pMany 115 pSea N [] S y.2).2).2).2).2 := by unfold pEnd; rw [eP]
  rw [eE, eB, eP]
  refine ⟨T.1, fun hb => ?_⟩
  have hb2 : (rGo N true [] [] S y.2).2.b = false := by rw [T.1]; exact hb
  have hyb : y.2.b = false := by
    cases q : y.2.b
    · rfl
    · rw [rGo_bad q] at hb2; rw [q] at hb2; cases hb2
  have e4 : (rNu S (yW [wCaf] S ⟨0, false⟩).2).1 = y.1 := E.2 (by rw [E.1]; exact hyb)
  show (⟨_, _, _⟩ : Cat) = ⟨_, _, _⟩
  rw [e4, T.2 hb2]
end Go.Proofs.YtkhicgafhbecfaaGreatDoor

namespace Go.Proofs.YtkhicgafhbecfaaGreatDoor
open Go.RowKit

theorem many_len {c : Int} (hc : c ≠ 0) {f : Prs Itm} (G : Gk f) (A : Adv f) (S : ByteArray) : ∀ (n : Nat) (l : List Itm) (x : Sc), x.k ≤ S.size → (pMany c f n l S x).1.length ≤ l.length + msr S x
  | 0, l, x, _ => Nat.le_add_right _ _
  | n + 1, l, x, hx => by
    rw [pMany_step]
    split
    · rename_i q
      have hb : x.b = false := by
        cases e : x.b
        · rfl
        · rw [e] at q; exact absurd q.symm hc
      have h1 := many_len hc G A S n (l ++ [(f S x).1]) (f S x).2 (G.le S x hx).2
      have h2 := msr_step G A hx hb
      rw [List.length_append] at h1
      have : [(f S x).1].length = 1 := rfl
      omega
    · exact Nat.le_add_right _ _
theorem body_len (S : ByteArray) (N : Nat) : (pBody N S ⟨0, false⟩).1.ss.length ≤ S.size + 1 ∧ (pBody N S ⟨0, false⟩).1.fs.length ≤ S.size + 1 := by
  have Gh : Gk (yB (yW [wCat]) fun _ => yB (yW [wFre]) fun _ => zN wLf) := gd_B (gd_W _) fun _ => gd_B (gd_W _) fun _ => gd_zN _
  generalize hy : (yB (yW [wCat]) fun _ => yB (yW [wFre]) fun _ => zN wLf) S ⟨0, false⟩ = y
  have hk := (Gh.le S ⟨0, false⟩ (Nat.zero_le _)).2
  rw [hy] at hk
  have eP : pBody N S ⟨0, false⟩ = (⟨y.1, (pMany 115 pSea N [] S y.2).1, (pMany 102 pFea N [] S (pMany 115 pSea N [] S y.2).2).1⟩, (yW [wEnd] S (pMany 102 pFea N [] S (pMany 115 pSea N [] S y.2).2).2).2) := by rw [← hy]; rfl
  have k2 := ((gd_Many (by decide) gd_Sea N []).le S y.2 hk : _ ∧ (pMany 115 pSea N [] S y.2).2.k ≤ S.size).2
  have h1 := many_len (c := 115) (by decide) gd_Sea adv_Sea S N [] y.2 hk
  have h2 := many_len (c := 102) (by decide) gd_Fea adv_Fea S N [] _ k2
  have m : ∀ x : Sc, msr S x ≤ S.size + 1 := fun x => by unfold msr; split <;> omega
  have m1 := m y.2
  have m2 := m (pMany 115 pSea N [] S y.2).2
  rw [eP]
  rw [List.length_nil] at h1 h2
  exact ⟨by show (pMany 115 pSea N [] S y.2).1.length ≤ _; omega, by show (pMany 102 pFea N [] S (pMany 115 pSea N [] S y.2).2).1.length ≤ _; omega⟩
section
end

end Go.Proofs.YtkhicgafhbecfaaGreatDoor
