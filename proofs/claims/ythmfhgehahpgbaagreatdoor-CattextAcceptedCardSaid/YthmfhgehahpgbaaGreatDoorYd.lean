/- A catalogue's text, plain: how it is read (pBody) and how it is written (txC); what is read is printable, and lies there as it is written (body_so); what is printable is read off its text (body_co); a text cut off or spoilt is rejected there (body_sm). -/
import Derived.Test.YthmfhgehahpgbaaGreatDoorYc
import Derived.Test.YthmfhgehahpgbaaGreatDoorKw
namespace Go.Proofs.YthmfhgehahpgbaaGreatDoor
open Go.RowKit

structure Anc where
  k : Int
  m : Int
  d : Int
  o : Int
  w : Int
  c : Int
def Itm.anc (t : Itm) : Anc := ⟨t.k, t.m, t.d, t.o, t.w, t.c⟩
def mkI (id : ByteArray) (x y : Int) (a : Anc) : Itm := ⟨id, x, y, a.k, a.m, a.d, a.o, a.w, a.c⟩
/-! reading -/
def pFix : Prs Anc := yB (zN wSp) fun m => yB (zN wLf) fun d => yR ⟨1, m, d, 0, 0, 0⟩
def pEas : Prs Anc := yB (zN wLf) fun o => yR ⟨2, 0, 0, o, 0, 0⟩
def pNth : Prs Anc := yB (zC lWd) fun w => yB (zN wSp) fun c => yB (zN wSp) fun m => yB (zN wLf) fun d => yR ⟨3, m, d, 0, w, c⟩
def pAnx (i : Int) : Prs Anc := if i = 0 then pFix else if i = 1 then pEas else if i = 2 then pNth else yR ⟨0, 0, 0, 0, 0, 0⟩
def pAnc : Prs Anc := yB (zC lAn) pAnx
def pSea : Prs Itm := yB (yW [wSea]) fun _ => yB zI fun id => yB (zN wSp) fun x => yB (zN wSp) fun y => yB pAnc fun a => yR (mkI id x y a)
def pFea : Prs Itm := yB (yW [wFea]) fun _ => yB zI fun id => yB (zN wSp) fun x => yB (zC lPo) fun y => yB pAnc fun a => yR (mkI id x (1 + y) a)
def pMany (c : Int) (f : Prs Itm) : Nat → List Itm → Prs (List Itm)
  | 0, l => yR l
  | n + 1, l => fun S x => if fpV x.b S x.k = c then pMany c f n (l ++ [(f S x).1]) S (f S x).2 else (l, x)
def pBody (N : Nat) : Prs Cat := yB (yW [wCat]) fun _ => yB (yW [wFre]) fun _ => yB (zN wLf) fun free => yB (pMany 115 pSea N []) fun ss => yB (pMany 102 pFea N []) fun fs => yB (yW [wEnd]) fun _ => yR ⟨free, ss, fs⟩
/-! writing -/
def wFix : ByteArray := ⟨#[102, 105, 120, 101, 100]⟩
def wEas : ByteArray := ⟨#[101, 97, 115, 116, 101, 114]⟩
def wNth : ByteArray := ⟨#[110, 116, 104]⟩
def txA (a : Anc) : ByteArray := if a.k = 1 then wFix ++ (wSp ++ (itB a.m ++ (wSp ++ (itB a.d ++ wLf)))) else if a.k = 2 then wEas ++ (wSp ++ (itB a.o ++ wLf)) else wNth ++ (wSp ++ (nm a.w ++ (wSp ++ (itB a.c ++ (wSp ++ (itB a.m ++ (wSp ++ (itB a.d ++ wLf))))))))
def txP (y : Int) : ByteArray := if y = 1 then ⟨#[116, 114, 97, 110, 115, 102, 101, 114]⟩ else if y = 2 then ⟨#[99, 111, 109, 109, 101, 109, 111, 114, 97, 116, 101]⟩ else ⟨#[111, 109, 105, 116]⟩
def txS (t : Itm) : ByteArray := wSea ++ (t.id ++ (wSp ++ (itB t.x ++ (wSp ++ (itB t.y ++ (wSp ++ txA t.anc))))))
def txF (t : Itm) : ByteArray := wFea ++ (t.id ++ (wSp ++ (itB t.x ++ (wSp ++ (txP t.y ++ (wSp ++ txA t.anc))))))
def txs (f : Itm → ByteArray) : List Itm → ByteArray
  | [] => ByteArray.empty
  | t :: l => f t ++ txs f l
def txC (c : Cat) : ByteArray := wCat ++ (wFre ++ (itB c.free ++ (wLf ++ (txs txS c.ss ++ (txs txF c.fs ++ wEnd)))))
/-! printable -/
def ancK (a : Anc) : Bool := if a.k = 1 then decide (a.o = 0) && (decide (a.w = 0) && decide (a.c = 0)) else if a.k = 2 then decide (a.m = 0) && (decide (a.d = 0) && (decide (a.w = 0) && decide (a.c = 0))) else if a.k = 3 then decide (a.o = 0) && (decide (0 ≤ a.w) && decide (a.w ≤ 6)) else false
def ancB (a : Anc) : Bool := (inT a.m && (inT a.d && (inT a.o && inT a.c))) && ancK a
def okS (t : Itm) : Bool := idn t.id && (inT t.x && (inT t.y && ancB t.anc))
def okF (t : Itm) : Bool := idn t.id && (inT t.x && ((decide (1 ≤ t.y) && decide (t.y ≤ 3)) && ancB t.anc))
def okCt (c : Cat) : Bool := c.ss.all okS && (c.fs.all okF && inT c.free)
/-! what every step keeps -/
theorem gd_Fix : Gk pFix := gd_B (gd_zN _) fun _ => gd_B (gd_zN _) fun _ => gd_R _
theorem gd_Eas : Gk pEas := gd_B (gd_zN _) fun _ => gd_R _
theorem gd_Nth : Gk pNth := gd_B (gd_zC _) fun _ => gd_B (gd_zN _) fun _ => gd_B (gd_zN _) fun _ => gd_B (gd_zN _) fun _ => gd_R _
theorem gd_Anx (i : Int) : Gk (pAnx i) := by
  unfold pAnx
  split
  · exact gd_Fix
  · split
    · exact gd_Eas
    · split
      · exact gd_Nth
      · exact gd_R _
theorem gd_Anc : Gk pAnc := gd_B (gd_zC _) gd_Anx
theorem gd_Sea : Gk pSea := gd_B (gd_W _) fun _ => gd_B gd_zI fun _ => gd_B (gd_zN _) fun _ => gd_B (gd_zN _) fun _ => gd_B gd_Anc fun _ => gd_R _
theorem gd_Fea : Gk pFea := gd_B (gd_W _) fun _ => gd_B gd_zI fun _ => gd_B (gd_zN _) fun _ => gd_B (gd_zC _) fun _ => gd_B gd_Anc fun _ => gd_R _
theorem gd_Many {c : Int} {f : Prs Itm} (hc : c ≠ 0) (G : Gk f) : ∀ (n : Nat) (l : List Itm), Gk (pMany c f n l) := by
  intro n
  induction n with
  | zero => intro l; exact gd_R l
  | succ n ih =>
    intro l
    constructor
    · intro S x hk
      unfold pMany
      split
      · obtain ⟨a, b⟩ := G.le S x hk
        obtain ⟨d, e⟩ := (ih (l ++ [(f S x).1])).le S (f S x).2 b
        exact ⟨Nat.le_trans a d, e⟩
      · exact ⟨Nat.le_refl _, hk⟩
    · intro S x hb
      unfold pMany
      rw [if_neg]
      rw [hb]
      exact fun e => hc e.symm
theorem gd_Body (N : Nat) : Gk (pBody N) := gd_B (gd_W _) fun _ => gd_B (gd_W _) fun _ => gd_B (gd_zN _) fun _ => gd_B (gd_Many (by decide) gd_Sea N []) fun _ => gd_B (gd_Many (by decide) gd_Fea N []) fun _ => gd_B (gd_W _) fun _ => gd_R _
/-! what begins with a word goes on by its length at least -/
theorem adv_W {α : Type} {w : ByteArray} (hw : Wok [w]) {f : Prs α} (G : Gk f) {S : ByteArray} {x : Sc} (hk : x.k ≤ S.size) (hb : ((yB (yW [w]) fun _ => f) S x).2.b = false) : x.k + w.size ≤ ((yB (yW [w]) fun _ => f) S x).2.k := by
  have h1 : (yW [w] S x).2.b = false := G.ok hb
  obtain ⟨_, _, a3⟩ := (rd_W1 hw).so S x hk h1
  have hk2 := ((gd_W [w]).le S x hk).2
  have := (G.le S (yW [w] S x).2 hk2).1
  show x.k + w.size ≤ (f S (yW [w] S x).2).2.k
  omega
def Adv (f : Prs Itm) : Prop := ∀ S x, x.k ≤ S.size → (f S x).2.b = false → x.k < (f S x).2.k
theorem adv_Sea : Adv pSea := fun S x hk hb => by
  have := adv_W (S := S) (x := x) wds_wSea.ok (gd_B gd_zI fun id => gd_B (gd_zN wSp) fun a => gd_B (gd_zN wSp) fun b => gd_B gd_Anc fun c => gd_R (mkI id a b c)) hk hb
  have s : wSea.size = 7 := rfl
  rw [s] at this
  exact Nat.lt_of_lt_of_le (by omega) this
theorem adv_Fea : Adv pFea := fun S x hk hb => by
  have := adv_W (S := S) (x := x) wds_wFea.ok (gd_B gd_zI fun id => gd_B (gd_zN wSp) fun a => gd_B (gd_zC lPo) fun b => gd_B gd_Anc fun c => gd_R (mkI id a (1 + b) c)) hk hb
  have s : wFea.size = 6 := rfl
  rw [s] at this
  exact Nat.lt_of_lt_of_le (by omega) this
/-! two texts -/
section
variable {S T : ByteArray} {k : Nat}
theorem sm_zN (A : Agr S T k) {e : ByteArray} (hw : Wds [e]) (h3 : No33 [e]) : SmB S T k (zN e) :=
  smB_Bw (smW_N A) (fun _ => smB_B (smB_W A hw.ok h3) (fun _ => smB_R _) (fun _ => gd_R _) A.hT (gd_W _)) (fun _ => kpB_B (kpB_W A hw.ok h3) fun _ => gd_R _) (fun _ => gd_B (gd_W _) fun _ => gd_R _) A.hT gd_N
theorem sm_zI (A : Agr S T k) : SmB S T k zI :=
  smB_Bw (smW_I A) (fun _ => smB_B (smB_W A wds_wSp.ok n33_wSp) (fun _ => smB_R _) (fun _ => gd_R _) A.hT (gd_W _)) (fun _ => kpB_B (kpB_W A wds_wSp.ok n33_wSp) fun _ => gd_R _) (fun _ => gd_B (gd_W _) fun _ => gd_R _) A.hT gd_I
theorem sm_zC (A : Agr S T k) {ws : List ByteArray} (hw : Wds ws) (h3 : No33 ws) : SmB S T k (zC ws) :=
  smB_B (smB_W A hw.ok h3) (fun _ => smB_B (smB_W A wds_wSp.ok n33_wSp) (fun _ => smB_R _) (fun _ => gd_R _) A.hT (gd_W _)) (fun _ => gd_B (gd_W _) fun _ => gd_R _) A.hT (gd_W _)
theorem sm_sp (A : Agr S T k) : SmB S T k (zN wSp) := sm_zN A wds_wSp n33_wSp
theorem sm_lf (A : Agr S T k) : SmB S T k (zN wLf) := sm_zN A wds_wLf n33_wLf
theorem sm_Anc (A : Agr S T k) : SmB S T k pAnc := by
  refine smB_B (sm_zC A wds_lAn n33_lAn) (fun i => ?_) gd_Anx A.hT (gd_zC _)
  unfold pAnx
  split
  · exact smB_B (sm_sp A) (fun _ => smB_B (sm_lf A) (fun _ => smB_R _) (fun _ => gd_R _) A.hT (gd_zN _)) (fun _ => gd_B (gd_zN _) fun _ => gd_R _) A.hT (gd_zN _)
  · split
    · exact smB_B (sm_lf A) (fun _ => smB_R _) (fun _ => gd_R _) A.hT (gd_zN _)
    · split
      · exact smB_B (sm_zC A wds_lWd n33_lWd) (fun _ => smB_B (sm_sp A) (fun _ => smB_B (sm_sp A) (fun _ => smB_B (sm_lf A) (fun _ => smB_R _) (fun _ => gd_R _) A.hT (gd_zN _)) (fun _ => gd_B (gd_zN _) fun _ => gd_R _) A.hT (gd_zN _)) (fun _ => gd_B (gd_zN _) fun _ => gd_B (gd_zN _) fun _ => gd_R _) A.hT (gd_zN _)) (fun _ => gd_B (gd_zN _) fun _ => gd_B (gd_zN _) fun _ => gd_B (gd_zN _) fun _ => gd_R _) A.hT (gd_zC _)
      · exact smB_R _
theorem sm_Sea (A : Agr S T k) : SmB S T k pSea :=
  smB_B (smB_W A wds_wSea.ok n33_wSea) (fun _ => smB_B (sm_zI A) (fun _ => smB_B (sm_sp A) (fun _ => smB_B (sm_sp A) (fun _ => smB_B (sm_Anc A) (fun _ => smB_R _) (fun _ => gd_R _) A.hT gd_Anc) (fun _ => gd_B gd_Anc fun _ => gd_R _) A.hT (gd_zN _)) (fun _ => gd_B (gd_zN _) fun _ => gd_B gd_Anc fun _ => gd_R _) A.hT (gd_zN _)) (fun _ => gd_B (gd_zN _) fun _ => gd_B (gd_zN _) fun _ => gd_B gd_Anc fun _ => gd_R _) A.hT gd_zI) (fun _ => gd_B gd_zI fun _ => gd_B (gd_zN _) fun _ => gd_B (gd_zN _) fun _ => gd_B gd_Anc fun _ => gd_R _) A.hT (gd_W _)
theorem sm_Fea (A : Agr S T k) : SmB S T k pFea :=
  smB_B (smB_W A wds_wFea.ok n33_wFea) (fun _ => smB_B (sm_zI A) (fun _ => smB_B (sm_sp A) (fun _ => smB_B (sm_zC A wds_lPo n33_lPo) (fun _ => smB_B (sm_Anc A) (fun _ => smB_R _) (fun _ => gd_R _) A.hT gd_Anc) (fun _ => gd_B gd_Anc fun _ => gd_R _) A.hT (gd_zC _)) (fun _ => gd_B (gd_zC _) fun _ => gd_B gd_Anc fun _ => gd_R _) A.hT (gd_zN _)) (fun _ => gd_B (gd_zN _) fun _ => gd_B (gd_zC _) fun _ => gd_B gd_Anc fun _ => gd_R _) A.hT gd_zI) (fun _ => gd_B gd_zI fun _ => gd_B (gd_zN _) fun _ => gd_B (gd_zC _) fun _ => gd_B gd_Anc fun _ => gd_R _) A.hT (gd_W _)
theorem kp_Many (A : Agr S T k) {c : Int} (hc : c ≠ 0) (h33 : c ≠ 33) {f : Prs Itm} : ∀ (n : Nat) (l : List Itm), KpW S k (pMany c f n l) := by
  intro n l x hx
  cases n with
  | zero => exact hx
  | succ n =>
    unfold pMany
    rw [if_neg (by rw [hx]; exact pk_dead A hc h33 x.b)]
    exact hx
theorem sm_Many (A : Agr S T k) {c : Int} (hc : c ≠ 0) (h33 : c ≠ 33) {f : Prs Itm} (hf : SmB S T k f) (G : Gk f) (ha : Adv f) : ∀ (n : Nat) (l : List Itm), SmW S T k (pMany c f n l) := by
  intro n
  induction n with
  | zero => intro l; exact (smB_R l).w
  | succ n ih =>
    intro l x hb hk hT
    have sT := A.hT
    by_cases hxk : x.k = k
    · have eS : pMany c f (n + 1) l S x = (l, x) := by
        unfold pMany
        rw [if_neg (by rw [hxk]; exact pk_dead A hc h33 x.b)]
      by_cases g : fpV x.b T x.k = c
      · have eT : pMany c f (n + 1) l T x = pMany c f n (l ++ [(f T x).1]) T (f T x).2 := by
          show (if fpV x.b T x.k = c then _ else _) = _
          rw [if_pos g]
        rw [eT] at hT ⊢
        have h1 := (gd_Many hc G n (l ++ [(f T x).1])).ok hT
        have h2 := ha T x (by omega) h1
        have h3 := (G.le T x (by omega)).2
        have h4 := ((gd_Many hc G n (l ++ [(f T x).1])).le T (f T x).2 h3).1
        right
        refine ⟨by omega, ?_⟩
        rw [eS]; exact hxk
      · have eT : pMany c f (n + 1) l T x = (l, x) := by
          show (if fpV x.b T x.k = c then _ else _) = _
          rw [if_neg g]
        left
        rw [eS, eT]
        exact ⟨hk, rfl⟩
    · have eg : fpV x.b S x.k = fpV x.b T x.k := by
        rw [hb]; exact pk_same A (by omega)
      by_cases g : fpV x.b T x.k = c
      · have eT : pMany c f (n + 1) l T x = pMany c f n (l ++ [(f T x).1]) T (f T x).2 := by
          show (if fpV x.b T x.k = c then _ else _) = _
          rw [if_pos g]
        have eS : pMany c f (n + 1) l S x = pMany c f n (l ++ [(f S x).1]) S (f S x).2 := by
          show (if fpV x.b S x.k = c then _ else _) = _
          rw [if_pos (eg.trans g)]
        rw [eT] at hT ⊢
        rw [eS]
        have h1 := (gd_Many hc G n (l ++ [(f T x).1])).ok hT
        rcases hf x hb hk h1 with ⟨a, e⟩ | ⟨a, e⟩
        · rw [e]
          exact ih (l ++ [(f T x).1]) (f T x).2 h1 a hT
        · right
          have h3 := (G.le T x (by omega)).2
          have h4 := ((gd_Many hc G n (l ++ [(f T x).1])).le T (f T x).2 h3).1
          refine ⟨by omega, ?_⟩
          rw [e, (gd_Many hc G n (l ++ [(f S x).1])).bad S ⟨k, true⟩ rfl]
      · left
        have eT : pMany c f (n + 1) l T x = (l, x) := by
          show (if fpV x.b T x.k = c then _ else _) = _
          rw [if_neg g]
        have eS : pMany c f (n + 1) l S x = (l, x) := by
          show (if fpV x.b S x.k = c then _ else _) = _
          rw [if_neg (by rw [eg]; exact g)]
        rw [eS, eT]
        exact ⟨hk, rfl⟩
/-- A text that agrees with one that is read to its end, and is dead at k: it has failed at k, or has been read alike. -/
theorem body_sm (A : Agr S T k) (N : Nat) : SmB S T k (pBody N) := by
  have kE : ∀ (v : List Itm → Cat), ∀ fs, KpB S k (yB (yW [wEnd]) fun _ => yR (v fs)) := fun v fs => kpB_B (kpB_W A wds_wEnd.ok n33_wEnd) fun _ => gd_R _
  have sE : ∀ (v : List Itm → Cat), ∀ fs, SmB S T k (yB (yW [wEnd]) fun _ => yR (v fs)) := fun v fs => smB_B (smB_W A wds_wEnd.ok n33_wEnd) (fun _ => smB_R _) (fun _ => gd_R _) A.hT (gd_W _)
  have gE : ∀ (v : List Itm → Cat), ∀ fs, Gk (yB (yW [wEnd]) fun _ => yR (v fs)) := fun v fs => gd_B (gd_W _) fun _ => gd_R _
  have gS := gd_Many (c := 115) (by decide) gd_Sea N []
  have gF := gd_Many (c := 102) (by decide) gd_Fea N []
  have sS := sm_Many A (c := 115) (by decide) (by decide) (sm_Sea A) gd_Sea adv_Sea N []
  have sF := sm_Many A (c := 102) (by decide) (by decide) (sm_Fea A) gd_Fea adv_Fea N []
  have kF := kp_Many A (c := 102) (by decide) (by decide) (f := pFea) N []
  have sFE : ∀ (v : List Itm → Cat), SmB S T k (yB (pMany 102 pFea N []) fun fs => yB (yW [wEnd]) fun _ => yR (v fs)) := fun v => smB_Bw sF (sE v) (kE v) (gE v) A.hT gF
  have kFE : ∀ (v : List Itm → Cat), KpB S k (yB (pMany 102 pFea N []) fun fs => yB (yW [wEnd]) fun _ => yR (v fs)) := fun v => kpB_Bw kF (kE v)
  have gFE : ∀ (v : List Itm → Cat), Gk (yB (pMany 102 pFea N []) fun fs => yB (yW [wEnd]) fun _ => yR (v fs)) := fun v => gd_B gF (gE v)
  have sSF : ∀ free : Int, SmB S T k (yB (pMany 115 pSea N []) fun ss => yB (pMany 102 pFea N []) fun fs => yB (yW [wEnd]) fun _ => yR (⟨free, ss, fs⟩ : Cat)) := fun free => smB_Bw sS (fun ss => sFE fun fs => ⟨free, ss, fs⟩) (fun ss => kFE fun fs => ⟨free, ss, fs⟩) (fun ss => gFE fun fs => ⟨free, ss, fs⟩) A.hT gS
  have gSF : ∀ free : Int, Gk (yB (pMany 115 pSea N []) fun ss => yB (pMany 102 pFea N []) fun fs => yB (yW [wEnd]) fun _ => yR (⟨free, ss, fs⟩ : Cat)) := fun free => gd_B gS fun ss => gFE fun fs => ⟨free, ss, fs⟩
  exact smB_B (smB_W A wds_wCat.ok n33_wCat) (fun _ => smB_B (smB_W A wds_wFre.ok n33_wFre) (fun _ => smB_B (sm_lf A) sSF gSF A.hT (gd_zN _)) (fun _ => gd_B (gd_zN _) gSF) A.hT (gd_W _)) (fun _ => gd_B (gd_W _) fun _ => gd_B (gd_zN _) gSF) A.hT (gd_W _)
end
end Go.Proofs.YthmfhgehahpgbaaGreatDoor
