/- The reference of package cattext: reading, with what it answers; the state of its loop. -/
import Derived.Test.YthmfhgehahpgbaaGreatDoorYm
namespace Go.Proofs.YthmfhgehahpgbaaGreatDoor
open Go.RowKit

def rNu : Prs Int := yB (yW [wSp]) fun _ => yNu
def rCh (ws : List ByteArray) : Prs Int := yB (yW [wSp]) fun _ => yW ws
def rId : Prs ByteArray := yB (yW [wSp]) fun _ => yI
def rIf {α : Type} (c : Prop) [Decidable c] (f : Prs α) (a : α) : Prs α := if c then f else yR a
def rAn : Prs Anc := yB (rCh lAn) fun i => yB (rIf (i = 1) rNu 0) fun o => yB (rIf (i = 2) (rCh lWd) 0) fun w => yB (rIf (i = 2) rNu 0) fun c => yB (rIf (¬ i = 1) rNu 0) fun m => yB (rIf (¬ i = 1) rNu 0) fun d => yB (yW [wLf]) fun _ => yR ⟨i + 1, m, d, o, w, c⟩
def rSea : Prs Itm := yB rId fun id => yB rNu fun x => yB rNu fun y => yB rAn fun a => yR (mkI id x y a)
def rFea : Prs Itm := yB rId fun id => yB rNu fun x => yB (rCh lPo) fun y => yB rAn fun a => yR (mkI id x (y + 1) a)
theorem gd_rNu : Gk rNu := gd_B (gd_W _) fun _ => gd_N
theorem gd_rCh (ws : List ByteArray) : Gk (rCh ws) := gd_B (gd_W _) fun _ => gd_W _
theorem gd_rId : Gk rId := gd_B (gd_W _) fun _ => gd_I
theorem gd_rIf {α : Type} {c : Prop} [Decidable c] {f : Prs α} {a : α} (h : Gk f) : Gk (rIf c f a) := by
  unfold rIf
  split
  · exact h
  · exact gd_R a
theorem gd_rAn : Gk rAn := gd_B (gd_rCh _) fun _ => gd_B (gd_rIf gd_rNu) fun _ => gd_B (gd_rIf (gd_rCh _)) fun _ => gd_B (gd_rIf gd_rNu) fun _ => gd_B (gd_rIf gd_rNu) fun _ => gd_B (gd_rIf gd_rNu) fun _ => gd_B (gd_W _) fun _ => gd_R _
theorem gd_rSea : Gk rSea := gd_B gd_rId fun _ => gd_B gd_rNu fun _ => gd_B gd_rNu fun _ => gd_B gd_rAn fun _ => gd_R _
theorem gd_rFea : Gk rFea := gd_B gd_rId fun _ => gd_B gd_rNu fun _ => gd_B (gd_rCh _) fun _ => gd_B gd_rAn fun _ => gd_R _
abbrev svX (S : ByteArray) (x : Sc) : Value := sv S x.k x.b
section
variable {S : ByteArray} {x : Sc}
theorem rw_sc {g cap : Nat} {ws : List ByteArray} {w : World} (hk : x.k ≤ S.size) (hs : S.size ≤ 100000) (hW : StrsIn g cap ws w) (hw : Wds ws) :
    Calls Tryz.prog 20 #[svX S x, .slice (some ⟨g, 0, none⟩) ws.length cap] w fun e w' => e = .returned (.tuple #[svX S (yW ws S x).2, .int .i64 (yW ws S x).1]) ∧ Below w.heap.size w w' := rw_all S x.k x.b w hk (lt_big hs) hW hw
theorem rw_one {e : ByteArray} (u : World) (hk : x.k ≤ S.size) (hs : S.size ≤ 100000) (hw : Wds [e]) :
    Calls Tryz.prog 20 #[svX S x, .slice (some ⟨u.heap.size, 0, none⟩) 1 1] (u.alloc (.cells #[.string e] 9)) fun r w' => r = .returned (.tuple #[svX S (yW [e] S x).2, .int .i64 (yW [e] S x).1]) ∧ Below u.heap.size u w' :=
  (rw_sc hk hs (lit1 e _) hw).mono fun _ _ ⟨h1, h2⟩ => ⟨h1, (al1 u _).trans (h2.mono (by simp))⟩
theorem r26num (hk : x.k ≤ S.size) (hs : S.size ≤ 100000) (w : World) :
    Calls Tryz.prog 21 #[svX S x] w fun r w' => r = .returned (.tuple #[svX S (rNu S x).2, .int .i64 (rNu S x).1]) ∧ Below w.heap.size w w' :=
  r26num_go (j := (yW [wSp] S x).1) (fun u => rw_one u hk hs wds_wSp) (fun u => rn_all S _ _ u (lt_big hs))
theorem r26ide (hk : x.k ≤ S.size) (hs : S.size ≤ 100000) (w : World) :
    Calls Tryz.prog 23 #[svX S x] w fun r w' => r = .returned (.tuple #[svX S (rId S x).2, .string (rId S x).1]) ∧ Below w.heap.size w w' :=
  r26ide_go (j := (yW [wSp] S x).1) (fun u => rw_one u hk hs wds_wSp) (fun u => ri_all S _ _ u (lt_big hs))
theorem r26cho {g cap : Nat} {ws : List ByteArray} {w : World} (hk : x.k ≤ S.size) (hs : S.size ≤ 100000) (hW : StrsIn g cap ws w) (hw : Wds ws) :
    Calls Tryz.prog 24 #[svX S x, .slice (some ⟨g, 0, none⟩) ws.length cap] w fun r w' => r = .returned (.tuple #[svX S (rCh ws S x).2, .int .i64 (rCh ws S x).1]) ∧ Below w.heap.size w w' :=
  r26cho_go (j := (yW [wSp] S x).1) (fun u => rw_one u hk hs wds_wSp) (fun _ hb => rw_sc ((gd_W [wSp]).le S x hk).2 hs (hW.on hb) hw)
theorem r26cho3 {a b c : ByteArray} (u : World) (hk : x.k ≤ S.size) (hs : S.size ≤ 100000) (hw : Wds [a, b, c]) :
    Calls Tryz.prog 24 #[svX S x, .slice (some ⟨u.heap.size, 0, none⟩) 3 3] (u.alloc (.cells #[.string a, .string b, .string c] 9)) fun r w' => r = .returned (.tuple #[svX S (rCh [a, b, c] S x).2, .int .i64 (rCh [a, b, c] S x).1]) ∧ Below u.heap.size u w' :=
  (r26cho hk hs (lit3 a b c _) hw).mono fun _ _ ⟨h1, h2⟩ => ⟨h1, (al1 u _).trans (h2.mono (by simp))⟩
theorem rCh_cases (ws : List ByteArray) : (rCh ws S x).1 = -1 ∨ (0 ≤ (rCh ws S x).1 ∧ (rCh ws S x).1 < ws.length) := zC_cases (S := S) (x := (yW [wSp] S x).2) ws
theorem r26anc (hk : x.k ≤ S.size) (hs : S.size ≤ 100000) (w : World) :
    Calls Tryz.prog 25 #[svX S x] w fun r w' => r = .returned (.tuple #[svX S (rAn S x).2, anc26 (rAn S x).1]) ∧ Below w.heap.size w w' := by
  have k1 := ((gd_rCh lAn).le S x hk).2
  have hc : (rCh lAn S x).1 = 0 ∨ (rCh lAn S x).1 = 1 ∨ (rCh lAn S x).1 = 2 ∨ (rCh lAn S x).1 = -1 := by
    rcases rCh_cases (S := S) (x := x) lAn with e | ⟨e1, e2⟩
    · exact .inr (.inr (.inr e))
    · have e2 : (rCh lAn S x).1 < 3 := e2
      omega
  have H : ∀ u : World, _ := fun u => r26cho3 (a := wFix) (b := wEas) (c := wNth) (S := S) (x := x) u hk hs wds_lAn
  rcases hc with e | e | e | e
  · have k2 := (gd_rNu.le S _ k1).2
    have k3 := (gd_rNu.le S _ k2).2
    have ep : rAn S x = (⟨0 + 1, (rNu S (rCh lAn S x).2).1, (rNu S (rNu S (rCh lAn S x).2).2).1, 0, 0, 0⟩, (yW [wLf] S (rNu S (rNu S (rCh lAn S x).2).2).2).2) := by
      unfold rAn yB rIf; simp only [e]; rfl
    rw [ep]
    have H' : ∀ u : World, _ := fun u => by have h := H u; rw [show rCh [wFix, wEas, wNth] S x = rCh lAn S x from rfl, e] at h; exact h
    exact r26anc_go0 (j := (yW [wLf] S (rNu S (rNu S (rCh lAn S x).2).2).2).1) H' (fun u => r26num k1 hs u) (fun u => r26num k2 hs u) (fun u => rw_one u k3 hs wds_wLf)
  · have k2 := (gd_rNu.le S _ k1).2
    have ep : rAn S x = (⟨1 + 1, 0, 0, (rNu S (rCh lAn S x).2).1, 0, 0⟩, (yW [wLf] S (rNu S (rCh lAn S x).2).2).2) := by
      unfold rAn yB rIf; simp only [e]; rfl
    rw [ep]
    have H' : ∀ u : World, _ := fun u => by have h := H u; rw [show rCh [wFix, wEas, wNth] S x = rCh lAn S x from rfl, e] at h; exact h
    exact r26anc_go1 (j := (yW [wLf] S (rNu S (rCh lAn S x).2).2).1) H' (fun u => r26num k1 hs u) (fun u => rw_one u k2 hs wds_wLf)
  · have k2 := ((gd_rCh lWd).le S _ k1).2
    have k3 := (gd_rNu.le S _ k2).2
    have k4 := (gd_rNu.le S _ k3).2
    have k5 := (gd_rNu.le S _ k4).2
    have ep : rAn S x = (⟨2 + 1, (rNu S (rNu S (rCh lWd S (rCh lAn S x).2).2).2).1, (rNu S (rNu S (rNu S (rCh lWd S (rCh lAn S x).2).2).2).2).1, 0, (rCh lWd S (rCh lAn S x).2).1, (rNu S (rCh lWd S (rCh lAn S x).2).2).1⟩, (yW [wLf] S (rNu S (rNu S (rNu S (rCh lWd S (rCh lAn S x).2).2).2).2).2).2) := by
      unfold rAn yB rIf; simp only [e]; rfl
    rw [ep]
    have H' : ∀ u : World, _ := fun u => by have h := H u; rw [show rCh [wFix, wEas, wNth] S x = rCh lAn S x from rfl, e] at h; exact h
    exact r26anc_go2 (j := (yW [wLf] S (rNu S (rNu S (rNu S (rCh lWd S (rCh lAn S x).2).2).2).2).2).1) H' (fun u => r26wwd u) (fun _ _ _ hI => r26cho k1 hs hI wds_lWd) (fun u => r26num k2 hs u) (fun u => r26num k3 hs u) (fun u => r26num k4 hs u) (fun u => rw_one u k5 hs wds_wLf)
  · have k2 := (gd_rNu.le S _ k1).2
    have k3 := (gd_rNu.le S _ k2).2
    have ep : rAn S x = (⟨-1 + 1, (rNu S (rCh lAn S x).2).1, (rNu S (rNu S (rCh lAn S x).2).2).1, 0, 0, 0⟩, (yW [wLf] S (rNu S (rNu S (rCh lAn S x).2).2).2).2) := by
      unfold rAn yB rIf; simp only [e]; rfl
    rw [ep]
    have H' : ∀ u : World, _ := fun u => by have h := H u; rw [show rCh [wFix, wEas, wNth] S x = rCh lAn S x from rfl, e] at h; exact h
    exact r26anc_gon (j := (yW [wLf] S (rNu S (rNu S (rCh lAn S x).2).2).2).1) H' (fun u => r26num k1 hs u) (fun u => r26num k2 hs u) (fun u => rw_one u k3 hs wds_wLf)
end
/-! the loop of Parse -/
def lT : List ByteArray := [wEnd, wFe5, wSe5]
def lF : List ByteArray := [wEnd, wFe5]
theorem wds_lT : Wds lT := wds_of (by kernel_rfl) (by kernel_rfl) (by kernel_rfl) (by kernel_rfl)
theorem wds_lF : Wds lF := wds_of (by kernel_rfl) (by kernel_rfl) (by kernel_rfl) (by kernel_rfl)
def lBt (t : Bool) : List ByteArray := if t then lT else lF
theorem wds_lB (t : Bool) : Wds (lBt t) := by cases t; exact wds_lF; exact wds_lT
def rGo : Nat → Bool → List Itm → List Itm → Prs (List Itm × List Itm)
  | 0, _, ss, fs => yR (ss, fs)
  | n + 1, t, ss, fs => fun S x => if x.b then ((ss, fs), x) else
      if (yW (lBt t) S x).1 = 0 then ((ss, fs), (zE S (yW (lBt t) S x).2).2) else
      if (yW (lBt t) S x).1 = 1 then rGo n false ss (fs ++ [(rFea S (yW (lBt t) S x).2).1]) S (rFea S (yW (lBt t) S x).2).2 else
      if (yW (lBt t) S x).1 = 2 then rGo n t (ss ++ [(rSea S (yW (lBt t) S x).2).1]) fs S (rSea S (yW (lBt t) S x).2).2 else
      rGo n t ss fs S (yW (lBt t) S x).2
def rBody (N : Nat) (S : ByteArray) : Cat × Sc :=
  let y1 := (yW [wCaf] S ⟨0, false⟩).2
  let r2 := rNu S y1
  let y3 := (yW [wLf] S r2.2).2
  let r := rGo N true [] [] S y3
  (⟨r2.1, r.1.1, r.1.2⟩, r.2)
structure CR (S : ByteArray) (R C X : Nat) (W : World) (free : Int) (vS vF : Value) (ls lf : List Itm) (y : Sc) (u : World) : Prop where
  r : u.heap[R]? = some (.cells #[.int .i64 0, .slice none 0 0, .slice none 0 0] 26 (0, 0))
  c : u.heap[C]? = some (.cells #[.int .i64 free, vS, vF] 26 (0, 0))
  x : u.heap[X]? = some (.cells #[.string S, .int .i64 y.k, .bool y.b] 52 (0, 0))
  bl : Below W.heap.size W u
  z : X + 1 ≤ u.heap.size
  os : ItsAt 41 (X + 1) vS ls u
  of : ItsAt 43 (X + 1) vF lf u
section
variable {S : ByteArray} {R C X : Nat} {W : World} {free : Int} {vS vF : Value} {ls lf : List Itm} {y : Sc} {u u' : World}
theorem CR.below (h : CR S R C X W free vS vF ls lf y u) (hb : Below u.heap.size u u') : CR S R C X W free vS vF ls lf y u' :=
  ⟨row_kept h.r hb, row_kept h.c hb, row_kept h.x hb, below_on h.bl hb, Nat.le_trans h.z hb.size, h.os.on hb, h.of.on hb⟩
theorem CR.to (h : CR S R C X W free vS vF ls lf y u) (lw : W.heap.size = R) (lr : R < C) (lc : C < X) {y' : Sc} (hs : u'.heap[X]? = some (.cells #[.string S, .int .i64 y'.k, .bool y'.b] 52 (0, 0))) (hb : Bt X u u') : CR S R C X W free vS vF ls lf y' u' :=
  ⟨hb.row (by omega) h.r, hb.row (by omega) h.c, hs, h.bl.trans (hb.below (by omega) h.bl.size), Nat.le_trans h.z hb.size, h.os.bt hb (by omega), h.of.bt hb (by omega)⟩
end
theorem CR.adds {S : ByteArray} {R C X : Nat} {W : World} {free : Int} {vS vF vN : Value} {ls lf : List Itm} {t : Itm} {y : Sc} {u wz : World} (h : CR S R C X W free vS vF ls lf y u) (lw : W.heap.size = R) (lr : R < C) (lc : C < X)
    (hown : wz.ownsRow (X + 1) 41 9 vN (ls.length + 1) (flat9 ls ++ flat9 [t])) (hg : u.grownBy wz vS.ownBlock) :
    CR S R C X W free vN vF (ls ++ [t]) lf y (wz.setCell ⟨C, 1, none⟩ vN) ∧ wz.heap[C]? = some (.cells #[.int .i64 free, vS, vF] 26 (0, 0)) := by
  have far : ∀ j, j < X + 1 → some j ≠ vS.ownBlock := fun j hj e => absurd (World.ownsRow.lt h.os j e.symm).1 (by omega)
  have kp : ∀ (c : Nat) (o : Obj), c < X + 1 → u.heap[c]? = some o → wz.heap[c]? = some o := fun c o hc hr => by
    rw [hg.block c (row_lt hr) (far c hc)]; exact hr
  have zq := kp C _ (by omega) h.c
  have g0 := Bt.set C wz 1 vN
  have hbz : Below W.heap.size W wz := h.bl.grown hg h.bl.size (fun k e => Nat.le_trans (by omega) (World.ownsRow.lt h.os k e).1)
  refine ⟨⟨g0.row (by omega) (kp R _ (by omega) h.r), heap_setCell_same wz C 1 _ _ vN zq, g0.row (by omega) (kp X _ (by omega) h.x), hbz.trans (g0.below (by omega) hbz.size), Nat.le_trans (Nat.le_trans h.z hg.size) g0.size, ?_, ?_⟩, zq⟩
  · exact (ItsAt.app (xs := ls) (ys := [t]) hown).put (p := ⟨C, 1, none⟩) (show C < X + 1 by omega) vN
  · exact (ItsAt.oth h.of h.os hg (by decide)).put (p := ⟨C, 1, none⟩) (show C < X + 1 by omega) vN
theorem CR.addf {S : ByteArray} {R C X : Nat} {W : World} {free : Int} {vS vF vN : Value} {ls lf : List Itm} {t : Itm} {y : Sc} {u wz : World} (h : CR S R C X W free vS vF ls lf y u) (lw : W.heap.size = R) (lr : R < C) (lc : C < X)
    (hown : wz.ownsRow (X + 1) 43 9 vN (lf.length + 1) (flat9 lf ++ flat9 [t])) (hg : u.grownBy wz vF.ownBlock) :
    CR S R C X W free vS vN ls (lf ++ [t]) y (wz.setCell ⟨C, 2, none⟩ vN) ∧ wz.heap[C]? = some (.cells #[.int .i64 free, vS, vF] 26 (0, 0)) := by
  have far : ∀ j, j < X + 1 → some j ≠ vF.ownBlock := fun j hj e => absurd (World.ownsRow.lt h.of j e.symm).1 (by omega)
  have kp : ∀ (c : Nat) (o : Obj), c < X + 1 → u.heap[c]? = some o → wz.heap[c]? = some o := fun c o hc hr => by
    rw [hg.block c (row_lt hr) (far c hc)]; exact hr
  have zq := kp C _ (by omega) h.c
  have g0 := Bt.set C wz 2 vN
  have hbz : Below W.heap.size W wz := h.bl.grown hg h.bl.size (fun k e => Nat.le_trans (by omega) (World.ownsRow.lt h.of k e).1)
  refine ⟨⟨g0.row (by omega) (kp R _ (by omega) h.r), heap_setCell_same wz C 2 _ _ vN zq, g0.row (by omega) (kp X _ (by omega) h.x), hbz.trans (g0.below (by omega) hbz.size), Nat.le_trans (Nat.le_trans h.z hg.size) g0.size, ?_, ?_⟩, zq⟩
  · exact (ItsAt.oth h.os h.of hg (by decide)).put (p := ⟨C, 2, none⟩) (show C < X + 1 by omega) vN
  · exact (ItsAt.app (xs := lf) (ys := [t]) hown).put (p := ⟨C, 2, none⟩) (show C < X + 1 by omega) vN
end Go.Proofs.YthmfhgehahpgbaaGreatDoor
