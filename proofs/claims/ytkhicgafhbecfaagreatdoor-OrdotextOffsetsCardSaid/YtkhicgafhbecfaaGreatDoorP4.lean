/- What earlier stages proved: Yn Yo. -/
import Derived.Test.YtkhicgafhbecfaaGreatDoorP3
namespace Go.Proofs.YtkhicgafhbecfaaGreatDoor
open Go.RowKit

def rNu : Prs Int := yB (yW [wSp]) fun _ => yNu
def rCh (ws : List ByteArray) : Prs Int := yB (yW [wSp]) fun _ => yW ws
def rId : Prs ByteArray := yB (yW [wSp]) fun _ => yI
def rIf {α : Type} (c : Prop) [Decidable c] (f : Prs α) (a : α) : Prs α := if c then f else yR a
def rAn : Prs Anc := yB (rCh lAn) fun i => yB (rIf (i = 1) rNu 0) fun o => yB (rIf (i = 2) (rCh lWd) 0) fun w => yB (rIf (i = 2) rNu 0) fun c => yB (rIf (¬ i = 1) rNu 0) fun m => yB (rIf (¬ i = 1) rNu 0) fun d => yB (yW [wLf]) fun _ => yR ⟨i + 1, m, d, o, w, c⟩
def rSea : Prs Itm := yB rId fun id => yB rNu fun x => yB rNu fun y => yB rAn fun a => yR (mkI id x y a)
def rFea : Prs Itm := yB rId fun id => yB rNu fun x => yB (rCh lPo) fun y => yB rAn fun a => yR (mkI id x (y + 1) a)
theorem gd_rNu : Gk rNu := gd_B (gd_W _) fun _ => gd_N
theorem gd_rCh (ws : List ByteArray) : Gk (rCh ws) := gd_B (gd_W _) fun _ => gd_W _
theorem gd_rId : Gk rId := gd_B (gd_W _) fun _ => gd_I
theorem gd_rIf {α : Type} {c : Prop} [Decidable c] {f : Prs α} {a : α} (h : Gk f) : Gk (rIf c f a) := by
  unfold rIf
  split
  · exact h
  · exact gd_R a
theorem gd_rAn : Gk rAn := gd_B (gd_rCh _) fun _ => gd_B (gd_rIf gd_rNu) fun _ => gd_B (gd_rIf (gd_rCh _)) fun _ => gd_B (gd_rIf gd_rNu) fun _ => gd_B (gd_rIf gd_rNu) fun _ => gd_B (gd_rIf gd_rNu) fun _ => gd_B (gd_W _) fun _ => gd_R _
theorem gd_rSea : Gk rSea := gd_B gd_rId fun _ => gd_B gd_rNu fun _ => gd_B gd_rNu fun _ => gd_B gd_rAn fun _ => gd_R _
theorem gd_rFea : Gk rFea := gd_B gd_rId fun _ => gd_B gd_rNu fun _ => gd_B (gd_rCh _) fun _ => gd_B gd_rAn fun _ => gd_R _
abbrev svX (S : ByteArray) (x : Sc) : Value := sv S x.k x.b
section
variable {S : ByteArray} {x : Sc}
theorem rw_sc {g cap : Nat} {ws : List ByteArray} {w : World} (hk : x.k ≤ S.size) (hs : S.size ≤ 100000) (hW : StrsIn g cap ws w) (hw : Wds ws) :
    Calls Tryz.prog 23 #[svX S x, .slice (some ⟨g, 0, none⟩) ws.length cap] w fun e w' => e = .returned (.tuple #[svX S (yW ws S x).2, .int .i64 (yW ws S x).1]) ∧ Below w.heap.size w w' := rw_all S x.k x.b w hk (lt_big hs) hW hw
theorem rw_one {e : ByteArray} (u : World) (hk : x.k ≤ S.size) (hs : S.size ≤ 100000) (hw : Wds [e]) :
    Calls Tryz.prog 23 #[svX S x, .slice (some ⟨u.heap.size, 0, none⟩) 1 1] (u.alloc (.cells #[.string e] 9)) fun r w' => r = .returned (.tuple #[svX S (yW [e] S x).2, .int .i64 (yW [e] S x).1]) ∧ Below u.heap.size u w' :=
  (rw_sc hk hs (lit1 e _) hw).mono fun _ _ ⟨h1, h2⟩ => ⟨h1, (al1 u _).trans (h2.mono (by simp))⟩
theorem r26num (hk : x.k ≤ S.size) (hs : S.size ≤ 100000) (w : World) :
    Calls Tryz.prog 24 #[svX S x] w fun r w' => r = .returned (.tuple #[svX S (rNu S x).2, .int .i64 (rNu S x).1]) ∧ Below w.heap.size w w' :=
  r26num_go (j := (yW [wSp] S x).1) (fun u => rw_one u hk hs wds_wSp) (fun u => rn_all S _ _ u (lt_big hs))
theorem r26ide (hk : x.k ≤ S.size) (hs : S.size ≤ 100000) (w : World) :
    Calls Tryz.prog 58 #[svX S x] w fun r w' => r = .returned (.tuple #[svX S (rId S x).2, .string (rId S x).1]) ∧ Below w.heap.size w w' :=
  r26ide_go (j := (yW [wSp] S x).1) (fun u => rw_one u hk hs wds_wSp) (fun u => ri_all S _ _ u (lt_big hs))
theorem r26cho {g cap : Nat} {ws : List ByteArray} {w : World} (hk : x.k ≤ S.size) (hs : S.size ≤ 100000) (hW : StrsIn g cap ws w) (hw : Wds ws) :
    Calls Tryz.prog 56 #[svX S x, .slice (some ⟨g, 0, none⟩) ws.length cap] w fun r w' => r = .returned (.tuple #[svX S (rCh ws S x).2, .int .i64 (rCh ws S x).1]) ∧ Below w.heap.size w w' :=
  r26cho_go (j := (yW [wSp] S x).1) (fun u => rw_one u hk hs wds_wSp) (fun _ hb => rw_sc ((gd_W [wSp]).le S x hk).2 hs (hW.on hb) hw)
theorem r26cho3 {a b c : ByteArray} (u : World) (hk : x.k ≤ S.size) (hs : S.size ≤ 100000) (hw : Wds [a, b, c]) :
    Calls Tryz.prog 56 #[svX S x, .slice (some ⟨u.heap.size, 0, none⟩) 3 3] (u.alloc (.cells #[.string a, .string b, .string c] 9)) fun r w' => r = .returned (.tuple #[svX S (rCh [a, b, c] S x).2, .int .i64 (rCh [a, b, c] S x).1]) ∧ Below u.heap.size u w' :=
  (r26cho hk hs (lit3 a b c _) hw).mono fun _ _ ⟨h1, h2⟩ => ⟨h1, (al1 u _).trans (h2.mono (by simp))⟩
theorem rCh_cases (ws : List ByteArray) : (rCh ws S x).1 = -1 ∨ (0 ≤ (rCh ws S x).1 ∧ (rCh ws S x).1 < ws.length) := zC_cases (S := S) (x := (yW [wSp] S x).2) ws
end
def lT : List ByteArray := [wEnd, wFe5, wSe5]
def lF : List ByteArray := [wEnd, wFe5]
theorem wds_lT : Wds lT := wds_of (by kernel_rfl) (by kernel_rfl) (by kernel_rfl) (by kernel_rfl)
theorem wds_lF : Wds lF := wds_of (by kernel_rfl) (by kernel_rfl) (by kernel_rfl) (by kernel_rfl)
def lBt (t : Bool) : List ByteArray := if t then lT else lF
theorem wds_lB (t : Bool) : Wds (lBt t) := by cases t; exact wds_lF; exact wds_lT
def rGo : Nat → Bool → List Itm → List Itm → Prs (List Itm × List Itm)
  | 0, _, ss, fs => yR (ss, fs)
  | n + 1, t, ss, fs => fun S x => if x.b then ((ss, fs), x) else
      if (yW (lBt t) S x).1 = 0 then ((ss, fs), (zE S (yW (lBt t) S x).2).2) else
      if (yW (lBt t) S x).1 = 1 then rGo n false ss (fs ++ [(rFea S (yW (lBt t) S x).2).1]) S (rFea S (yW (lBt t) S x).2).2 else
      if (yW (lBt t) S x).1 = 2 then rGo n t (ss ++ [(rSea S (yW (lBt t) S x).2).1]) fs S (rSea S (yW (lBt t) S x).2).2 else
      rGo n t ss fs S (yW (lBt t) S x).2
def rBody (N : Nat) (S : ByteArray) : Cat × Sc :=
  let y1 := (yW [wCaf] S ⟨0, false⟩).2
  let r2 := rNu S y1
  let y3 := (yW [wLf] S r2.2).2
  let r := rGo N true [] [] S y3
  (⟨r2.1, r.1.1, r.1.2⟩, r.2)
section
variable {S : ByteArray} {R C X : Nat} {W : World} {free : Int} {vS vF : Value} {ls lf : List Itm} {y : Sc} {u u' : World}
end
end Go.Proofs.YtkhicgafhbecfaaGreatDoor

namespace Go.Proofs.YtkhicgafhbecfaaGreatDoor
open Go.RowKit

theorem msW_st {S : ByteArray} {b k : Nat} {bb : Bool} {w : World} (h : w.heap[b]? = some (.cells #[.string S, .int .i64 k, .bool bb] 52 (0, 0))) : msW S b w = msr S ⟨k, bb⟩ := by
  have c1 : w.cell? ⟨b, 1, none⟩ = some (.int .i64 k) := by rw [cell_of_row _ b 1 _ _ _ h]; rfl
  have c2 : w.cell? ⟨b, 2, none⟩ = some (.bool bb) := by rw [cell_of_row _ b 2 _ _ _ h]; rfl
  unfold msW msr
  rw [c1, c2]
  cases bb <;> rfl
theorem msr_lt {S : ByteArray} {k k' : Nat} {b' : Bool} (h1 : k ≤ k') (h2 : k' ≤ S.size) (h : b' = true ∨ k < k') : msr S ⟨k', b'⟩ < msr S ⟨k, false⟩ := by
  unfold msr
  rcases h with rfl | h
  · show S.size - k' + 0 < S.size - k + 1
    omega
  · have : (if (Sc.mk k' b').b = true then 0 else 1) ≤ 1 := by split <;> omega
    show S.size - k' + (if (Sc.mk k' b').b = true then 0 else 1) < S.size - k + 1
    omega
theorem yW_hit {S : ByteArray} {ws : List ByteArray} (hw : Wok ws) {k k1 : Nat} {b1 : Bool} {i : Int} (h : yW ws S ⟨k, false⟩ = (i, ⟨k1, b1⟩)) (hi : 0 ≤ i) : b1 = false ∧ k < k1 := by
  have e : (wdI S k ws, (⟨wdK S k ws, false || wdB S k ws⟩ : Sc)) = (i, ⟨k1, b1⟩) := h
  unfold wdI wdK wdB at e
  cases q : wdF S k ws with
  | none =>
    rw [q] at e
    injection e with e _
    have e : (-1 : Int) = i := e
    omega
  | some n =>
    rw [q] at e
    injection e with _ e
    injection e with e1 e2
    have := hw.1 n (wdF_some q).1
    have e1 : k + (ws.getD n ByteArray.empty).size = k1 := e1
    exact ⟨e2.symm, by omega⟩
theorem yW_miss {S : ByteArray} {ws : List ByteArray} {k k1 : Nat} {b1 : Bool} (h : yW ws S ⟨k, false⟩ = (-1, ⟨k1, b1⟩)) : b1 = true ∧ k ≤ k1 := by
  have e : (wdI S k ws, (⟨wdK S k ws, false || wdB S k ws⟩ : Sc)) = (-1, ⟨k1, b1⟩) := h
  unfold wdI wdK wdB at e
  cases q : wdF S k ws with
  | none =>
    rw [q] at e
    injection e with _ e
    injection e with e1 e2
    have e1 : k + mxW S k ws = k1 := e1
    exact ⟨e2.symm, by omega⟩
  | some n =>
    rw [q] at e
    injection e with e _
    have e : (n : Int) = -1 := e
    omega
theorem rGo_go {S : ByteArray} {n k k1 : Nat} {t b1 : Bool} {ls lf : List Itm} {i : Int} (e : yW (lBt t) S ⟨k, false⟩ = (i, ⟨k1, b1⟩)) :
    rGo (n + 1) t ls lf S ⟨k, false⟩ = (if i = 0 then ((ls, lf), (zE S ⟨k1, b1⟩).2) else if i = 1 then rGo n false ls (lf ++ [(rFea S ⟨k1, b1⟩).1]) S (rFea S ⟨k1, b1⟩).2 else if i = 2 then rGo n t (ls ++ [(rSea S ⟨k1, b1⟩).1]) lf S (rSea S ⟨k1, b1⟩).2 else rGo n t ls lf S ⟨k1, b1⟩) := by
  have h : rGo (n + 1) t ls lf S ⟨k, false⟩ = (if (yW (lBt t) S ⟨k, false⟩).1 = 0 then ((ls, lf), (zE S (yW (lBt t) S ⟨k, false⟩).2).2) else if (yW (lBt t) S ⟨k, false⟩).1 = 1 then rGo n false ls (lf ++ [(rFea S (yW (lBt t) S ⟨k, false⟩).2).1]) S (rFea S (yW (lBt t) S ⟨k, false⟩).2).2 else if (yW (lBt t) S ⟨k, false⟩).1 = 2 then rGo n t (ls ++ [(rSea S (yW (lBt t) S ⟨k, false⟩).2).1]) lf S (rSea S (yW (lBt t) S ⟨k, false⟩).2).2 else rGo n t ls lf S (yW (lBt t) S ⟨k, false⟩).2) := rfl
  rw [h, e]
theorem yW_range {S : ByteArray} {ws : List ByteArray} {k : Nat} {p : Int × Sc} (h : yW ws S ⟨k, false⟩ = p) : p.1 = -1 ∨ (0 ≤ p.1 ∧ p.1 < ws.length) := by
  subst h
  show wdI S k ws = -1 ∨ (0 ≤ wdI S k ws ∧ wdI S k ws < ws.length)
  unfold wdI
  cases e : wdF S k ws with
  | none => exact .inl rfl
  | some i => exact .inr ⟨by show (0 : Int) ≤ i; omega, by have := (wdF_some e).1; show (i : Int) < ws.length; omega⟩
def lRow (t : Bool) : Obj := if t then .cells #[.string wEnd, .string wFe5, .string wSe5] 9 else .cells #[.string wEnd, .string wFe5] 9
theorem lrow_in {u : World} {g : Nat} {t : Bool} (h : u.heap[g]? = some (lRow t)) : StrsIn g (lBt t).length (lBt t) u := by
  have hl := row_lt h
  cases t
  · refine ⟨hl, Nat.le_refl _, by decide, fun i hi => ?_⟩
    have hi : i < 2 := hi
    have h : u.heap[g]? = some (.cells #[.string wEnd, .string wFe5] 9 (0, 0)) := h
    have e : i = 0 ∨ i = 1 := by omega
    rcases e with rfl | rfl
    · rw [cell_of_row _ _ 0 _ _ _ h]; rfl
    · rw [cell_of_row _ _ 1 _ _ _ h]; rfl
  · refine ⟨hl, Nat.le_refl _, by decide, fun i hi => ?_⟩
    have hi : i < 3 := hi
    have h : u.heap[g]? = some (.cells #[.string wEnd, .string wFe5, .string wSe5] 9 (0, 0)) := h
    have e : i = 0 ∨ i = 1 ∨ i = 2 := by omega
    rcases e with rfl | rfl | rfl
    · rw [cell_of_row _ _ 0 _ _ _ h]; rfl
    · rw [cell_of_row _ _ 1 _ _ _ h]; rfl
    · rw [cell_of_row _ _ 2 _ _ _ h]; rfl
theorem lrow_grown {u wz : World} {g B : Nat} {t : Bool} {T : TypeId} {v : Value} {xs : List Itm} (h : u.heap[g]? = some (lRow t)) (ho : ItsAt T B v xs u) (hT : 9 ≠ T) (hg : u.grownBy wz v.ownBlock) : wz.heap[g]? = some (lRow t) := by
  rw [hg.block g (row_lt h) ?_]
  · exact h
  · cases t
    · exact own_ne ho (show u.heap[g]? = some (.cells #[.string wEnd, .string wFe5] 9 (0, 0)) from h) hT
    · exact own_ne ho (show u.heap[g]? = some (.cells #[.string wEnd, .string wFe5, .string wSe5] 9 (0, 0)) from h) hT
end Go.Proofs.YtkhicgafhbecfaaGreatDoor
