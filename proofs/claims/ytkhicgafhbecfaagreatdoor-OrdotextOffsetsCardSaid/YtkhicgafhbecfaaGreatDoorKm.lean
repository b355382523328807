/- What earlier stages proved: Li Lj Lk Lm. -/
import Derived.Test.YtkhicgafhbecfaaGreatDoorKn
import Derived.RangeFuncNested
import Derived.RangeFuncBound
import Derived.RangeFuncCalls
import Derived.RangeFuncLeaves
import Derived.RangeFuncBox
import Derived.Shelf.Abstract
import Derived.Shelf.RegionOpen
import Derived.OwnWalkIn
import Derived.TacticsInMore
import Derived.LoopNIn
import Derived.LoopIn
import Derived.Maps.AppendAt
import Derived.Test.YtkhicgafhbecfaaGreatDoorKo
import Derived.Test.YtkhicgafhbecfaaGreatDoorKl
namespace Go.Proofs.YtkhicgafhbecfaaGreatDoor
open Go.RowKit Go.Shelf
attribute [local go_sem] Oper.semAt_some

theorem wpListIn_load_row {F : Fence} {n : Nat} {P : Program} {ops : Array Oper} {rest : List Oper} {o : Oper} {a : Act} {w : World} {Q : Exit → Act → World → Prop} (hgd : o.guard = none) (ty : TypeId) (x : Operand) (ho : o.op = .load ty x)
    (g : Nat) (hx : a.eval x = .pointer (some ⟨g, 0, none⟩)) (t : TypeId) (cs : Array Value) (fr : Nat × Nat) (d : TypeDesc) (hg : w.heap[g]? = some (.cells cs t fr))
    (hu : P.underlying ty = some d) (hd : (match d with | .struct _ | .array _ _ => true | _ => false) = true) (hi : (P.info? ty).map (·.size) = some cs.size)
    (h : wpListIn F n P ops Q rest (a.put o.dst (.agg cs)) w) : wpListIn F n P ops Q (o :: rest) a w :=
  wpListIn_plain hgd fun K hK => by
    unfold Oper.wpIn
    refine ⟨?_, ?_⟩
    · simp [Oper.about, ho]
    · rw [Oper.semAt_plain F _ _ (by rw [ho]; intro c hc'; cases hc')]
      unfold execOp
      simp only [ho, hx, Instr.loadAt, Instr.sureAddr, Sem.run_bind, Sem.run_pure, Result.andThen_ok, run_loadVar_row w g t ty cs fr d hg hu hd hi]
      exact hK _ _ h

def lensV : Array Value := (lens.map (Value.int .i64)).toArray
abbrev encs (x : Int × Int) : Array Value := #[.int .i64 x.1, .int .i64 x.2]
theorem year_at {m d : Int} (h : okD m d = true) : year.take (doy m d).toNat = year.take (doy m d - 1).toNat ++ [(m, d)] := by
  have hd := doy_bd h
  obtain ⟨m1, m2, d1, d2⟩ := okD_bd h
  have := all_md (fun m d => !okD m d || (year[(doy m d - 1).toNat]? == some (m, d))) (by kernel_rfl) m d m1 m2 d1 d2
  rw [h] at this
  have e : year[(doy m d - 1).toNat]? = some (m, d) := by simpa using this
  rw [show (doy m d).toNat = (doy m d - 1).toNat + 1 by omega, List.take_add_one, e]; rfl
theorem year_all : year.take 365 = year := by rw [← year_len, List.take_length]
theorem take_len {n : Nat} (h : n ≤ 365) : (year.take n).length = n := by rw [List.length_take, year_len]; omega

end Go.Proofs.YtkhicgafhbecfaaGreatDoor

namespace Go.Proofs.YtkhicgafhbecfaaGreatDoor
open Go.RowKit Go.Shelf
attribute [local go_sem] Oper.semAt_some

def flat : List (Int × Int) → List Value
  | [] => []
  | x :: xs => .int .i64 x.1 :: .int .i64 x.2 :: flat xs
theorem flat_app : ∀ xs ys : List (Int × Int), flat (xs ++ ys) = flat xs ++ flat ys
  | [], _ => rfl
  | x :: xs, ys => by simp [flat, flat_app xs ys]
theorem flat_len : ∀ xs : List (Int × Int), (flat xs).length = xs.length * 2
  | [] => rfl
  | x :: xs => by simp [flat, flat_len xs]; omega
theorem cell_two_new (w : World) (x y : Value) (t : TypeId) : ∀ j u, [x, y][j]? = some u → (w.alloc (.cells #[x, y] t)).cell? ((⟨w.heap.size, 0, none⟩ : Addr).add j) = some u := by
  intro j u h
  rw [show (⟨w.heap.size, 0, none⟩ : Addr).add j = ⟨w.heap.size, j, none⟩ by unfold Addr.add; split <;> simp_all, cell_of_row _ _ j _ _ _ (heap_alloc_new w (.cells #[x, y] t))]
  rw [← Array.getElem?_toList]; exact h
theorem keeps_below {w w' : World} (hb : Below w.heap.size w w') : KeepsOthers w w' := KeepsOthers.of_grownBy (grown_of_below hb none) (fun j o ej _ => by cases ej)
theorem boxed_below {W W' : World} {B : Nat} {t : TypeId} {v : Value} (h : Boxed W B t v) (hb : Below W.heap.size W W') : Boxed W' B t v := h.kept (grown_of_below hb none) (by simp)

end Go.Proofs.YtkhicgafhbecfaaGreatDoor

namespace Go.Proofs.YtkhicgafhbecfaaGreatDoor
open Go.RowKit

/-- A slice of n integers of the call's own, opened. -/
def RetOpen (n : Nat) (xs : List Int) (w : World) (e : Ending) (w' : World) : Prop := ∃ g cap, e = .returned (.slice (some ⟨g, 0, none⟩) n cap) ∧ IntsIn g cap xs w' ∧ Below w.heap.size w w'
theorem RetInts.opened {n : Nat} {xs : List Int} {w : World} {e : Ending} {w' : World} (h : RetInts xs w e w') (hx : xs.length = n) (hn : 0 < n) : RetOpen n xs w e w' := by
  obtain ⟨v, rfl, hv, hb⟩ := h
  rcases hv.get with ⟨_, rfl⟩ | ⟨g, cap, rfl, hi⟩
  · simp at hx; omega
  · exact ⟨g, cap, by rw [hx], hi, hb⟩
theorem below_al_own {W w : World} (h : Below W.heap.size W w) (o : Obj) : Below W.heap.size W (w.alloc o) := h.alloc h.size o
end Go.Proofs.YtkhicgafhbecfaaGreatDoor

namespace Go.Proofs.YtkhicgafhbecfaaGreatDoor
open Go.RowKit

theorem flat_at : ∀ (ps : List (Int × Int)) (i : Nat) (x : Int × Int), ps[i]? = some x → (flat ps)[i * 2]? = some (.int .i64 x.1) ∧ (flat ps)[i * 2 + 1]? = some (.int .i64 x.2)
  | [], i, x, h => by simp at h
  | p :: ps, 0, x, h => by
    simp at h; subst h; exact ⟨rfl, rfl⟩
  | p :: ps, i + 1, x, h => by
    have := flat_at ps i x (by simpa using h)
    rw [show (i + 1) * 2 = i * 2 + 1 + 1 by omega]
    simpa [flat] using this
structure PairsIn (g cap : Nat) (ps : List (Int × Int)) (w : World) : Prop where
  lt : g < w.heap.size
  le : ps.length ≤ cap
  mx : cap ≤ maxLen
  one : ∀ (i : Nat) (x : Int × Int), ps[i]? = some x → w.cell? ⟨g, i * 2, none⟩ = some (.int .i64 x.1)
  two : ∀ (i : Nat) (x : Int × Int), ps[i]? = some x → w.cell? ⟨g, i * 2 + 1, none⟩ = some (.int .i64 x.2)
theorem PairsIn.on {g cap : Nat} {ps : List (Int × Int)} {w w' : World} (h : PairsIn g cap ps w) (hb : Below w.heap.size w w') : PairsIn g cap ps w' :=
  ⟨Nat.lt_of_lt_of_le h.lt hb.size, h.le, h.mx, fun i x hi => cell_below (h.one i x hi) hb, fun i x hi => cell_below (h.two i x hi) hb⟩
/-- A slice of n pairs of the call's own, opened. -/
def RetPOpen (n : Nat) (ps : List (Int × Int)) (w : World) (e : Ending) (w' : World) : Prop := ∃ g cap, e = .returned (.slice (some ⟨g, 0, none⟩) n cap) ∧ PairsIn g cap ps w' ∧ Below w.heap.size w w'
theorem days_out {l : Int} (h : l < 1 ∨ 31 < l) : days l = [] := by
  rw [days, sel, List.filter_eq_nil_iff]
  intro x _; rw [bears_out h]; decide
def slI (l n : Int) : Nat := (sel l (year.take n.toNat)).length
theorem slI_zero (l : Int) : slI l 0 = 0 := rfl
theorem slI_end (l : Int) : slI l 365 = (days l).length := by
  rw [slI, show (365 : Int).toNat = 365 from rfl, year_all]; rfl
theorem slI_no {l m d : Int} (h : okD m d = true) (hb : bears m d l = false) : slI l (doy m d) = slI l (doy m d - 1) := by
  rw [slI, year_at h, sel_miss l _ hb]; rfl
theorem slI_yes {l m d : Int} (h : okD m d = true) (hb : bears m d l = true) : slI l (doy m d) = slI l (doy m d - 1) + 1 := by
  rw [slI, year_at h, sel_hit l _ hb, List.length_append]; rfl
theorem slI_at {l m d : Int} (h : okD m d = true) (hb : bears m d l = true) : (days l)[slI l (doy m d - 1)]? = some (m, d) := by
  have hd := doy_bd h
  have e : days l = sel l (year.take (doy m d).toNat) ++ sel l (year.drop (doy m d).toNat) := by
    rw [days, sel, sel, sel, ← List.filter_append, List.take_append_drop]
  rw [e, year_at h, sel_hit l _ hb, List.append_assoc, List.getElem?_append_right (by rw [slI]; exact Nat.le_refl _)]
  simp [slI]
theorem slI_le (l n : Int) (h : 0 ≤ n) : (slI l n : Int) ≤ n := by
  have := sel_le l (year.take n.toNat)
  have h2 : (year.take n.toNat).length ≤ n.toNat := by rw [List.length_take]; exact Nat.min_le_left _ _
  rw [slI]; omega
theorem days_lens {l : Int} (l1 : 1 ≤ l) (l2 : l ≤ 31) : (days l).length = 12 ∨ (days l).length = 13 := by
  have := all_l (fun l => (days l).length == 12 || (days l).length == 13) (by kernel_rfl) l l1 l2
  simpa using this

def lunBef (l : Int) (i : Nat) : Int := match i with | 0 => 0 | i + 1 => let x := (days l).getD i (0, 0); doy x.1 x.2
def lunB (l : Int) (i : Nat) : Bool :=
  let x := (days l).getD i (0, 0)
  !decide (i < (days l).length) || (okD x.1 x.2 && decide (lunM x.1 x.2 = i) && (decide (i = 0) || (decide (29 ≤ doy x.1 x.2 - lunBef l i) && decide (doy x.1 x.2 - lunBef l i ≤ 30))))
theorem lun_day {l : Int} {i : Nat} (l1 : 1 ≤ l) (l2 : l ≤ 31) (hi : i < (days l).length) : ∃ a b : Int, (days l)[i]? = some (a, b) ∧ okD a b = true ∧ lunM a b = i ∧ (i = 0 ∨ 29 ≤ doy a b - lunBef l i ∧ doy a b - lunBef l i ≤ 30) ∧ lunBef l (i + 1) = doy a b := by
  have hn := days_lens l1 l2
  have := all_l (fun l => (List.range 13).all fun i => lunB l i) (by kernel_rfl) l l1 l2
  have := all_lt 13 _ this i (by omega)
  unfold lunB at this
  have e : (days l).getD i (0, 0) = (days l)[i] := by rw [List.getD_eq_getElem?_getD, List.getElem?_eq_getElem hi]; rfl
  refine ⟨((days l)[i]).1, ((days l)[i]).2, by rw [List.getElem?_eq_getElem hi], ?_⟩
  simp only [e, hi, decide_true, Bool.not_true, Bool.false_or, Bool.and_eq_true, Bool.or_eq_true, decide_eq_true_eq] at this
  obtain ⟨⟨h1, h2⟩, h3⟩ := this
  exact ⟨h1, h2, h3, by rw [lunBef]; simp only [e]⟩
/-- What a round of LabelLunations keeps over its calls. -/
structure KeepL (W : World) (g cap : Nat) (ps : List (Int × Int)) (u : World) : Prop where
  t : LTab u
  b : Below W.heap.size W u
  p : PairsIn g cap ps u
theorem KeepL.on {W : World} {g cap : Nat} {ps : List (Int × Int)} {u u' : World} (h : KeepL W g cap ps u) (hb : Below u.heap.size u u') : KeepL W g cap ps u' := ⟨h.t.on hb, below_on h.b hb, h.p.on hb⟩
theorem KeepL.dn {W : World} {g cap : Nat} {ps : List (Int × Int)} {u : World} (h : KeepL W g cap ps u) (n : Nat) : KeepL W g cap ps (u.drewN n) := h.on (below_dn (Below.refl _ _) n)
theorem KeepL.drew {W : World} {g cap : Nat} {ps : List (Int × Int)} {u : World} (h : KeepL W g cap ps u) : KeepL W g cap ps u.drew := h.dn 1
def HasTwo (g i : Nat) (a b : Int) (u : World) : Prop := u.cell? ⟨g, i * 2, none⟩ = some (.int .i64 a) ∧ u.cell? ⟨g, i * 2 + 1, none⟩ = some (.int .i64 b)
theorem HasTwo.on {g i : Nat} {a b : Int} {u u' : World} (h : HasTwo g i a b u) (hb : Below u.heap.size u u') : HasTwo g i a b u' := ⟨cell_below h.1 hb, cell_below h.2 hb⟩
theorem KeepL.two {W : World} {g cap : Nat} {ps : List (Int × Int)} {u : World} {i : Nat} {a b : Int} (h : KeepL W g cap ps u) (hx : ps[i]? = some (a, b)) : HasTwo g i a b u := ⟨h.p.one i _ hx, h.p.two i _ hx⟩
end Go.Proofs.YtkhicgafhbecfaaGreatDoor
