/- Pairs of integers in memory, opened; how many days of a label come before a day. -/
import Derived.Test.YtadapffmcdkfiaaDoorLk
import Derived.Test.YtadapffmcdkfiaaDoorLl
namespace Go.Proofs.YtadapffmcdkfiaaDoor
open Go.RowKit

theorem flat_at : ∀ (ps : List (Int × Int)) (i : Nat) (x : Int × Int), ps[i]? = some x → (flat ps)[i * 2]? = some (.int .i64 x.1) ∧ (flat ps)[i * 2 + 1]? = some (.int .i64 x.2)
  | [], i, x, h => by simp at h
  | p :: ps, 0, x, h => by
    simp at h; subst h; exact ⟨rfl, rfl⟩
  | p :: ps, i + 1, x, h => by
    have := flat_at ps i x (by simpa using h)
    rw [show (i + 1) * 2 = i * 2 + 1 + 1 by omega]
    simpa [flat] using this
structure PairsIn (g cap : Nat) (ps : List (Int × Int)) (w : World) : Prop where
  lt : g < w.heap.size
  le : ps.length ≤ cap
  mx : cap ≤ maxLen
  one : ∀ (i : Nat) (x : Int × Int), ps[i]? = some x → w.cell? ⟨g, i * 2, none⟩ = some (.int .i64 x.1)
  two : ∀ (i : Nat) (x : Int × Int), ps[i]? = some x → w.cell? ⟨g, i * 2 + 1, none⟩ = some (.int .i64 x.2)
theorem PairsIn.on {g cap : Nat} {ps : List (Int × Int)} {w w' : World} (h : PairsIn g cap ps w) (hb : Below w.heap.size w w') : PairsIn g cap ps w' :=
  ⟨Nat.lt_of_lt_of_le h.lt hb.size, h.le, h.mx, fun i x hi => cell_below (h.one i x hi) hb, fun i x hi => cell_below (h.two i x hi) hb⟩
theorem PairsAt.get {B : Nat} {v : Value} {ps : List (Int × Int)} {w : World} (h : PairsAt B v ps w) : (v = .slice none 0 0 ∧ ps = []) ∨ ∃ g cap, v = .slice (some ⟨g, 0, none⟩) ps.length cap ∧ PairsIn g cap ps w := by
  rcases h.2 with ⟨rfl, hn⟩ | ⟨g, cap, cur, rfl, hb, hg, hnc, hcm, hcs, htake⟩
  · exact .inl ⟨rfl, List.eq_nil_of_length_eq_zero hn⟩
  · have hadd : ∀ j, (⟨g, 0, none⟩ : Addr).add j = ⟨g, j, none⟩ := fun j => by unfold Addr.add; split <;> simp_all
    refine .inr ⟨g, cap, rfl, (Array.getElem?_eq_some_iff.1 hg).1, hnc, hcm, fun i x hi => ?_, fun i x hi => ?_⟩
    · have := World.ownsRow.cells h (g := g) rfl _ _ (flat_at ps i x hi).1
      rwa [hadd] at this
    · have := World.ownsRow.cells h (g := g) rfl _ _ (flat_at ps i x hi).2
      rwa [hadd] at this
/-- A slice of n pairs of the call's own, opened. -/
def RetPOpen (n : Nat) (ps : List (Int × Int)) (w : World) (e : Ending) (w' : World) : Prop := ∃ g cap, e = .returned (.slice (some ⟨g, 0, none⟩) n cap) ∧ PairsIn g cap ps w' ∧ Below w.heap.size w w'
theorem days_open (l : Int) (n : Nat) (hx : (days l).length = n) (hn : 0 < n) (w : World) (ht : LTab w) : Calls Tryd.prog 16 #[.int .i64 l] w (RetPOpen n (days l) w) :=
  (days_any l w ht).mono fun e w' h => by
    obtain ⟨v, rfl, hv, hb⟩ := h
    rcases hv.get with ⟨_, h0⟩ | ⟨g, cap, rfl, hi⟩
    · rw [h0] at hx; simp at hx; omega
    · exact ⟨g, cap, by rw [hx], hi, hb⟩
theorem days_out {l : Int} (h : l < 1 ∨ 31 < l) : days l = [] := by
  rw [days, sel, List.filter_eq_nil_iff]
  intro x _; rw [bears_out h]; decide
/-- A slice without an element: nil or not. -/
theorem days_none (l : Int) (h : l < 1 ∨ 31 < l) (w : World) (ht : LTab w) : Calls Tryd.prog 16 #[.int .i64 l] w fun e w' => (e = .returned (.slice none 0 0) ∨ ∃ g cap, e = .returned (.slice (some ⟨g, 0, none⟩) 0 cap)) ∧ Below w.heap.size w w' :=
  (days_any l w ht).mono fun e w' hr => by
    obtain ⟨v, rfl, hv, hb⟩ := hr
    rw [days_out h] at hv
    rcases hv.get with ⟨rfl, _⟩ | ⟨g, cap, rfl, hi⟩
    · exact ⟨.inl rfl, hb⟩
    · exact ⟨.inr ⟨g, cap, rfl⟩, hb⟩

def slI (l n : Int) : Nat := (sel l (year.take n.toNat)).length
theorem slI_zero (l : Int) : slI l 0 = 0 := rfl
theorem slI_end (l : Int) : slI l 365 = (days l).length := by
  rw [slI, show (365 : Int).toNat = 365 from rfl, year_all]; rfl
theorem slI_no {l m d : Int} (h : okD m d = true) (hb : bears m d l = false) : slI l (doy m d) = slI l (doy m d - 1) := by
  rw [slI, year_at h, sel_miss l _ hb]; rfl
theorem slI_yes {l m d : Int} (h : okD m d = true) (hb : bears m d l = true) : slI l (doy m d) = slI l (doy m d - 1) + 1 := by
  rw [slI, year_at h, sel_hit l _ hb, List.length_append]; rfl
theorem slI_at {l m d : Int} (h : okD m d = true) (hb : bears m d l = true) : (days l)[slI l (doy m d - 1)]? = some (m, d) := by
  have hd := doy_bd h
  have e : days l = sel l (year.take (doy m d).toNat) ++ sel l (year.drop (doy m d).toNat) := by
    rw [days, sel, sel, sel, ← List.filter_append, List.take_append_drop]
  rw [e, year_at h, sel_hit l _ hb, List.append_assoc, List.getElem?_append_right (by rw [slI]; exact Nat.le_refl _)]
  simp [slI]
theorem slI_le (l n : Int) (h : 0 ≤ n) : (slI l n : Int) ≤ n := by
  have := sel_le l (year.take n.toNat)
  have h2 : (year.take n.toNat).length ≤ n.toNat := by rw [List.length_take]; exact Nat.min_le_left _ _
  rw [slI]; omega
theorem days_lens {l : Int} (l1 : 1 ≤ l) (l2 : l ≤ 31) : (days l).length = 12 ∨ (days l).length = 13 := by
  have := all_l (fun l => (days l).length == 12 || (days l).length == 13) (by kernel_rfl) l l1 l2
  simpa using this

/-! the days of a label, lunation by lunation -/
def bef (l : Int) (i : Nat) : Int := match i with | 0 => 0 | i + 1 => let x := (days l).getD i (0, 0); doy x.1 x.2
def lunB (l : Int) (i : Nat) : Bool :=
  let x := (days l).getD i (0, 0)
  !decide (i < (days l).length) || (okD x.1 x.2 && decide (lunM x.1 x.2 = i) && (decide (i = 0) || (decide (29 ≤ doy x.1 x.2 - bef l i) && decide (doy x.1 x.2 - bef l i ≤ 30))))
theorem lun_day {l : Int} {i : Nat} (l1 : 1 ≤ l) (l2 : l ≤ 31) (hi : i < (days l).length) : ∃ a b : Int, (days l)[i]? = some (a, b) ∧ okD a b = true ∧ lunM a b = i ∧ (i = 0 ∨ 29 ≤ doy a b - bef l i ∧ doy a b - bef l i ≤ 30) ∧ bef l (i + 1) = doy a b := by
  have hn := days_lens l1 l2
  have := all_l (fun l => (List.range 13).all fun i => lunB l i) (by kernel_rfl) l l1 l2
  have := all_lt 13 _ this i (by omega)
  unfold lunB at this
  have e : (days l).getD i (0, 0) = (days l)[i] := by rw [List.getD_eq_getElem?_getD, List.getElem?_eq_getElem hi]; rfl
  refine ⟨((days l)[i]).1, ((days l)[i]).2, by rw [List.getElem?_eq_getElem hi], ?_⟩
  simp only [e, hi, decide_true, Bool.not_true, Bool.false_or, Bool.and_eq_true, Bool.or_eq_true, decide_eq_true_eq] at this
  obtain ⟨⟨h1, h2⟩, h3⟩ := this
  exact ⟨h1, h2, h3, by rw [bef]; simp only [e]⟩
/-- What a round of LabelLunations keeps over its calls. -/
structure KeepL (W : World) (g cap : Nat) (ps : List (Int × Int)) (u : World) : Prop where
  t : LTab u
  b : Below W.heap.size W u
  p : PairsIn g cap ps u
theorem KeepL.on {W : World} {g cap : Nat} {ps : List (Int × Int)} {u u' : World} (h : KeepL W g cap ps u) (hb : Below u.heap.size u u') : KeepL W g cap ps u' := ⟨h.t.on hb, below_on h.b hb, h.p.on hb⟩
theorem KeepL.dn {W : World} {g cap : Nat} {ps : List (Int × Int)} {u : World} (h : KeepL W g cap ps u) (n : Nat) : KeepL W g cap ps (u.drewN n) := h.on (below_dn (Below.refl _ _) n)
theorem KeepL.drew {W : World} {g cap : Nat} {ps : List (Int × Int)} {u : World} (h : KeepL W g cap ps u) : KeepL W g cap ps u.drew := h.dn 1
def HasTwo (g i : Nat) (a b : Int) (u : World) : Prop := u.cell? ⟨g, i * 2, none⟩ = some (.int .i64 a) ∧ u.cell? ⟨g, i * 2 + 1, none⟩ = some (.int .i64 b)
theorem HasTwo.on {g i : Nat} {a b : Int} {u u' : World} (h : HasTwo g i a b u) (hb : Below u.heap.size u u') : HasTwo g i a b u' := ⟨cell_below h.1 hb, cell_below h.2 hb⟩
theorem KeepL.two {W : World} {g cap : Nat} {ps : List (Int × Int)} {u : World} {i : Nat} {a b : Int} (h : KeepL W g cap ps u) (hx : ps[i]? = some (a, b)) : HasTwo g i a b u := ⟨h.p.one i _ hx, h.p.two i _ hx⟩
end Go.Proofs.YtadapffmcdkfiaaDoor
