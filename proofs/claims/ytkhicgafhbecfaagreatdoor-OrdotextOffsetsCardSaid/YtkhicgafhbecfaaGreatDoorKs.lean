/- What earlier stages proved: Sa Sc. -/
import Derived.Test.YtkhicgafhbecfaaGreatDoorKp
import Derived.Test.YtkhicgafhbecfaaGreatDoorKw
import Derived.Test.YtkhicgafhbecfaaGreatDoorKa
import Derived.LoopN
import Derived.OneCell
namespace Go.Proofs.YtkhicgafhbecfaaGreatDoor

/-- How many days behind 21 March Easter is. -/
def eaO (c y : Int) : Int := off (lab c y) + 7 - (marN c y + off (lab c y)) % 7
/-- The number of Easter. -/
def eaN (c y : Int) : Int := marN c y + eaO c y
theorem eaO_off (c y : Int) : (off (lab c y) : Int) + 1 ≤ eaO c y ∧ eaO c y ≤ off (lab c y) + 7 := by unfold eaO; omega
theorem eaO_bd (c y : Int) : 1 ≤ eaO c y ∧ eaO c y ≤ 35 := by
  obtain ⟨l1, l2⟩ := lab_bd c y
  have := (off_all l1 l2).1
  have := eaO_off c y
  omega
theorem eaN_mod (c y : Int) : eaN c y % 7 = 0 := by unfold eaN eaO; omega
theorem eaN_aft (c y : Int) : aft (marN c y + off (lab c y) + 1) 0 = eaN c y := by unfold aft eaN eaO; omega
theorem eaN_bd {c y : Int} (h : epE c y = 0) : 0 ≤ eaN c y ∧ eaN c y ≤ 365250000033 := by
  obtain ⟨y1, y2⟩ := epE_inY h
  have := marN_bd (epE_okC h) y1 y2
  have := eaO_bd c y
  unfold eaN; omega
/-- Day. -/
def edN (c y : Int) : Int := if epE c y = 0 then eaN c y else 0
/-- Date. -/
def edY (c y : Int) : Int := if epE c y = 0 then y else 0
def edM (c y : Int) : Int := if epE c y = 0 then marM (eaO c y) else 0
def edD (c y : Int) : Int := if epE c y = 0 then marD (eaO c y) else 0
theorem ed_ok {c y : Int} (h : epE c y = 0) : edN c y = eaN c y ∧ edY c y = y ∧ edM c y = marM (eaO c y) ∧ edD c y = marD (eaO c y) := by
  unfold edN edY edM edD; rw [if_pos h, if_pos h, if_pos h, if_pos h]; exact ⟨rfl, rfl, rfl, rfl⟩
theorem ed_no {c y : Int} (h : epE c y ≠ 0) : edN c y = 0 ∧ edY c y = 0 ∧ edM c y = 0 ∧ edD c y = 0 := by
  unfold edN edY edM edD; rw [if_neg h, if_neg h, if_neg h, if_neg h]; exact ⟨rfl, rfl, rfl, rfl⟩
/-- Offset; its error is NewMoon's (nmE). -/
def eoN (c y m d : Int) : Int := if nmE c y m d = 0 then tN c y m d - eaN c y else 0
theorem eo_ok {c y m d : Int} (h : epE c y = 0) (h2 : tE c y m d = 0) : nmE c y m d = 0 ∧ eoN c y m d = tN c y m d - eaN c y := by
  have e := (nmE_ok c y m d h h2).1
  exact ⟨e, by unfold eoN; rw [if_pos e]⟩
theorem eo_bad {c y m d : Int} (h : epE c y = 0) (h2 : tE c y m d ≠ 0) : nmE c y m d = tE c y m d ∧ eoN c y m d = 0 := by
  have e := (nmE_bad c y m d h h2).1
  exact ⟨e, by unfold eoN; rw [e, if_neg h2]⟩
theorem eo_no {c y : Int} (m d : Int) (h : epE c y ≠ 0) : nmE c y m d = epE c y ∧ eoN c y m d = 0 := by
  have e := (nmE_no c y m d h).1
  exact ⟨e, by unfold eoN; rw [e, if_neg h]⟩
theorem nmE_zero {c y m d : Int} (h : nmE c y m d = 0) : epE c y = 0 ∧ tE c y m d = 0 := by
  by_cases h1 : epE c y = 0
  · unfold nmE at h; rw [if_pos h1] at h; exact ⟨h1, h⟩
  · unfold nmE at h; rw [if_neg h1] at h; exact absurd h h1
/-- Easter's date and number belong together. -/
theorem ea_to {c y : Int} (h : epE c y = 0) : tE c y (marM (eaO c y)) (marD (eaO c y)) = 0 ∧ tN c y (marM (eaO c y)) (marD (eaO c y)) = eaN c y := by
  obtain ⟨y1, y2⟩ := epE_inY h
  have := eaO_bd c y
  exact mar_to (epE_okC h) y1 y2 (by omega) (by omega)
theorem ea_from {c y : Int} (h : epE c y = 0) : fE c (eaN c y) = 0 ∧ fY c (eaN c y) = y ∧ fM c (eaN c y) = marM (eaO c y) ∧ fD c (eaN c y) = marD (eaO c y) := by
  obtain ⟨y1, y2⟩ := epE_inY h
  have := eaO_bd c y
  exact mar_from (epE_okC h) y1 y2 (by omega) (by omega)

def offX (l : Int) : Int := if l ≤ 23 then 23 - l else if l = 24 then 28 else if l ≤ 30 then 53 - l else 27
theorem off_x {l : Int} (l1 : 1 ≤ l) (l2 : l ≤ 31) : (off l : Int) = offX l :=
  of_decide_eq_true (all_l (fun l => decide ((off l : Int) = offX l)) (by kernel_rfl) l l1 l2)
/-- The labels of two epacts that differ by 10 to 13. -/
theorem off_step {a b g h d : Int} (hd : (b - a - d) % 30 = 0) (d1 : 10 ≤ d) (d2 : d ≤ 13) :
    offX (lbl (ep30 b) h) - offX (lbl (ep30 a) g) ≤ 20 ∧ -16 ≤ offX (lbl (ep30 b) h) - offX (lbl (ep30 a) g) := by
  obtain ⟨a1, a2⟩ := ep30_bd a
  obtain ⟨b1, b2⟩ := ep30_bd b
  have a3 := ep30_mod a
  have b3 := ep30_mod b
  have hb : (ep30 b - ep30 a - d) % 30 = 0 := by omega
  clear a3 b3 hd
  generalize ep30 a = p at *
  generalize ep30 b = q at *
  unfold lbl
  split <;> split <;> (unfold offX; (repeat' split) <;> omega)
theorem gold_step (y : Int) : (11 * gold (y + 1) - 11 * gold y - 11) % 30 = 0 ∨ (11 * gold (y + 1) - 11 * gold y - 12) % 30 = 0 := by
  unfold gold
  have : (y + 1) % 19 = y % 19 + 1 ∨ (y % 19 = 18 ∧ (y + 1) % 19 = 0) := by omega
  rcases this with e | ⟨e, f⟩
  · rw [e]; omega
  · rw [e, f]; omega
theorem solr_step (y : Int) : solr (y + 1) = solr y ∨ solr (y + 1) = solr y + 1 := by
  unfold solr cent
  have : (y + 1) / 100 = y / 100 ∨ (y + 1) / 100 = y / 100 + 1 := by omega
  rcases this with e | e <;> rw [e]
  · exact Or.inl rfl
  · generalize y / 100 = q
    have : q % 4 = 0 ∨ q % 4 = 1 ∨ q % 4 = 2 ∨ q % 4 = 3 := by omega
    omega
theorem lunr_step (y : Int) : lunr (y + 1) = lunr y ∨ lunr (y + 1) = lunr y + 1 := by
  unfold lunr cent
  have : (y + 1) / 100 = y / 100 ∨ (y + 1) / 100 = y / 100 + 1 := by omega
  rcases this with e | e <;> rw [e]
  · exact Or.inl rfl
  · generalize y / 100 = q
    omega
theorem epF_step {c y : Int} (h : epE c y = 0) : ∃ d : Int, (epF c (y + 1) - epF c y - d) % 30 = 0 ∧ 10 ≤ d ∧ d ≤ 13 := by
  obtain ⟨y1, y2⟩ := epE_inY h
  have hg := gold_step y
  unfold epF
  split
  · unfold epJ
    rcases hg with e | e
    · exact ⟨11, by omega, by omega, by omega⟩
    · exact ⟨12, by omega, by omega, by omega⟩
  · have hs := solr_step y
    have hl := lunr_step y
    unfold epG
    generalize gold (y + 1) = g' at *
    generalize gold y = g at *
    generalize solr (y + 1) = s' at *
    generalize solr y = s at *
    generalize lunr (y + 1) = l' at *
    generalize lunr y = l at *
    rcases hg with e | e <;> rcases hs with rfl | rfl <;> rcases hl with rfl | rfl
    · exact ⟨11, by omega, by omega, by omega⟩
    · exact ⟨12, by omega, by omega, by omega⟩
    · exact ⟨10, by omega, by omega, by omega⟩
    · exact ⟨11, by omega, by omega, by omega⟩
    · exact ⟨12, by omega, by omega, by omega⟩
    · exact ⟨13, by omega, by omega, by omega⟩
    · exact ⟨11, by omega, by omega, by omega⟩
    · exact ⟨12, by omega, by omega, by omega⟩
theorem marN_step {c y : Int} (y1 : 1 ≤ y) : 365 ≤ marN c (y + 1) - marN c y ∧ marN c (y + 1) - marN c y ≤ 366 := by
  have h := (calOf c).step y y1
  have b3 : ∀ l, cum l 3 = 59 + l01 l := fun l => by unfold cum; rw [if_neg (by omega)]; omega
  have g := l01_bd ((calOf c).lp (y + 1))
  unfold marN Cal.num
  rw [b3, b3, h]
  omega
/-- From one Easter to the next it is a whole number of weeks, from 49 to 56. -/
theorem eaN_step {c y : Int} (h : epE c y = 0) : (eaN c (y + 1) - eaN c y) % 7 = 0 ∧ 343 ≤ eaN c (y + 1) - eaN c y ∧ eaN c (y + 1) - eaN c y ≤ 392 := by
  obtain ⟨y1, y2⟩ := epE_inY h
  have m1 := eaN_mod c y
  have m2 := eaN_mod c (y + 1)
  have o1 := eaO_off c y
  have o2 := eaO_off c (y + 1)
  have s := marN_step (c := c) y1
  obtain ⟨d, hd, d1, d2⟩ := epF_step h
  have k := off_step (g := gold y) (h := gold (y + 1)) hd d1 d2
  have x1 : (off (lab c y) : Int) = offX (lbl (ep30 (epF c y)) (gold y)) := off_x (lab_bd c y).1 (lab_bd c y).2
  have x2 : (off (lab c (y + 1)) : Int) = offX (lbl (ep30 (epF c (y + 1))) (gold (y + 1))) := off_x (lab_bd c (y + 1)).1 (lab_bd c (y + 1)).2
  rw [← x1, ← x2] at k
  unfold eaN at *
  omega
theorem epE_next {c y : Int} (h : epE c y = 0) (h9 : ¬ y = 1000000000) : epE c (y + 1) = 0 := by
  obtain ⟨hc, hi⟩ := epE_zero h
  refine epE_ok (okC_iff.2 hc) ?_
  rcases hc with rfl | rfl
  · rw [epIn_one] at *
    have := inY_iff.1 hi
    exact inY_iff.2 (by omega)
  · rw [epIn_two] at *
    have := inG_iff.1 hi
    exact inG_iff.2 (by omega)
theorem rem_week {a b : Int} (h : b % 7 = 0) : ((a - b).tmod 7 == 0) = (a % 7 == 0) := by
  have e : ((a - b).tmod 7 = 0) ↔ (a % 7 = 0) := by
    rw [← Int.dvd_iff_tmod_eq_zero]
    omega
  by_cases g : a % 7 = 0
  · rw [e.2 g, g]
  · rw [beq_eq_false_iff_ne.2 g, beq_eq_false_iff_ne.2 fun x => g (e.1 x)]
end Go.Proofs.YtkhicgafhbecfaaGreatDoor

namespace Go.Proofs.YtkhicgafhbecfaaGreatDoor
open Go.RowKit

/-- The tables read as laid, what was in memory is as it was, and the blocks made since hold l. -/
structure Own (W : World) (l : List Obj) (u : World) : Prop where
  p : PT W
  s : PSt W u
  r : ∀ (i : Nat) (o : Obj), l[i]? = some o → u.heap[W.heap.size + i]? = some o
theorem Own.on {W u u' : World} {l : List Obj} (h : Own W l u) (hb : Below u.heap.size u u') : Own W l u' := ⟨h.p, h.s.on hb, fun i o hi => row_on (h.r i o hi) hb⟩
theorem Own.nil {W : World} (ht : PT W) : Own W [] W := ⟨ht, PSt.start ht, fun i o hi => by simp at hi⟩
theorem Own.al {W u : World} {l : List Obj} (h : Own W l u) (hs : u.heap.size = W.heap.size + l.length) (o : Obj) : Own W (l ++ [o]) (u.alloc o) ∧ (u.alloc o).heap.size = W.heap.size + (l ++ [o]).length := by
  refine ⟨⟨h.p, h.s.al o, fun i x hi => ?_⟩, by simp; omega⟩
  rcases Nat.lt_or_ge i l.length with g | g
  · rw [List.getElem?_append_left g] at hi; exact row_al (h.r i x hi) o
  · rw [List.getElem?_append_right g] at hi
    have : i - l.length = 0 := by
      rcases Nat.eq_zero_or_pos (i - l.length) with e | e
      · exact e
      · rw [List.getElem?_eq_none (by simp; omega)] at hi; cases hi
    rw [this] at hi; simp at hi; subst hi
    have e : W.heap.size + i = u.heap.size := by omega
    rw [e]; exact heap_alloc_new u o
theorem Own.six {W : World} (ht : PT W) (o0 o1 o2 o3 o4 o5 : Obj) : Own W [o0, o1, o2, o3, o4, o5] ((((((W.alloc o0).alloc o1).alloc o2).alloc o3).alloc o4).alloc o5) := by
  have h0 := Own.al (Own.nil ht) (by simp) o0
  have h1 := Own.al h0.1 h0.2 o1
  have h2 := Own.al h1.1 h1.2 o2
  have h3 := Own.al h2.1 h2.2 o3
  have h4 := Own.al h3.1 h3.2 o4
  exact (Own.al h4.1 h4.2 o5).1
theorem Own.put {W u u' : World} {l : List Obj} (h : Own W l u) (k : Nat) (o : Obj) (hb : Below W.heap.size W u') (hk : u'.heap[W.heap.size + k]? = some o) (ho : ∀ b, b ≠ W.heap.size + k → u'.heap[b]? = u.heap[b]?) : Own W (l.set k o) u' := by
  refine ⟨h.p, ⟨h.p.on hb, hb⟩, fun i x hi => ?_⟩
  rcases Nat.eq_or_lt_of_le (Nat.le_refl i) with _ | g
  · by_cases e : i = k
    · subst e
      rw [List.getElem?_set_self'] at hi
      cases hl : l[i]? with
      | none => rw [hl] at hi; simp at hi
      | some y => rw [hl] at hi; simp at hi; subst hi; exact hk
    · rw [List.getElem?_set_ne (Ne.symm e)] at hi
      rw [ho _ (by omega)]; exact h.r i x hi
  · exact absurd g (Nat.lt_irrefl i)
theorem Own.w1 {W u : World} {l : List Obj} (h : Own W l u) (k : Nat) {x : Value} {t : Nat} (hk : l[k]? = some (.cells #[x] t (0, 0))) (v : Value) : Own W (l.set k (.cells #[v] t (0, 0))) (u.setCell ⟨W.heap.size + k, 0, none⟩ v) :=
  h.put k _ (h.s.b.setCell (p := ⟨W.heap.size + k, 0, none⟩) (Nat.le_add_right _ _) v) (heap_setCell_same u _ 0 _ _ v (h.r k _ hk)) (fun _ hb => heap_setCell_other _ _ _ _ hb)
theorem Own.w3 {W u : World} {l : List Obj} (h : Own W l u) (k : Nat) {x y z : Value} {t : Nat} (hk : l[k]? = some (.cells #[x, y, z] t (0, 0))) (a b c : Value) : Own W (l.set k (.cells #[a, b, c] t (0, 0))) (set3 u (W.heap.size + k) a b c) :=
  h.put k _ (below_set3 h.s.b (Nat.le_add_right _ _) a b c rfl) (row_set (h.r k _ hk) a b c) (fun _ hx => by unfold set3; rw [heap_setCell_other _ _ _ _ hx, heap_setCell_other _ _ _ _ hx, heap_setCell_other _ _ _ _ hx])
theorem Own.row0 {W u : World} {l : List Obj} (h : Own W l u) {o : Obj} (hk : l[0]? = some o) : u.heap[W.heap.size]? = some o := h.r 0 o hk
theorem Own.one {W u : World} {l : List Obj} (h : Own W l u) (k : Nat) {x : Value} {t : Nat} (hk : l[k]? = some (.cells #[x] t (0, 0))) :
    u.cell? ⟨W.heap.size + k, 0, none⟩ = some x ∧ u.frozen? ⟨W.heap.size + k, 0, none⟩ = false ∧ W.heap.size + k < u.heap.size := by
  have h0 : u.cell? ⟨W.heap.size + k, 0, none⟩ = some x := by rw [cell_of_row u _ 0 _ _ _ (h.r k _ hk)]; rfl
  exact ⟨h0, frozen_of_row u _ 0 _ _ (h.r k _ hk), World.block_lt_of_cell? u _ h0⟩
abbrev one (v : Int) : Obj := .cells #[.int .i64 v] 3 (0, 0)
abbrev tri (y m d : Int) : Obj := .cells #[.int .i64 y, .int .i64 m, .int .i64 d] 37 (0, 0)
theorem mk_func (fn : Fn) (first cap : Array Value) (w : World) : (Instr.makeFunc fn first cap).run Tryz.prog w = .ok (.func fn first cap) w := rfl
section
variable (W : World) (c y m d : Int) (x2 x3 x4 x5 : Obj)
end
end Go.Proofs.YtkhicgafhbecfaaGreatDoor
