/- What earlier stages proved: Pa Pb Pd Pe. -/
import Derived.Test.YtkhicgafhbecfaaGreatDoorKc
import Derived.Test.YtkhicgafhbecfaaGreatDoorKe
import Derived.Test.YtkhicgafhbecfaaGreatDoorKl
import Derived.Test.YtkhicgafhbecfaaGreatDoorKr
import Derived.Test.YtkhicgafhbecfaaGreatDoorKm
import Derived.Deep.RegionHeld3
import Derived.LoopTactic
import Derived.OwnWalk
import Derived.Maps.AppendAt
import Derived.WalkMore
import Derived.ScopeJumps
namespace Go.Proofs.YtkhicgafhbecfaaGreatDoor

/-- The month and the day that lie k days behind 21 March. -/
def marM (k : Int) : Int := if k ≤ 10 then 3 else 4
def marD (k : Int) : Int := if k ≤ 10 then 21 + k else k - 10
/-- How many days behind 21 March the first full moon of a year with label l is. -/
def off (l : Int) : Nat := (List.range 29).findIdx fun j => bears (marM (Int.ofNat j - 13)) (marD (Int.ofNat j - 13)) l
def offB (l : Int) : Bool := decide (off l ≤ 28) && bears (marM (Int.ofNat (off l) - 13)) (marD (Int.ofNat (off l) - 13)) l && (List.range 29).all fun j => !decide (j < off l) || !bears (marM (Int.ofNat j - 13)) (marD (Int.ofNat j - 13)) l
theorem off_all {l : Int} (l1 : 1 ≤ l) (l2 : l ≤ 31) : off l ≤ 28 ∧ bears (marM (off l - 13)) (marD (off l - 13)) l = true ∧ ∀ j : Nat, j < off l → bears (marM (j - 13)) (marD (j - 13)) l = false := by
  have := all_l offB (by kernel_rfl) l l1 l2
  unfold offB at this
  simp only [Bool.and_eq_true, decide_eq_true_eq] at this
  obtain ⟨⟨h1, h2⟩, h3⟩ := this
  refine ⟨h1, h2, fun j hj => ?_⟩
  have := all_lt 29 _ h3 j (by omega)
  simpa [hj] using this

theorem mar_vld (C : Cal) {y k : Int} (y1 : 1 ≤ y) (y2 : y ≤ 1000000000) (k1 : -20 ≤ k) (k2 : k ≤ 40) : C.vld y (marM k) (marD k) = true ∧ C.num y (marM k) (marD k) = C.num y 3 21 + k := by
  have a3 : dim (C.lp y) 3 = 31 := rfl
  have a4 : dim (C.lp y) 4 = 30 := rfl
  have b3 : cum (C.lp y) 3 = 59 + l01 (C.lp y) := by unfold cum; rw [if_neg (by omega)]; omega
  have b4 : cum (C.lp y) 4 = 90 + l01 (C.lp y) := by unfold cum; rw [if_neg (by omega)]; omega
  unfold marM marD
  split
  · exact ⟨C.vld_iff.2 ⟨y1, y2, by omega, by rw [a3]; omega⟩, by unfold Cal.num; omega⟩
  · exact ⟨C.vld_iff.2 ⟨y1, y2, by omega, by rw [a4]; omega⟩, by unfold Cal.num; rw [b3, b4]; omega⟩
/-- The number of 21 March. -/
def marN (c y : Int) : Int := (calOf c).num y 3 21
theorem mar_to {c y : Int} (hc : okC c = true) (y1 : 1 ≤ y) (y2 : y ≤ 1000000000) {k : Int} (k1 : -20 ≤ k) (k2 : k ≤ 40) : tE c y (marM k) (marD k) = 0 ∧ tN c y (marM k) (marD k) = marN c y + k := by
  obtain ⟨v, n⟩ := mar_vld (calOf c) y1 y2 k1 k2
  obtain ⟨a, b⟩ := tE_at hc v
  exact ⟨a, by rw [b, n]; rfl⟩
theorem mar_from {c y : Int} (hc : okC c = true) (y1 : 1 ≤ y) (y2 : y ≤ 1000000000) {k : Int} (k1 : -20 ≤ k) (k2 : k ≤ 40) :
    fE c (marN c y + k) = 0 ∧ fY c (marN c y + k) = y ∧ fM c (marN c y + k) = marM k ∧ fD c (marN c y + k) = marD k := by
  obtain ⟨v, n⟩ := mar_vld (calOf c) y1 y2 k1 k2
  exact fE_at hc v n
theorem marN_bd {c y : Int} (hc : okC c = true) (y1 : 1 ≤ y) (y2 : y ≤ 1000000000) : -1 ≤ marN c y ∧ marN c y ≤ 365249999998 := by
  have := mar_to hc y1 y2 (k := 0) (by omega) (by omega)
  have h := tN_bd c y (marM 0) (marD 0)
  rw [this.2] at h; omega

def pfM (l : Int) : Int := marM (off l)
def pfD (l : Int) : Int := marD (off l)
/-- FullMoon. -/
def puY (c y : Int) : Int := if epE c y = 0 then y else 0
def puM (c y : Int) : Int := if epE c y = 0 then pfM (lab c y) else 0
def puD (c y : Int) : Int := if epE c y = 0 then pfD (lab c y) else 0
/-- NewMoon. -/
def nmE (c y m d : Int) : Int := if epE c y = 0 then tE c y m d else epE c y
def nmB (c y m d : Int) : Bool := decide (nmE c y m d = 0) && bears m d (lab c y)
theorem lab_bd (c y : Int) : 1 ≤ lab c y ∧ lab c y ≤ 31 := by unfold lab; exact lbl_bd (by unfold epc; exact ep30_bd _)
theorem pu_ok {c y : Int} (h : epE c y = 0) : puY c y = y ∧ puM c y = pfM (lab c y) ∧ puD c y = pfD (lab c y) := by unfold puY puM puD; rw [if_pos h, if_pos h, if_pos h]; exact ⟨rfl, rfl, rfl⟩
theorem pu_no {c y : Int} (h : epE c y ≠ 0) : puY c y = 0 ∧ puM c y = 0 ∧ puD c y = 0 := by unfold puY puM puD; rw [if_neg h, if_neg h, if_neg h]; exact ⟨rfl, rfl, rfl⟩
theorem epE_okC {c y : Int} (h : epE c y = 0) : okC c = true := okC_iff.2 (epE_zero h).1

/-- The dates of a year with the label's days. -/
def datesOf (y : Int) (ps : List (Int × Int)) : List (Int × Int × Int) := ps.map fun x => (y, x.1, x.2)
end Go.Proofs.YtkhicgafhbecfaaGreatDoor

namespace Go.Proofs.YtkhicgafhbecfaaGreatDoor
open Go.RowKit

/-- The tables of both calendars and of package label. -/
structure PT (w : World) : Prop where
  c : CTab w
  l : LTab w
theorem PT.on {w w' : World} (h : PT w) (hb : Below w.heap.size w w') : PT w' := ⟨h.c.on hb, h.l.on hb⟩
theorem PT.al {w : World} (h : PT w) (o : Obj) : PT (w.alloc o) := ⟨h.c.al o, h.l.al o⟩
theorem PT.from0 {W w : World} (h : PT W) (hb : Below W.heap.size W w) : PT w := h.on hb
/-- The tables read as laid, and what was in memory is as it was. -/
structure PSt (W w : World) : Prop where
  t : PT w
  b : Below W.heap.size W w
theorem PSt.start {W : World} (h : PT W) : PSt W W := ⟨h, Below.refl _ _⟩
theorem PSt.on {W w w' : World} (h : PSt W w) (hb : Below w.heap.size w w') : PSt W w' := ⟨h.t.on hb, below_on h.b hb⟩
theorem PSt.al {W w : World} (h : PSt W w) (o : Obj) : PSt W (w.alloc o) := h.on ((Below.refl w.heap.size w).alloc (Nat.le_refl _) o)
theorem PSt.dn {W w : World} (h : PSt W w) (n : Nat) : PSt W (w.drewN n) := h.on (below_dn (Below.refl _ _) n)
theorem PSt.set {W w : World} (h : PSt W w) (ht : PT W) {b : Nat} (hb : W.heap.size ≤ b) (x y z : Value) : PSt W (set3 w b x y z) := by
  have h1 : Below W.heap.size W (set3 w b x y z) := below_set3 h.b hb x y z rfl
  exact ⟨ht.on h1, h1⟩

section
variable (c y m d : Int) (w : World)
theorem nmE_no (h : epE c y ≠ 0) : nmE c y m d = epE c y ∧ nmB c y m d = false := by
  have e : nmE c y m d = epE c y := by unfold nmE; rw [if_neg h]
  exact ⟨e, by unfold nmB; rw [e, decide_eq_false h]; rfl⟩
theorem nmE_bad (h : epE c y = 0) (h2 : tE c y m d ≠ 0) : nmE c y m d = tE c y m d ∧ nmB c y m d = false := by
  have e : nmE c y m d = tE c y m d := by unfold nmE; rw [if_pos h]
  exact ⟨e, by unfold nmB; rw [e, decide_eq_false h2]; rfl⟩
theorem nmE_ok (h : epE c y = 0) (h2 : tE c y m d = 0) : nmE c y m d = 0 ∧ nmB c y m d = bears m d (lab c y) := by
  have e : nmE c y m d = 0 := by unfold nmE; rw [if_pos h, h2]
  exact ⟨e, by unfold nmB; rw [e]; simp⟩
theorem One.here {W u : World} {b : Nat} {y m d : Int} {t : Nat} (h : u.heap[b]? = some (.cells #[.int .i64 y, .int .i64 m, .int .i64 d] t (0, 0))) (hb : Below W.heap.size W u) : One W b y m d u :=
  ⟨(row3 h).1, (row3 h).2.1, (row3 h).2.2.1, hb⟩
theorem One.drew {W u : World} {b : Nat} {y m d : Int} (h : One W b y m d u) : One W b y m d u.drew := h.on (below_dn (Below.refl _ _) 1)
end
end Go.Proofs.YtkhicgafhbecfaaGreatDoor

namespace Go.Proofs.YtkhicgafhbecfaaGreatDoor
open Go.RowKit

def flat3 : List (Int × Int × Int) → List Value
  | [] => []
  | x :: xs => .int .i64 x.1 :: .int .i64 x.2.1 :: .int .i64 x.2.2 :: flat3 xs
theorem flat3_app : ∀ xs ys : List (Int × Int × Int), flat3 (xs ++ ys) = flat3 xs ++ flat3 ys
  | [], _ => rfl
  | x :: xs, ys => by simp [flat3, flat3_app xs ys]
def DatesAt (B : Nat) (v : Value) (ps : List (Int × Int × Int)) (w : World) : Prop := w.ownsRow B 37 3 v ps.length (flat3 ps)
theorem DatesAt.on {B : Nat} {v : Value} {xs : List (Int × Int × Int)} {w w' : World} (h : DatesAt B v xs w) (hb : Below w.heap.size w w') : DatesAt B v xs w' :=
  World.ownsRow.kept h (grown_of_below hb none) (by cases hv : v.ownBlock <;> simp)
theorem DatesAt.al {B : Nat} {v : Value} {xs : List (Int × Int × Int)} {w : World} (h : DatesAt B v xs w) (o : Obj) : DatesAt B v xs (w.alloc o) := h.on ((Below.refl _ _).alloc (Nat.le_refl _) o)
theorem DatesAt.lower {B B' : Nat} {v : Value} {xs : List (Int × Int × Int)} {w : World} (h : DatesAt B v xs w) (hB : B' ≤ B) : DatesAt B' v xs w := by
  refine ⟨h.1, ?_⟩
  rcases h.2 with hn | ⟨g, cap, cur, e, hb, rest⟩
  · exact .inl hn
  · exact .inr ⟨g, cap, cur, e, Nat.le_trans hB hb, rest⟩
theorem DatesAt.app {B : Nat} {v v' : Value} {xs : List (Int × Int × Int)} {y a b : Int} {w w1 w2 : World} {o : Obj} (hv : DatesAt B v xs w1) (hB : Below B w w1) (hs : B ≤ w1.heap.size)
    (hown : w2.ownsRow B 37 3 v' (xs.length + 1) (flat3 xs ++ [.int .i64 y, .int .i64 a, .int .i64 b])) (hg : (w1.alloc o).grownBy w2 v.ownBlock) : DatesAt B v' (xs ++ [(y, a, b)]) w2 ∧ Below B w w2 := by
  refine ⟨?_, (hB.alloc hs _).grown hg (by simp; omega) (fun k e => (World.ownsRow.lt hv k e).1)⟩
  rw [DatesAt, List.length_append, flat3_app]
  exact hown
theorem infoDate : (Tryz.prog.info? 37).map (fun i => (i.zero, i.size, i.bytes)) = some (some (.agg #[.int .i64 0, .int .i64 0, .int .i64 0]), 3, 24) := by kernel_rfl
theorem cell_three_new (w : World) (x y z : Value) (t : TypeId) : ∀ j u, [x, y, z][j]? = some u → (w.alloc (.cells #[x, y, z] t)).cell? ((⟨w.heap.size, 0, none⟩ : Addr).add j) = some u := by
  intro j u h
  rw [show (⟨w.heap.size, 0, none⟩ : Addr).add j = ⟨w.heap.size, j, none⟩ by unfold Addr.add; split <;> simp_all, cell_of_row _ _ j _ _ _ (heap_alloc_new w (.cells #[x, y, z] t))]
  rw [← Array.getElem?_toList]; exact h

/-- What a walk reads of it. -/
theorem flat3_at : ∀ (ps : List (Int × Int × Int)) (i : Nat) (x : Int × Int × Int), ps[i]? = some x → (flat3 ps)[i * 3]? = some (.int .i64 x.1) ∧ (flat3 ps)[i * 3 + 1]? = some (.int .i64 x.2.1) ∧ (flat3 ps)[i * 3 + 2]? = some (.int .i64 x.2.2)
  | [], i, x, h => by simp at h
  | p :: ps, 0, x, h => by
    simp at h; subst h; exact ⟨rfl, rfl, rfl⟩
  | p :: ps, i + 1, x, h => by
    have := flat3_at ps i x (by simpa using h)
    rw [show (i + 1) * 3 = i * 3 + 1 + 1 + 1 by omega]
    simpa [flat3] using this
structure DatesIn (g cap : Nat) (ps : List (Int × Int × Int)) (w : World) : Prop where
  lt : g < w.heap.size
  le : ps.length ≤ cap
  mx : cap ≤ maxLen
  one : ∀ (i : Nat) (x : Int × Int × Int), ps[i]? = some x → w.cell? ⟨g, i * 3, none⟩ = some (.int .i64 x.1)
  two : ∀ (i : Nat) (x : Int × Int × Int), ps[i]? = some x → w.cell? ⟨g, i * 3 + 1, none⟩ = some (.int .i64 x.2.1)
  thr : ∀ (i : Nat) (x : Int × Int × Int), ps[i]? = some x → w.cell? ⟨g, i * 3 + 2, none⟩ = some (.int .i64 x.2.2)
theorem DatesIn.on {g cap : Nat} {ps : List (Int × Int × Int)} {w w' : World} (h : DatesIn g cap ps w) (hb : Below w.heap.size w w') : DatesIn g cap ps w' :=
  ⟨Nat.lt_of_lt_of_le h.lt hb.size, h.le, h.mx, fun i x hi => cell_below (h.one i x hi) hb, fun i x hi => cell_below (h.two i x hi) hb, fun i x hi => cell_below (h.thr i x hi) hb⟩
theorem DatesAt.get {B : Nat} {v : Value} {ps : List (Int × Int × Int)} {w : World} (h : DatesAt B v ps w) : (v = .slice none 0 0 ∧ ps = []) ∨ ∃ g cap, v = .slice (some ⟨g, 0, none⟩) ps.length cap ∧ B ≤ g ∧ DatesIn g cap ps w := by
  rcases h.2 with ⟨rfl, hn⟩ | ⟨g, cap, cur, rfl, hb, hg, hnc, hcm, hcs, htake⟩
  · exact .inl ⟨rfl, List.eq_nil_of_length_eq_zero hn⟩
  · have hadd : ∀ j, (⟨g, 0, none⟩ : Addr).add j = ⟨g, j, none⟩ := fun j => by unfold Addr.add; split <;> simp_all
    refine .inr ⟨g, cap, rfl, hb, (Array.getElem?_eq_some_iff.1 hg).1, hnc, hcm, fun i x hi => ?_, fun i x hi => ?_, fun i x hi => ?_⟩
    · have := World.ownsRow.cells h (g := g) rfl _ _ (flat3_at ps i x hi).1
      rwa [hadd] at this
    · have := World.ownsRow.cells h (g := g) rfl _ _ (flat3_at ps i x hi).2.1
      rwa [hadd] at this
    · have := World.ownsRow.cells h (g := g) rfl _ _ (flat3_at ps i x hi).2.2
      rwa [hadd] at this
theorem dates_succ {y : Int} {ps : List (Int × Int)} {k : Nat} {a b : Int} (h : ps[k]? = some (a, b)) : datesOf y (ps.take (k + 1)) = datesOf y (ps.take k) ++ [(y, a, b)] := by
  rw [datesOf, datesOf, List.take_add_one, h, List.map_append]; rfl
theorem dates_len (y : Int) (ps : List (Int × Int)) : (datesOf y ps).length = ps.length := List.length_map _
theorem dates_at {y : Int} {ps : List (Int × Int)} {k : Nat} {a b : Int} (h : ps[k]? = some (a, b)) : (datesOf y ps)[k]? = some (y, a, b) := by
  rw [datesOf, List.getElem?_map, h]; rfl

def RetTab (ds : List (Int × Int × Int)) (w : World) (e : Ending) (w' : World) : Prop := ∃ v, e = .returned (.tuple #[v, .int .i64 0]) ∧ DatesAt w.heap.size v ds w' ∧ Below w.heap.size w w'
section
variable (c y : Int) (w : World)
end
end Go.Proofs.YtkhicgafhbecfaaGreatDoor

namespace Go.Proofs.YtkhicgafhbecfaaGreatDoor
open Go.RowKit

/-- A table of n dates, opened. -/
def RetTOpen (n : Nat) (ds : List (Int × Int × Int)) (w : World) (e : Ending) (w' : World) : Prop := ∃ g cap, e = .returned (.tuple #[.slice (some ⟨g, 0, none⟩) n cap, .int .i64 0]) ∧ w.heap.size ≤ g ∧ DatesIn g cap ds w' ∧ Below w.heap.size w w'
theorem wf2 : (Lit.int .i64 2).wf = true := by decide
theorem wf1 : (Lit.int .i64 1).wf = true := by decide
theorem wfU (u : Int) : (Lit.int .i64 (1 + u % 2)).wf = true ∧ okC (1 + u % 2) = true := ⟨by rcases (show u % 2 = 0 ∨ u % 2 = 1 by omega) with e | e <;> rw [e] <;> decide, okC_iff.2 (by omega)⟩
/-- Julian: labels by golden numbers. -/
def labG (g : Int) : Int := lbl (ep30 (11 * g - 3)) g
theorem lab_one (y : Int) : lab 1 y = labG (gold y) := rfl
def julB (a b : Nat) : Bool := ((pfM (labG (1 + (a : Int))) == pfM (labG (1 + (b : Int)))) && (pfD (labG (1 + (a : Int))) == pfD (labG (1 + (b : Int))))) == (a == b)
theorem jul_same {g h : Int} (g1 : 1 ≤ g) (g2 : g ≤ 19) (h1 : 1 ≤ h) (h2 : h ≤ 19) : ((pfM (labG g) == pfM (labG h)) && (pfD (labG g) == pfD (labG h))) = (g == h) := by
  have := all_lt 19 _ (all_lt 19 (fun a => (List.range 19).all fun b => julB a b) (by kernel_rfl) (g - 1).toNat (by omega)) (h - 1).toNat (by omega)
  unfold julB at this
  rw [show 1 + (((g - 1).toNat : Nat) : Int) = g by omega, show 1 + (((h - 1).toNat : Nat) : Int) = h by omega] at this
  rw [beq_iff_eq] at this
  rw [this, Bool.eq_iff_iff, beq_iff_eq, beq_iff_eq]
  omega
/-- Tables: the days of a label among the first i. -/
def fnd (m d : Int) (ps : List (Int × Int)) (i : Nat) : Bool := (ps.take i).any fun x => x.1 == m && x.2 == d
theorem fnd_zero (m d : Int) (ps : List (Int × Int)) : fnd m d ps 0 = false := by simp [fnd]
theorem fnd_succ {m d : Int} {ps : List (Int × Int)} {i : Nat} {a b : Int} (h : ps[i]? = some (a, b)) : fnd m d ps (i + 1) = (fnd m d ps i || (a == m && b == d)) := by
  rw [fnd, fnd, List.take_add_one, h, List.any_append]; simp
theorem mem_year {m d : Int} : (m, d) ∈ year ↔ okD m d = true := by
  constructor
  · intro h
    have := List.all_eq_true.1 (show (year.all fun x => okD x.1 x.2) = true by kernel_rfl) _ h
    exact this
  · intro h
    obtain ⟨m1, m2, d1, d2⟩ := okD_bd h
    have := all_md (fun m d => !okD m d || year.contains (m, d)) (by kernel_rfl) m d m1 m2 d1 d2
    rw [h] at this
    simpa using this
theorem bears_okD {m d l : Int} (h : bears m d l = true) : okD m d = true := by
  cases g : okD m d
  · rw [bears, onD_no g] at h; simp at h
  · rfl
theorem fnd_all (m d l : Int) : fnd m d (days l) (days l).length = bears m d l := by
  rw [fnd, List.take_length, Bool.eq_iff_iff, List.any_eq_true]
  constructor
  · rintro ⟨⟨a, b⟩, hx, he⟩
    simp at he
    obtain ⟨rfl, rfl⟩ := he
    rw [days, sel, List.mem_filter] at hx
    exact hx.2
  · intro h
    exact ⟨(m, d), by rw [days, sel, List.mem_filter]; exact ⟨mem_year.2 (bears_okD h), h⟩, by simp⟩
theorem dim_lp (l : Bool) (m : Int) : dim false m ≤ dim l m := by
  have := l01_bd l
  have z : l01 false = 0 := rfl
  unfold dim; split
  · omega
  · exact Int.le_refl _
theorem okD_vld {C : Cal} {y m d : Int} (y1 : 1 ≤ y) (y2 : y ≤ 1000000000) (h : okD m d = true) : C.vld y m d = true := by
  rw [okD_iff] at h
  have := dim_lp (C.lp y) m
  exact C.vld_iff.2 ⟨y1, y2, by omega, by omega⟩
/-- A day that bears a label is a date of every year. -/
theorem nm_found {c y m d : Int} (h : epE c y = 0) : nmB c y m d = bears m d (lab c y) := by
  cases hb : bears m d (lab c y)
  · unfold nmB; rw [hb, Bool.and_false]
  · obtain ⟨y1, y2⟩ := epE_inY h
    obtain ⟨a, _⟩ := tE_at (epE_okC h) (okD_vld (C := calOf c) y1 y2 (bears_okD hb))
    rw [(nmE_ok c y m d h a).2, hb]
/-- The days of a label follow each other. -/
def folB (l : Int) (i : Nat) : Bool :=
  let x := (days l).getD i (0, 0); let z := (days l).getD (i + 1) (0, 0)
  !decide (i + 1 < (days l).length) || (Cal.less 1 x.1 x.2 1 z.1 z.2 && okD x.1 x.2 && okD z.1 z.2 && decide (29 ≤ doy z.1 z.2 - doy x.1 x.2) && decide (doy z.1 z.2 - doy x.1 x.2 ≤ 30))
theorem fol_at {l : Int} (l1 : 1 ≤ l) (l2 : l ≤ 31) {i : Nat} {a b p q : Int} (h : (days l)[i]? = some (a, b)) (h2 : (days l)[i + 1]? = some (p, q)) (y : Int) :
    Cal.less y a b y p q = true ∧ okD a b = true ∧ okD p q = true ∧ 29 ≤ doy p q - doy a b ∧ doy p q - doy a b ≤ 30 := by
  have hn := days_lens l1 l2
  have hi : i + 1 < (days l).length := by
    rcases Nat.lt_or_ge (i + 1) (days l).length with k | k
    · exact k
    · rw [List.getElem?_eq_none k] at h2; cases h2
  have := all_lt 13 _ (all_l (fun l => (List.range 13).all fun i => folB l i) (by kernel_rfl) l l1 l2) i (by omega)
  unfold folB at this
  rw [List.getD_eq_getElem?_getD, List.getD_eq_getElem?_getD, h, h2] at this
  simp only [hi, decide_true, Bool.not_true, Bool.false_or, Bool.and_eq_true, decide_eq_true_eq, Option.getD_some] at this
  obtain ⟨⟨⟨⟨c1, c2⟩, c3⟩, c4⟩, c5⟩ := this
  refine ⟨?_, c2, c3, c4, c5⟩
  unfold Cal.less at c1 ⊢
  rw [decide_eq_true_iff] at c1 ⊢
  omega
theorem day_at {l : Int} {i : Nat} (h : i < (days l).length) : ∃ a b : Int, (days l)[i]? = some (a, b) := ⟨_, _, List.getElem?_eq_getElem h⟩
theorem cum_lp (l : Bool) (m : Int) : cum l m = cum false m + (if m ≤ 2 then 0 else l01 l) := by
  unfold cum; split
  · omega
  · simp [l01]
end Go.Proofs.YtkhicgafhbecfaaGreatDoor
