/- What earlier stages proved: Qa Qb Qc Qd Qe Qf. -/
import Derived.Test.YtkhicgafhbecfaaGreatDoorKl
import Derived.Test.YtkhicgafhbecfaaGreatDoorKs
import Derived.Test.YtkhicgafhbecfaaGreatDoorKw
import Derived.Test.YtkhicgafhbecfaaGreatDoorKt
import Derived.LoopTactic
import Derived.Deep.RegionHeld3
import Derived.OpenShut
import Derived.Test.YtkhicgafhbecfaaGreatDoorKq
namespace Go.Proofs.YtkhicgafhbecfaaGreatDoor

/-- The bounds of the kind Nth, for the day n of a common year. -/
def nthB (n c : Int) : Bool := if 1 ≤ c ∧ c ≤ 8 then decide (n + 6 + 7 * (c - 1) ≤ 365) else if -8 ≤ c ∧ c ≤ -1 then decide (1 ≤ n - 6 - 7 * (-c - 1)) else false
/-- Is the anchor (Kind, Month, Day, Offset, Weekday, Count) well-formed? -/
def wfA (k m d o w c : Int) : Bool :=
  if k = 2 then decide (m = 0) && (decide (d = 0) && (decide (w = 0) && (decide (c = 0) && (decide (-80 ≤ o) && decide (o ≤ 250)))))
  else if okD m d = true ∧ o = 0 then (if k = 1 then decide (w = 0) && decide (c = 0) else if k = 3 then inW w && nthB (doy m d) c else false)
  else false
theorem wfA_fixed {m d o w c : Int} : wfA 1 m d o w c = true ↔ okD m d = true ∧ o = 0 ∧ w = 0 ∧ c = 0 := by
  unfold wfA
  rw [if_neg (by decide)]
  by_cases h : okD m d = true ∧ o = 0
  · rw [if_pos h, if_pos rfl, Bool.and_eq_true, decide_eq_true_iff, decide_eq_true_iff]
    exact ⟨fun g => ⟨h.1, h.2, g.1, g.2⟩, fun g => ⟨g.2.2.1, g.2.2.2⟩⟩
  · rw [if_neg h]
    exact ⟨fun g => (by cases g), fun g => absurd ⟨g.1, g.2.1⟩ h⟩
theorem wfA_pas {m d o w c : Int} : wfA 2 m d o w c = true ↔ m = 0 ∧ d = 0 ∧ w = 0 ∧ c = 0 ∧ -80 ≤ o ∧ o ≤ 250 := by
  unfold wfA; rw [if_pos rfl]; simp
theorem wfA_nth {m d o w c : Int} : wfA 3 m d o w c = true ↔ okD m d = true ∧ o = 0 ∧ inW w = true ∧ nthB (doy m d) c = true := by
  unfold wfA
  rw [if_neg (by decide)]
  by_cases h : okD m d = true ∧ o = 0
  · rw [if_pos h, if_neg (by decide), if_pos rfl, Bool.and_eq_true]
    exact ⟨fun g => ⟨h.1, h.2, g.1, g.2⟩, fun g => ⟨g.2.2.1, g.2.2.2⟩⟩
  · rw [if_neg h]
    exact ⟨fun g => (by cases g), fun g => absurd ⟨g.1, g.2.1⟩ h⟩
theorem wfA_kind {k m d o w c : Int} (h : wfA k m d o w c = true) : k = 1 ∨ k = 2 ∨ k = 3 := by
  unfold wfA at h
  split at h
  · exact .inr (.inl ‹_›)
  · split at h
    · split at h
      · exact .inl ‹_›
      · split at h
        · exact .inr (.inr ‹_›)
        · cases h
    · cases h
theorem nthB_iff {n c : Int} : nthB n c = true ↔ (1 ≤ c ∧ c ≤ 8 ∧ n + 6 + 7 * (c - 1) ≤ 365) ∨ (-8 ≤ c ∧ c ≤ -1 ∧ 1 ≤ n - 6 - 7 * (-c - 1)) := by
  unfold nthB
  split
  · rw [decide_eq_true_iff]; omega
  · split
    · rw [decide_eq_true_iff]; omega
    · exact ⟨fun g => (by cases g), fun g => by omega⟩

/-- The error of an anchor and a year; the day of a well-formed one; what Day and Date answer. -/
def anE (k m d o w c y : Int) : Int := if wfA k m d o w c = true then (if inG y = true then 0 else 1) else 3
def anD (k m d o w c y : Int) : Int := if k = 2 then eaN 2 y + o else if k = 3 then nth (greg.num y m d) w c else greg.num y m d
def anN (k m d o w c y : Int) : Int := if anE k m d o w c y = 0 then anD k m d o w c y else 0
noncomputable def anY (k m d o w c y : Int) : Int := if anE k m d o w c y = 0 then fY 2 (anD k m d o w c y) else 0
noncomputable def anM (k m d o w c y : Int) : Int := if anE k m d o w c y = 0 then fM 2 (anD k m d o w c y) else 0
noncomputable def anX (k m d o w c y : Int) : Int := if anE k m d o w c y = 0 then fD 2 (anD k m d o w c y) else 0
theorem anE_zero {k m d o w c y : Int} (h : anE k m d o w c y = 0) : wfA k m d o w c = true ∧ inG y = true := by
  unfold anE at h
  split at h
  · split at h
    · exact ⟨‹_›, ‹_›⟩
    · omega
  · omega
theorem anE_ok {k m d o w c y : Int} (h : wfA k m d o w c = true) (g : inG y = true) : anE k m d o w c y = 0 := by unfold anE; rw [if_pos h, if_pos g]
theorem anE_year {k m d o w c y : Int} (h : wfA k m d o w c = true) (g : inG y = false) : anE k m d o w c y = 1 := by unfold anE; rw [if_pos h, g, if_neg (by decide)]
theorem anE_arg {k m d o w c : Int} (y : Int) (h : wfA k m d o w c = false) : anE k m d o w c y = 3 := by unfold anE; rw [h, if_neg (by decide)]
theorem an_ok {k m d o w c y : Int} (h : anE k m d o w c y = 0) : anN k m d o w c y = anD k m d o w c y ∧ anY k m d o w c y = fY 2 (anD k m d o w c y) ∧ anM k m d o w c y = fM 2 (anD k m d o w c y) ∧ anX k m d o w c y = fD 2 (anD k m d o w c y) := by
  unfold anN anY anM anX; rw [if_pos h, if_pos h, if_pos h, if_pos h]; exact ⟨rfl, rfl, rfl, rfl⟩
theorem an_bad {k m d o w c y : Int} (h : anE k m d o w c y ≠ 0) : anN k m d o w c y = 0 ∧ anY k m d o w c y = 0 ∧ anM k m d o w c y = 0 ∧ anX k m d o w c y = 0 := by
  unfold anN anY anM anX; rw [if_neg h, if_neg h, if_neg h, if_neg h]; exact ⟨rfl, rfl, rfl, rfl⟩
theorem anE_cases (k m d o w c y : Int) : anE k m d o w c y = 0 ∨ anE k m d o w c y = 1 ∨ anE k m d o w c y = 3 := by
  unfold anE; split
  · split
    · exact .inl rfl
    · exact .inr (.inl rfl)
  · exact .inr (.inr rfl)

/-- A month and day of a common year in any year. -/
theorem anD_vld {y m d : Int} (g : inG y = true) (h : okD m d = true) : greg.vld y m d = true := by
  have b := okD_iff.1 h
  have i := inG_iff.1 g
  have l := l01_bd (greg.lp y)
  refine greg.vld_iff.2 ⟨by omega, by omega, b.1, ?_⟩
  have e := dim_lp (greg.lp y) m
  omega
theorem num_doy {y m d : Int} (h : okD m d = true) : greg.fst y + doy m d - 1 ≤ greg.num y m d ∧ greg.num y m d ≤ greg.fst y + doy m d - 1 + l01 (greg.lp y) := by
  have b := okD_bd h
  have l := l01_bd (greg.lp y)
  unfold Cal.num doy cum
  have e : l01 false = 0 := rfl
  split <;> omega
theorem mar_doy (y : Int) : marN 2 y = greg.fst y + 79 + l01 (greg.lp y) := by
  show greg.num y 3 21 = _
  unfold Cal.num cum
  rw [if_neg (by decide)]; omega
theorem nth_bd {n w c : Int} : (0 < c → n + 7 * (c - 1) ≤ nth n w c ∧ nth n w c ≤ n + 6 + 7 * (c - 1)) ∧ (c < 0 → n - 6 + 7 * (c + 1) ≤ nth n w c ∧ nth n w c ≤ n + 7 * (c + 1)) := by
  refine ⟨fun h => ?_, fun h => ?_⟩
  · rw [nth_pos h]; have := aft_bd (n := n) (w := w); omega
  · rw [nth_neg h]; have := bef_bd (n := n) (w := w); omega
/-- The day lies in the year. -/
theorem an_in {k m d o w c y : Int} (h : anE k m d o w c y = 0) : greg.fst y ≤ anD k m d o w c y ∧ anD k m d o w c y < greg.fst (y + 1) := by
  obtain ⟨hw, g⟩ := anE_zero h
  have i := inG_iff.1 g
  have st := greg.step y (by omega)
  have l := l01_bd (greg.lp y)
  rw [st]
  rcases wfA_kind hw with rfl | rfl | rfl
  · obtain ⟨hd, rfl, rfl, rfl⟩ := wfA_fixed.1 hw
    have b := greg.num_bd (anD_vld g hd)
    rw [st] at b
    unfold anD; rw [if_neg (by decide), if_neg (by decide)]; exact b
  · obtain ⟨rfl, rfl, rfl, rfl, o1, o2⟩ := wfA_pas.1 hw
    unfold anD; rw [if_pos rfl]
    have e := eaO_bd 2 y
    have f := mar_doy y
    unfold eaN; omega
  · obtain ⟨hd, rfl, hw2, hc⟩ := wfA_nth.1 hw
    unfold anD; rw [if_neg (by decide), if_pos rfl]
    have a := num_doy (y := y) hd
    have b := nth_bd (n := greg.num y m d) (w := w) (c := c)
    have dd := doy_bd hd
    rcases nthB_iff.1 hc with ⟨c1, c2, c3⟩ | ⟨c1, c2, c3⟩
    · have := b.1 (by omega); omega
    · have := b.2 (by omega); omega
/-- It has a date, in the year. -/
theorem an_date {k m d o w c y : Int} (h : anE k m d o w c y = 0) : InD greg (anD k m d o w c y) ∧ fE 2 (anD k m d o w c y) = 0 := by
  have a := an_in h
  have i := inG_iff.1 (anE_zero h).2
  have e1 := greg.fst_mono 1 y (by omega) (by omega)
  have e2 := greg.fst_mono (y + 1) 1000000001 (by omega) (by omega)
  have hI : InD greg (anD k m d o w c y) := ⟨by omega, by omega⟩
  refine ⟨hI, ?_⟩
  unfold fE; rw [if_pos (by decide : okC 2 = true), calOf2, if_pos hI]
theorem an_bd {k m d o w c y : Int} (h : anE k m d o w c y = 0) : 1 ≤ anD k m d o w c y ∧ anD k m d o w c y ≤ 365249999998 := by
  have a := an_in h
  have i := inG_iff.1 (anE_zero h).2
  have e1 := greg.fst_mono 1 y (by omega) (by omega)
  have b := InD_bd (c := 2) (an_date h).1
  have e3 : greg.fst 1 = 1 := by decide
  omega
/-- An anchor of the kind Nth has the given day of the week. -/
theorem nth_mod {n w c : Int} (hw : inW w = true) (hc : c ≠ 0) : nth n w c % 7 = w := by
  have b := inW_iff.1 hw
  rcases Int.lt_trichotomy c 0 with l | l | l
  · rw [nth_neg l]; have := bef_mod (n := n) b.1 b.2; omega
  · exact absurd l hc
  · rw [nth_pos l]; have := aft_mod (n := n) b.1 b.2; omega
theorem nthB_ne {n c : Int} (h : nthB n c = true) : c ≠ 0 ∧ cOk c = true := by
  have := nthB_iff.1 h
  refine ⟨by omega, cOk_iff.2 ⟨by omega, by omega, by omega⟩⟩
/-- The next day, and the next such day of the week on or after it. -/
theorem aft_next (n w : Int) : (n < aft n w ∧ aft (n + 1) w = aft n w) ∨ (aft n w = n ∧ aft (n + 1) w = aft n w + 7) := by unfold aft; omega
theorem num_next (y m d : Int) : greg.num y m (d + 1) = greg.num y m d + 1 := by unfold Cal.num; omega
theorem okD_next {m d : Int} (h : okD m d = true) (h2 : d ≤ 27) : okD m (d + 1) = true := by
  have b := okD_iff.1 h
  have m1 := okD_bd h
  have e := dim_bd false m m1.1 m1.2.1
  exact okD_iff.2 ⟨by omega, by omega⟩
theorem nthB_one {m d : Int} (h : okD m d = true) (h2 : d ≤ 28) (h3 : ¬ (m = 12 ∧ 21 < d)) : nthB (doy m d) 1 = true := by
  have b := okD_bd h
  refine nthB_iff.2 (.inl ⟨by decide, by decide, ?_⟩)
  unfold doy cum
  have e : l01 false = 0 := rfl
  split <;> omega
end Go.Proofs.YtkhicgafhbecfaaGreatDoor

namespace Go.Proofs.YtkhicgafhbecfaaGreatDoor
open Go.RowKit

abbrev ancv (k m d o w c : Int) : Value := .agg #[.int .i64 k, .int .i64 m, .int .i64 d, .int .i64 o, .int .i64 w, .int .i64 c]
theorem ret_i16 {a b : Int} (h : a = b) : Ending.returned (.int .i64 a) = .returned (.int .i64 b) := by rw [h]
section
variable (k m d o w c y : Int) (W : World)
abbrev AnO (W : World) (o : Int) (u : World) : Prop := u.cell? ⟨W.heap.size, 3, none⟩ = some (.int .i64 o) ∧ PT u ∧ Below W.heap.size W u
theorem AnO.on {W : World} {o : Int} {u u' : World} (h : AnO W o u) (hb : Below u.heap.size u u') : AnO W o u' := by
  have hz := World.block_lt_of_cell? u _ h.1
  exact ⟨by rw [(bcell hb).1 _ _ hz]; exact h.1, h.2.1.on hb, below_on h.2.2 hb⟩
end
end Go.Proofs.YtkhicgafhbecfaaGreatDoor

namespace Go.Proofs.YtkhicgafhbecfaaGreatDoor
open Go.RowKit

abbrev W1 (x : Int) : Prop := -9223372036854775808 ≤ x ∧ x ≤ 9223372036854775807
/-- The six fields of an anchor are 64-bit integers. -/
structure W6 (k m d o w c : Int) : Prop where
  k : W1 k
  m : W1 m
  d : W1 d
  o : W1 o
  w : W1 w
  c : W1 c
abbrev AnC (W : World) (b : Nat) (k m d o w c : Int) (u : World) : Prop := u.cell? ⟨b, 0, none⟩ = some (.int .i64 k) ∧ u.cell? ⟨b, 1, none⟩ = some (.int .i64 m) ∧ u.cell? ⟨b, 2, none⟩ = some (.int .i64 d) ∧ u.cell? ⟨b, 3, none⟩ = some (.int .i64 o) ∧ u.cell? ⟨b, 4, none⟩ = some (.int .i64 w) ∧ u.cell? ⟨b, 5, none⟩ = some (.int .i64 c) ∧ PT u ∧ Below W.heap.size W u
theorem AnC.on {W u u' : World} {b : Nat} {k m d o w c : Int} (h : AnC W b k m d o w c u) (hb : Below u.heap.size u u') : AnC W b k m d o w c u' := by
  have hz := World.block_lt_of_cell? u _ h.1
  have e := (bcell hb).1
  exact ⟨by rw [e _ _ hz]; exact h.1, by rw [e _ _ hz]; exact h.2.1, by rw [e _ _ hz]; exact h.2.2.1, by rw [e _ _ hz]; exact h.2.2.2.1, by rw [e _ _ hz]; exact h.2.2.2.2.1, by rw [e _ _ hz]; exact h.2.2.2.2.2.1, h.2.2.2.2.2.2.1.on hb, below_on h.2.2.2.2.2.2.2 hb⟩
/-- A day of an anchor whose date is given. -/
theorem an_at {k m d o w c y a b f : Int} (h : anE k m d o w c y = 0) (hv : greg.vld a b f = true) (hn : greg.num a b f = anD k m d o w c y) : anY k m d o w c y = a ∧ anM k m d o w c y = b ∧ anX k m d o w c y = f := by
  obtain ⟨_, e2, e3, e4⟩ := an_ok h
  obtain ⟨_, f2, f3, f4⟩ := fE_at (c := 2) (by decide) hv hn
  rw [e2, e3, e4]; exact ⟨f2, f3, f4⟩
theorem wf6 {k m d o w c : Int} (a : W1 k) (b : W1 m) (e : W1 d) (f : W1 o) (g : W1 w) (h : W1 c) : W6 k m d o w c := ⟨a, b, e, f, g, h⟩
end Go.Proofs.YtkhicgafhbecfaaGreatDoor

namespace Go.Proofs.YtkhicgafhbecfaaGreatDoor
open Go.RowKit

theorem row_new2 (w : World) (a b c : Obj) : (((w.alloc a).alloc b).alloc c).heap[w.heap.size + 2]? = some c := by
  have h := heap_alloc_new ((w.alloc a).alloc b) c
  rwa [show ((w.alloc a).alloc b).heap.size = w.heap.size + 2 from by simp] at h
theorem row_new3 (w : World) (a b c d : Obj) : ((((w.alloc a).alloc b).alloc c).alloc d).heap[w.heap.size + 3]? = some d := by
  have h := heap_alloc_new (((w.alloc a).alloc b).alloc c) d
  rwa [show (((w.alloc a).alloc b).alloc c).heap.size = w.heap.size + 3 from by simp] at h
theorem eqs_date (y m d : Int) (w : World) : (binOp .eql 37 (dtv y m d) (dtv y m d)).run Tryz.prog w = .ok (.bool true) w := by simp [go_sem]
theorem anE_ne {k m d o w c y : Int} (h : anE k m d o w c y ≠ 0) : (anE k m d o w c y != 0) = true := bne_iff_ne.2 h
end Go.Proofs.YtkhicgafhbecfaaGreatDoor

namespace Go.Proofs.YtkhicgafhbecfaaGreatDoor
open Go.RowKit

abbrev fxv (m d : Int) : Value := .agg #[.int .i64 m, .int .i64 d]
abbrev psv (o : Int) : Value := .agg #[.int .i64 o]
abbrev nhv (m d w c : Int) : Value := .agg #[.int .i64 m, .int .i64 d, .int .i64 w, .int .i64 c]
theorem row4 {w : World} {b t : Nat} {a0 a1 a2 a3 : Value} (h : w.heap[b]? = some (.cells #[a0, a1, a2, a3] t (0, 0))) :
    w.cell? ⟨b, 0, none⟩ = some a0 ∧ w.cell? ⟨b, 1, none⟩ = some a1 ∧ w.cell? ⟨b, 2, none⟩ = some a2 ∧ w.cell? ⟨b, 3, none⟩ = some a3 ∧ b < w.heap.size := by
  have h0 : w.cell? ⟨b, 0, none⟩ = some a0 := by rw [cell_of_row w b 0 _ _ _ h]; rfl
  exact ⟨h0, by rw [cell_of_row w b 1 _ _ _ h]; rfl, by rw [cell_of_row w b 2 _ _ _ h]; rfl, by rw [cell_of_row w b 3 _ _ _ h]; rfl, World.block_lt_of_cell? w _ h0⟩
section
variable (k m d o w c y : Int) (W : World)
theorem okD_one : greg.vld 1 m d = okD m d := by
  rw [Bool.eq_iff_iff, greg.vld_iff, okD_iff, show greg.lp 1 = false by decide]; omega
theorem num_one : greg.num 1 m d = doy m d := by unfold Cal.num doy; rw [show greg.lp 1 = false by decide, show greg.fst 1 = 1 by decide]; omega
end
end Go.Proofs.YtkhicgafhbecfaaGreatDoor

namespace Go.Proofs.YtkhicgafhbecfaaGreatDoor
open Go.RowKit

section
variable (k m d o w c y : Int) (W : World)
theorem num_in (g : inG y = true) (h : okD m d = true) : 0 ≤ greg.num y m d ∧ greg.num y m d ≤ 365249999998 := by
  have := greg.num_range (anD_vld g h)
  have a : greg.fst 1 = 1 := by decide
  have b : greg.fst 1000000001 = 365242500001 := by decide
  omega
end
end Go.Proofs.YtkhicgafhbecfaaGreatDoor
