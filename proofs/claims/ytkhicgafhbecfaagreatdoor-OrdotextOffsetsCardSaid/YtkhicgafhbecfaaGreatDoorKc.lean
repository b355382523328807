/- What earlier stages proved: Cv Ch Ci Ck. -/
import Derived.Test.YtkhicgafhbecfaaGreatDoorKj
import Derived.Test.YtkhicgafhbecfaaGreatDoorKg
import Derived.Deep.RegionWith
import Derived.Test.YtkhicgafhbecfaaGreatDoorKa
namespace Go.Proofs.YtkhicgafhbecfaaGreatDoor

def dE (C : Cal) (y m d : Int) : Int := if inY y = true then (if C.vld y m d = true then 0 else 2) else 1
def dN (C : Cal) (y m d : Int) : Int := if C.vld y m d = true then C.num y m d else 0
def InD (C : Cal) (n : Int) : Prop := C.fst 1 ≤ n ∧ n < C.fst 1000000001
instance (C : Cal) (n : Int) : Decidable (InD C n) := inferInstanceAs (Decidable (_ ∧ _))
theorem dt_ex (C : Cal) (n : Int) (h : InD C n) : ∃ p : Int × Int × Int, C.vld p.1 p.2.1 p.2.2 = true ∧ C.num p.1 p.2.1 p.2.2 = n := by
  obtain ⟨y, m, d, h1, h2⟩ := C.date_exists n h.1 h.2
  exact ⟨(y, m, d), h1, h2⟩
noncomputable def dt (C : Cal) (n : Int) : Int × Int × Int := if h : InD C n then Classical.choose (dt_ex C n h) else (0, 0, 0)
theorem dt_in {C : Cal} {n : Int} (h : InD C n) : C.vld (dt C n).1 (dt C n).2.1 (dt C n).2.2 = true ∧ C.num (dt C n).1 (dt C n).2.1 (dt C n).2.2 = n := by
  unfold dt; rw [dif_pos h]; exact Classical.choose_spec (dt_ex C n h)
theorem dt_out {C : Cal} {n : Int} (h : ¬ InD C n) : dt C n = (0, 0, 0) := by unfold dt; rw [dif_neg h]
theorem dt_at {C : Cal} {n y m d : Int} (hv : C.vld y m d = true) (hn : C.num y m d = n) : dt C n = (y, m, d) ∧ InD C n := by
  have hi : InD C n := by have := C.num_range hv; rw [hn] at this; exact this
  obtain ⟨h1, h2⟩ := dt_in hi
  obtain ⟨a, b, c⟩ := C.num_inj h1 hv (h2.trans hn.symm)
  exact ⟨by rw [show dt C n = ((dt C n).1, (dt C n).2.1, (dt C n).2.2) from rfl, a, b, c], hi⟩
theorem dE_at {C : Cal} {y m d : Int} (h : C.vld y m d = true) : dE C y m d = 0 ∧ dN C y m d = C.num y m d := by
  have := C.vld_iff.1 h
  unfold dE dN; rw [if_pos (inY_iff.2 ⟨this.1, this.2.1⟩), if_pos h, if_pos h]; exact ⟨rfl, rfl⟩
theorem dE_zero {C : Cal} {y m d : Int} (h : dE C y m d = 0) : C.vld y m d = true := by
  unfold dE at h; split at h
  · split at h
    · assumption
    · cases h
  · cases h
theorem dE_bad {C : Cal} {y m d : Int} (h1 : inY y = true) (h : C.vld y m d = false) : dE C y m d = 2 ∧ dN C y m d = 0 := by
  unfold dE dN; rw [if_pos h1, h]; exact ⟨rfl, rfl⟩
theorem dE_out {C : Cal} {y m d : Int} (h1 : inY y = false) : dE C y m d = 1 ∧ dN C y m d = 0 := by
  have hv : C.vld y m d = false := by
    cases g : C.vld y m d with
    | false => rfl
    | true =>
      have := C.vld_iff.1 g
      rw [inY_iff.2 ⟨this.1, this.2.1⟩] at h1; cases h1
  unfold dE dN; rw [h1, hv]; exact ⟨rfl, rfl⟩

def okC (c : Int) : Bool := decide (c = 1) || decide (c = 2)
theorem okC_iff {c : Int} : okC c = true ↔ c = 1 ∨ c = 2 := by simp [okC]
theorem okC_not {c : Int} (h1 : ¬ c = 1) (h2 : ¬ c = 2) : okC c = false := by simp [okC, h1, h2]
def calOf (c : Int) : Cal := if c = 1 then jul else greg
theorem calOf1 : calOf 1 = jul := rfl
theorem calOf2 : calOf 2 = greg := rfl

def tE (c y m d : Int) : Int := if okC c = true then dE (calOf c) y m d else 3
def tN (c y m d : Int) : Int := if okC c = true then dN (calOf c) y m d else 0
def fE (c n : Int) : Int := if okC c = true then (if InD (calOf c) n then 0 else 1) else 3
noncomputable def fY (c n : Int) : Int := if okC c = true then (dt (calOf c) n).1 else 0
noncomputable def fM (c n : Int) : Int := if okC c = true then (dt (calOf c) n).2.1 else 0
noncomputable def fD (c n : Int) : Int := if okC c = true then (dt (calOf c) n).2.2 else 0
def vE (y m d a b : Int) : Int := if okC b = true then (if tE a y m d = 0 then fE b (tN a y m d) else tE a y m d) else 3
noncomputable def vY (y m d a b : Int) : Int := if vE y m d a b = 0 then fY b (tN a y m d) else 0
noncomputable def vM (y m d a b : Int) : Int := if vE y m d a b = 0 then fM b (tN a y m d) else 0
noncomputable def vD (y m d a b : Int) : Int := if vE y m d a b = 0 then fD b (tN a y m d) else 0
def oN (c y m d : Int) : Int := if tE c y m d = 0 then cum ((calOf c).lp y) m + d else 0
def yE (c y : Int) : Int := if okC c = true then (if inY y = true then 0 else 1) else 3
def yN (c y : Int) : Int := if yE c y = 0 then 365 + l01 ((calOf c).lp y) else 0
def xE (c y k : Int) : Int := if yE c y = 0 then (if 1 ≤ k ∧ k ≤ yN c y then 0 else 2) else yE c y
noncomputable def xY (c y k : Int) : Int := if xE c y k = 0 then fY c ((calOf c).fst y + k - 1) else 0
noncomputable def xM (c y k : Int) : Int := if xE c y k = 0 then fM c ((calOf c).fst y + k - 1) else 0
noncomputable def xD (c y k : Int) : Int := if xE c y k = 0 then fD c ((calOf c).fst y + k - 1) else 0
def sE (c y m d k : Int) : Int := if tE c y m d = 0 then fE c (tN c y m d + k) else tE c y m d
noncomputable def sY (c y m d k : Int) : Int := if sE c y m d k = 0 then fY c (tN c y m d + k) else 0
noncomputable def sM (c y m d k : Int) : Int := if sE c y m d k = 0 then fM c (tN c y m d + k) else 0
noncomputable def sD (c y m d k : Int) : Int := if sE c y m d k = 0 then fD c (tN c y m d + k) else 0
def wN (c y m d : Int) : Int := if tE c y m d = 0 then tN c y m d % 7 else 0

theorem tE_zero {c y m d : Int} (h : tE c y m d = 0) : okC c = true ∧ (calOf c).vld y m d = true ∧ tN c y m d = (calOf c).num y m d := by
  unfold tE at h; split at h
  · rename_i g
    have hv := dE_zero h
    exact ⟨g, hv, by unfold tN; rw [if_pos g, (dE_at hv).2]⟩
  · cases h
theorem tE_at {c y m d : Int} (hc : okC c = true) (hv : (calOf c).vld y m d = true) : tE c y m d = 0 ∧ tN c y m d = (calOf c).num y m d := by
  unfold tE tN; rw [if_pos hc, if_pos hc]; exact dE_at hv
theorem tE_no {c : Int} (y m d : Int) (hc : okC c = false) : tE c y m d = 3 ∧ tN c y m d = 0 := by unfold tE tN; rw [hc]; exact ⟨rfl, rfl⟩
theorem tN_no {c y m d : Int} (h : ¬ tE c y m d = 0) : tN c y m d = 0 := by
  unfold tE at h; unfold tN; split
  · rename_i g
    rw [if_pos g] at h
    unfold dN; split
    · rename_i hv; exact absurd (dE_at hv).1 h
    · rfl
  · rfl
theorem fE_zero {c n : Int} (h : fE c n = 0) : okC c = true ∧ InD (calOf c) n := by
  unfold fE at h; split at h
  · rename_i g
    split at h
    · rename_i g2; exact ⟨g, g2⟩
    · cases h
  · cases h
theorem fE_in {c n : Int} (h : fE c n = 0) : (calOf c).vld (fY c n) (fM c n) (fD c n) = true ∧ (calOf c).num (fY c n) (fM c n) (fD c n) = n := by
  obtain ⟨a, b⟩ := fE_zero h
  unfold fY fM fD; rw [if_pos a, if_pos a, if_pos a]; exact dt_in b
theorem fE_at {c y m d n : Int} (hc : okC c = true) (hv : (calOf c).vld y m d = true) (hn : (calOf c).num y m d = n) : fE c n = 0 ∧ fY c n = y ∧ fM c n = m ∧ fD c n = d := by
  obtain ⟨a, b⟩ := dt_at hv hn
  unfold fE fY fM fD; rw [if_pos hc, if_pos hc, if_pos hc, if_pos hc, if_pos b, a]; exact ⟨rfl, rfl, rfl, rfl⟩
theorem fE_no {c n : Int} (h : ¬ fE c n = 0) : fY c n = 0 ∧ fM c n = 0 ∧ fD c n = 0 := by
  unfold fE at h; unfold fY fM fD; split
  · rename_i g
    rw [if_pos g] at h
    have : ¬ InD (calOf c) n := fun g2 => h (by rw [if_pos g2])
    rw [dt_out this]; exact ⟨rfl, rfl, rfl⟩
  · exact ⟨rfl, rfl, rfl⟩
theorem f_bad {c : Int} (n : Int) (hc : okC c = false) : fY c n = 0 ∧ fM c n = 0 ∧ fD c n = 0 ∧ fE c n = 3 := by unfold fY fM fD fE; rw [hc]; exact ⟨rfl, rfl, rfl, rfl⟩
theorem fst_ends (c : Int) : -1 ≤ (calOf c).fst 1 ∧ (calOf c).fst 1 ≤ 1 ∧ 365242500001 ≤ (calOf c).fst 1000000001 ∧ (calOf c).fst 1000000001 ≤ 365249999999 := by
  unfold calOf; split
  · exact ⟨by decide, by decide, by decide, by decide⟩
  · exact ⟨by decide, by decide, by decide, by decide⟩
theorem tN_bd (c y m d : Int) : -1 ≤ tN c y m d ∧ tN c y m d ≤ 365249999998 := by
  by_cases h : tE c y m d = 0
  · obtain ⟨_, hv, e⟩ := tE_zero h
    have := (calOf c).num_range hv
    have := fst_ends c
    rw [e]; omega
  · rw [tN_no h]; omega
theorem InD_bd {c n : Int} (h : InD (calOf c) n) : -1 ≤ n ∧ n ≤ 365249999998 := by
  have := fst_ends c
  obtain ⟨a, b⟩ := h
  omega
/-- Where no date is, it does not matter by which number. -/
theorem f_far {c n n' : Int} (h : ¬ (-1 ≤ n ∧ n ≤ 365249999998)) (h' : ¬ (-1 ≤ n' ∧ n' ≤ 365249999998)) : fE c n = fE c n' ∧ fY c n = fY c n' ∧ fM c n = fM c n' ∧ fD c n = fD c n' := by
  have a : ¬ InD (calOf c) n := fun g => h (InD_bd g)
  have a' : ¬ InD (calOf c) n' := fun g => h' (InD_bd g)
  unfold fE fY fM fD; rw [if_neg a, if_neg a', dt_out a, dt_out a']; exact ⟨rfl, rfl, rfl, rfl⟩
end Go.Proofs.YtkhicgafhbecfaaGreatDoor

namespace Go.Proofs.YtkhicgafhbecfaaGreatDoor
open Go.RowKit

structure CTab (w : World) : Prop where
  j : Tab w
  g : GTab w
theorem CTab.on {w w' : World} (h : CTab w) (hb : Below w.heap.size w w') : CTab w' := ⟨h.j.on hb, h.g.on hb⟩
theorem CTab.al {w : World} (h : CTab w) (o : Obj) : CTab (w.alloc o) := ⟨h.j.al o, h.g.al o⟩

abbrev dtv (y m d : Int) : Value := .agg #[.int .i64 y, .int .i64 m, .int .i64 d]
abbrev numv (n e : Int) : Value := .tuple #[.int .i64 n, .int .i64 e]
abbrev datv (y m d e : Int) : Value := .tuple #[.agg #[.int .i64 y, .int .i64 m, .int .i64 d], .int .i64 e]

section
variable (y m d : Int) (w : World)
end
def dF (C : Cal) (n : Int) : Int := if InD C n then 0 else 1
theorem jul_out {n : Int} (h : ¬ InD jul n) : n < -1 ∨ 365249999998 < n := by
  have a : jul.fst 1 = -1 := by decide
  have b : jul.fst 1000000001 = 365249999999 := by decide
  unfold InD at h; omega
theorem greg_out {n : Int} (h : ¬ InD greg n) : n < 1 ∨ 365242500000 < n := by
  have a : greg.fst 1 = 1 := by decide
  have b : greg.fst 1000000001 = 365242500001 := by decide
  unfold InD at h; omega
section
variable (n : Int) (w : World)
end

abbrev nrec : Value := .agg #[.nilFunc, .nilFunc]
theorem hst (a : Addr) (f : Fn) (x y : Array Value) (m : Mode) (w : World) : (store a (.func f x y) m).run Tryz.prog w = stored Tryz.prog w a (.func f x y) m := run_store _ _ _ _ _ rfl
theorem hsn (a : Addr) (m : Mode) (w : World) : (store a .nilFunc m).run Tryz.prog w = stored Tryz.prog w a .nilFunc m := run_store _ _ _ _ _ rfl
end Go.Proofs.YtkhicgafhbecfaaGreatDoor

namespace Go.Proofs.YtkhicgafhbecfaaGreatDoor
open Go.RowKit

/-- The tables read as laid, and what was in memory is as it was. -/
structure St (W w : World) : Prop where
  t : CTab w
  b : Below W.heap.size W w
theorem St.start {W : World} (h : CTab W) : St W W := ⟨h, Below.refl _ _⟩
theorem St.on {W w w' : World} (h : St W w) (hb : Below w.heap.size w w') : St W w' := ⟨h.t.on hb, below_on h.b hb⟩
theorem St.al {W w : World} (h : St W w) (o : Obj) : St W (w.alloc o) := h.on ((Below.refl w.heap.size w).alloc (Nat.le_refl _) o)
theorem row_on {w w' : World} {b : Nat} {o : Obj} (h : w.heap[b]? = some o) (hb : Below w.heap.size w w') : w'.heap[b]? = some o := by
  have hl : b < w.heap.size := by
    rcases Nat.lt_or_ge b w.heap.size with g | g
    · exact g
    · rw [Array.getElem?_eq_none g] at h; cases h
  rw [hb.block _ hl]; exact h
theorem row_al {w : World} {b : Nat} {o : Obj} (h : w.heap[b]? = some o) (o' : Obj) : (w.alloc o').heap[b]? = some o := row_on h ((Below.refl w.heap.size w).alloc (Nat.le_refl _) o')
/-- A struct of three cells, each written, and a block made before or behind. -/
theorem three_al {w1 : World} {b t : Nat} {a0 a1 a2 : Value} {o : Obj} (x y z : Value) (h : w1.heap[b]? = some (.cells #[a0, a1, a2] t (0, 0))) {u : World} (hu : (((w1.setCell ⟨b, 0, none⟩ x).setCell ⟨b, 1, none⟩ y).setCell ⟨b, 2, none⟩ z).alloc o = u) :
    u.cell? ⟨b, 0, none⟩ = some x ∧ u.cell? ⟨b, 1, none⟩ = some y ∧ u.cell? ⟨b, 2, none⟩ = some z ∧ ∀ W : World, Below W.heap.size W w1 → W.heap.size ≤ b → Below W.heap.size W u := by
  obtain ⟨k0, k1, k2⟩ := three_set x y z h rfl
  subst hu
  have hb : ∀ v : World, Below v.heap.size v (v.alloc o) := fun v => (Below.refl v.heap.size v).alloc (Nat.le_refl _) o
  exact ⟨cell_below k0 (hb _), cell_below k1 (hb _), cell_below k2 (hb _), fun W h1 h2 => below_on (below_set3 h1 h2 x y z rfl) (hb _)⟩
theorem row_new1 (w : World) (o o' : Obj) : ((w.alloc o).alloc o').heap[w.heap.size + 1]? = some o' := by
  have h := heap_alloc_new (w.alloc o) o'
  rwa [show (w.alloc o).heap.size = w.heap.size + 1 from by simp] at h
abbrev zdate : Obj := .cells #[.int .i64 0, .int .i64 0, .int .i64 0] 37

section
variable (y m d : Int) (w : World)
end
section
variable (n : Int) (w : World)
end
end Go.Proofs.YtkhicgafhbecfaaGreatDoor

namespace Go.Proofs.YtkhicgafhbecfaaGreatDoor
open Go.RowKit

theorem tE_first {c y m d : Int} (h : tE c y m d = 0) : tE c y 1 1 = 0 ∧ tN c y 1 1 = (calOf c).fst y ∧ tN c y m d - tN c y 1 1 + 1 = cum ((calOf c).lp y) m + d := by
  obtain ⟨hc, hv, hn⟩ := tE_zero h
  have hy := (calOf c).vld_iff.1 hv
  have hv1 : (calOf c).vld y 1 1 = true := (calOf c).vld_iff.2 ⟨hy.1, hy.2.1, by omega, by have := dim_bd ((calOf c).lp y) 1 (by omega) (by omega); omega⟩
  obtain ⟨a, b⟩ := tE_at hc hv1
  have e1 : (calOf c).num y 1 1 = (calOf c).fst y := by unfold Cal.num; rw [cum_one]; omega
  refine ⟨a, b.trans e1, ?_⟩
  rw [b, e1, hn]; unfold Cal.num; omega
theorem yE_last (c y : Int) : tE c y 12 31 = yE c y := by
  unfold tE yE; split
  · unfold dE; split
    · rename_i g
      have g := inY_iff.1 g
      have hd : dim ((calOf c).lp y) 12 = 31 := by cases (calOf c).lp y <;> rfl
      rw [if_pos ((calOf c).vld_iff.2 ⟨g.1, g.2, by omega, by omega⟩)]
    · rfl
  · rfl
theorem yN_last (c y : Int) : oN c y 12 31 = yN c y := by
  unfold oN yN; rw [yE_last]; split
  · have e2 := cum_end ((calOf c).lp y)
    have e1 := cum_succ ((calOf c).lp y) 12 (by omega) (by omega)
    have hd : dim ((calOf c).lp y) 12 = 31 := by cases (calOf c).lp y <;> rfl
    rw [show (12 : Int) + 1 = 13 from rfl] at e1; omega
  · rfl
theorem f_wrap (c n s : Int) (n1 : -1 ≤ n) (n2 : n ≤ 365249999998) (hs : inR s = true) : fE c (wrap64 (n + s)) = fE c (n + s) ∧ fY c (wrap64 (n + s)) = fY c (n + s) ∧ fM c (wrap64 (n + s)) = fM c (n + s) ∧ fD c (wrap64 (n + s)) = fD c (n + s) := by
  have hs := inR_iff.1 hs
  by_cases h : n + s ≤ 9223372036854775807 ∧ -9223372036854775808 ≤ n + s
  · rw [show wrap64 (n + s) = n + s from by unfold wrap64; omega]; exact ⟨rfl, rfl, rfl, rfl⟩
  · exact f_far (by unfold wrap64; omega) (by omega)
theorem yN_bd (c y : Int) : yN c y ≤ 366 := by
  unfold yN; have := l01_bd ((calOf c).lp y); split <;> omega
theorem yE_zero {c y : Int} (h : yE c y = 0) : okC c = true ∧ inY y = true ∧ yN c y = 365 + l01 ((calOf c).lp y) := by
  have h0 := h
  unfold yE at h; split at h
  · rename_i g
    split at h
    · rename_i g2; exact ⟨g, g2, by unfold yN; rw [if_pos h0]⟩
    · cases h
  · cases h
theorem yE_tE {c y : Int} (h : yE c y = 0) : tE c y 1 1 = 0 ∧ tN c y 1 1 = (calOf c).fst y := by
  rw [← yE_last] at h
  obtain ⟨a, b, _⟩ := tE_first h
  exact ⟨a, b⟩
theorem tE_ne {k : Int} (h : ¬ k = 0) : (k != 0) = true := by simpa using h

section
variable (y m d a n k : Int) (w : World)
end

section
variable (c y m d : Int) (w : World) (ht : CTab w)
include ht
end
end Go.Proofs.YtkhicgafhbecfaaGreatDoor
