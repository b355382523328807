/- What earlier stages proved: Cv Ch Ci. -/
import Derived.Test.YtomoaolomddidaaKj
import Derived.Test.YtomoaolomddidaaKg
import Derived.Test.YtomoaolomddidaaKa
import Derived.Laws.Rows
import Derived.Deep.RegionWith
namespace Go.Proofs.Ytomoaolomddidaa

def InD (C : Cal) (n : Int) : Prop := C.fst 1 ≤ n ∧ n < C.fst 1000000001
instance (C : Cal) (n : Int) : Decidable (InD C n) := inferInstanceAs (Decidable (_ ∧ _))
theorem dt_ex (C : Cal) (n : Int) (h : InD C n) : ∃ p : Int × Int × Int, C.vld p.1 p.2.1 p.2.2 = true ∧ C.num p.1 p.2.1 p.2.2 = n := by
  obtain ⟨y, m, d, h1, h2⟩ := C.date_exists n h.1 h.2
  exact ⟨(y, m, d), h1, h2⟩
noncomputable def dt (C : Cal) (n : Int) : Int × Int × Int := if h : InD C n then Classical.choose (dt_ex C n h) else (0, 0, 0)
theorem dt_in {C : Cal} {n : Int} (h : InD C n) : C.vld (dt C n).1 (dt C n).2.1 (dt C n).2.2 = true ∧ C.num (dt C n).1 (dt C n).2.1 (dt C n).2.2 = n := by
  unfold dt; rw [dif_pos h]; exact Classical.choose_spec (dt_ex C n h)
theorem dt_out {C : Cal} {n : Int} (h : ¬ InD C n) : dt C n = (0, 0, 0) := by unfold dt; rw [dif_neg h]
theorem dt_at {C : Cal} {n y m d : Int} (hv : C.vld y m d = true) (hn : C.num y m d = n) : dt C n = (y, m, d) ∧ InD C n := by
  have hi : InD C n := by have := C.num_range hv; rw [hn] at this; exact this
  obtain ⟨h1, h2⟩ := dt_in hi
  obtain ⟨a, b, c⟩ := C.num_inj h1 hv (h2.trans hn.symm)
  exact ⟨by rw [show dt C n = ((dt C n).1, (dt C n).2.1, (dt C n).2.2) from rfl, a, b, c], hi⟩
def okC (c : Int) : Bool := decide (c = 1) || decide (c = 2)
def calOf (c : Int) : Cal := if c = 1 then jul else greg
theorem calOf2 : calOf 2 = greg := rfl

def fE (c n : Int) : Int := if okC c = true then (if InD (calOf c) n then 0 else 1) else 3
noncomputable def fY (c n : Int) : Int := if okC c = true then (dt (calOf c) n).1 else 0
noncomputable def fM (c n : Int) : Int := if okC c = true then (dt (calOf c) n).2.1 else 0
noncomputable def fD (c n : Int) : Int := if okC c = true then (dt (calOf c) n).2.2 else 0
theorem fE_at {c y m d n : Int} (hc : okC c = true) (hv : (calOf c).vld y m d = true) (hn : (calOf c).num y m d = n) : fE c n = 0 ∧ fY c n = y ∧ fM c n = m ∧ fD c n = d := by
  obtain ⟨a, b⟩ := dt_at hv hn
  unfold fE fY fM fD; rw [if_pos hc, if_pos hc, if_pos hc, if_pos hc, if_pos b, a]; exact ⟨rfl, rfl, rfl, rfl⟩
theorem fst_ends (c : Int) : -1 ≤ (calOf c).fst 1 ∧ (calOf c).fst 1 ≤ 1 ∧ 365242500001 ≤ (calOf c).fst 1000000001 ∧ (calOf c).fst 1000000001 ≤ 365249999999 := by
  unfold calOf; split
  · exact ⟨by decide, by decide, by decide, by decide⟩
  · exact ⟨by decide, by decide, by decide, by decide⟩
theorem InD_bd {c n : Int} (h : InD (calOf c) n) : -1 ≤ n ∧ n ≤ 365249999998 := by
  have := fst_ends c
  obtain ⟨a, b⟩ := h
  omega
end Go.Proofs.Ytomoaolomddidaa

namespace Go.Proofs.Ytomoaolomddidaa
open Go.RowKit

structure CTab (w : World) : Prop where
  j : Tab w
  g : GTab w
theorem CTab.on {w w' : World} (h : CTab w) (hb : Below w.heap.size w w') : CTab w' := ⟨h.j.on hb, h.g.on hb⟩
theorem CTab.al {w : World} (h : CTab w) (o : Obj) : CTab (w.alloc o) := ⟨h.j.al o, h.g.al o⟩

section
variable (y m d : Int) (w : World)
end
section
variable (n : Int) (w : World)
end

theorem hst (a : Addr) (f : Fn) (x y : Array Value) (m : Mode) (w : World) : (store a (.func f x y) m).run Try.prog w = stored Try.prog w a (.func f x y) m := run_store _ _ _ _ _ rfl
end Go.Proofs.Ytomoaolomddidaa

namespace Go.Proofs.Ytomoaolomddidaa
open Go.RowKit

/-- The tables read as laid, and what was in memory is as it was. -/
structure St (W w : World) : Prop where
  t : CTab w
  b : Below W.heap.size W w
theorem St.start {W : World} (h : CTab W) : St W W := ⟨h, Below.refl _ _⟩
theorem St.on {W w w' : World} (h : St W w) (hb : Below w.heap.size w w') : St W w' := ⟨h.t.on hb, below_on h.b hb⟩
theorem St.al {W w : World} (h : St W w) (o : Obj) : St W (w.alloc o) := h.on ((Below.refl w.heap.size w).alloc (Nat.le_refl _) o)
theorem row_on {w w' : World} {b : Nat} {o : Obj} (h : w.heap[b]? = some o) (hb : Below w.heap.size w w') : w'.heap[b]? = some o := by
  have hl : b < w.heap.size := by
    rcases Nat.lt_or_ge b w.heap.size with g | g
    · exact g
    · rw [Array.getElem?_eq_none g] at h; cases h
  rw [hb.block _ hl]; exact h
theorem row_al {w : World} {b : Nat} {o : Obj} (h : w.heap[b]? = some o) (o' : Obj) : (w.alloc o').heap[b]? = some o := row_on h ((Below.refl w.heap.size w).alloc (Nat.le_refl _) o')
theorem row_new1 (w : World) (o o' : Obj) : ((w.alloc o).alloc o').heap[w.heap.size + 1]? = some o' := by
  have h := heap_alloc_new (w.alloc o) o'
  rwa [show (w.alloc o).heap.size = w.heap.size + 1 from by simp] at h
section
variable (y m d : Int) (w : World)
end
section
variable (n : Int) (w : World)
end
end Go.Proofs.Ytomoaolomddidaa
