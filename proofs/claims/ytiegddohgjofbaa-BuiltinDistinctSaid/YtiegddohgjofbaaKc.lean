/- What earlier stages proved: Cv Ch Ci. -/
import Derived.Test.YtiegddohgjofbaaKj
import Derived.Test.YtiegddohgjofbaaKg
import Derived.Test.YtiegddohgjofbaaKa
import Derived.Deep.RegionWith
namespace Go.Proofs.Ytiegddohgjofbaa

def dE (C : Cal) (y m d : Int) : Int := if inY y = true then (if C.vld y m d = true then 0 else 2) else 1
def dN (C : Cal) (y m d : Int) : Int := if C.vld y m d = true then C.num y m d else 0
def InD (C : Cal) (n : Int) : Prop := C.fst 1 ≤ n ∧ n < C.fst 1000000001
instance (C : Cal) (n : Int) : Decidable (InD C n) := inferInstanceAs (Decidable (_ ∧ _))
theorem dE_at {C : Cal} {y m d : Int} (h : C.vld y m d = true) : dE C y m d = 0 ∧ dN C y m d = C.num y m d := by
  have := C.vld_iff.1 h
  unfold dE dN; rw [if_pos (inY_iff.2 ⟨this.1, this.2.1⟩), if_pos h, if_pos h]; exact ⟨rfl, rfl⟩
theorem dE_bad {C : Cal} {y m d : Int} (h1 : inY y = true) (h : C.vld y m d = false) : dE C y m d = 2 ∧ dN C y m d = 0 := by
  unfold dE dN; rw [if_pos h1, h]; exact ⟨rfl, rfl⟩
theorem dE_out {C : Cal} {y m d : Int} (h1 : inY y = false) : dE C y m d = 1 ∧ dN C y m d = 0 := by
  have hv : C.vld y m d = false := by
    cases g : C.vld y m d with
    | false => rfl
    | true =>
      have := C.vld_iff.1 g
      rw [inY_iff.2 ⟨this.1, this.2.1⟩] at h1; cases h1
  unfold dE dN; rw [h1, hv]; exact ⟨rfl, rfl⟩

def calOf (c : Int) : Cal := if c = 1 then jul else greg
end Go.Proofs.Ytiegddohgjofbaa

namespace Go.Proofs.Ytiegddohgjofbaa
open Go.RowKit

structure CTab (w : World) : Prop where
  j : Tab w
  g : GTab w
theorem CTab.on {w w' : World} (h : CTab w) (hb : Below w.heap.size w w') : CTab w' := ⟨h.j.on hb, h.g.on hb⟩
theorem CTab.al {w : World} (h : CTab w) (o : Obj) : CTab (w.alloc o) := ⟨h.j.al o, h.g.al o⟩

abbrev dtv (y m d : Int) : Value := .agg #[.int .i64 y, .int .i64 m, .int .i64 d]
abbrev numv (n e : Int) : Value := .tuple #[.int .i64 n, .int .i64 e]
section
variable (y m d : Int) (w : World)
theorem sday_all : Calls Try.prog 31 #[dtv y m d] w fun e w' => e = .returned (numv (dN greg y m d) (dE greg y m d)) ∧ Below w.heap.size w w' := by
  cases h : inY y
  · obtain ⟨a, b⟩ := dE_out (C := greg) (m := m) (d := d) h
    rw [a, b]; exact sday_out y m d w (fun g => by rw [inY_iff.2 g] at h; cases h)
  · have g := inY_iff.1 h
    cases hv : greg.vld y m d
    · obtain ⟨a, b⟩ := dE_bad h hv
      rw [a, b]; exact sday_bad y m d w g.1 g.2 hv
    · obtain ⟨a, b⟩ := dE_at hv
      rw [a, b]; exact sday_at y m d w hv
end
section
variable (n : Int) (w : World)
end

theorem hst (a : Addr) (f : Fn) (x y : Array Value) (m : Mode) (w : World) : (store a (.func f x y) m).run Try.prog w = stored Try.prog w a (.func f x y) m := run_store _ _ _ _ _ rfl
end Go.Proofs.Ytiegddohgjofbaa

namespace Go.Proofs.Ytiegddohgjofbaa
open Go.RowKit

/-- The tables read as laid, and what was in memory is as it was. -/
structure St (W w : World) : Prop where
  t : CTab w
  b : Below W.heap.size W w
theorem St.start {W : World} (h : CTab W) : St W W := ⟨h, Below.refl _ _⟩
theorem St.on {W w w' : World} (h : St W w) (hb : Below w.heap.size w w') : St W w' := ⟨h.t.on hb, below_on h.b hb⟩
theorem St.al {W w : World} (h : St W w) (o : Obj) : St W (w.alloc o) := h.on ((Below.refl w.heap.size w).alloc (Nat.le_refl _) o)
theorem row_on {w w' : World} {b : Nat} {o : Obj} (h : w.heap[b]? = some o) (hb : Below w.heap.size w w') : w'.heap[b]? = some o := by
  have hl : b < w.heap.size := by
    rcases Nat.lt_or_ge b w.heap.size with g | g
    · exact g
    · rw [Array.getElem?_eq_none g] at h; cases h
  rw [hb.block _ hl]; exact h
theorem row_al {w : World} {b : Nat} {o : Obj} (h : w.heap[b]? = some o) (o' : Obj) : (w.alloc o').heap[b]? = some o := row_on h ((Below.refl w.heap.size w).alloc (Nat.le_refl _) o')
section
variable (y m d : Int) (w : World)
end
section
variable (n : Int) (w : World)
end
end Go.Proofs.Ytiegddohgjofbaa
