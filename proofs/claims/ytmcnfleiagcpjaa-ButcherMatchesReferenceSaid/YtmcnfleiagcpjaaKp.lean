/- What earlier stages proved: Pa Pb Pd. -/
import Derived.Test.YtmcnfleiagcpjaaKc
import Derived.Test.YtmcnfleiagcpjaaKe
import Derived.Test.YtmcnfleiagcpjaaKl
import Derived.Test.YtmcnfleiagcpjaaKr
import Derived.Test.YtmcnfleiagcpjaaKd
import Derived.Test.YtmcnfleiagcpjaaKa
import Derived.Maps.OwnSet
import Derived.Test.YtmcnfleiagcpjaaKn
import Derived.LoopTactic
import Derived.OwnWalk
import Derived.Maps.AppendAt
import Derived.RangeFuncNested
import Derived.RangeFuncBound
import Derived.RangeFuncCalls
import Derived.RangeFuncLeaves
import Derived.RangeFuncBox
import Derived.Shelf.Abstract
import Derived.Shelf.RegionOpen
import Derived.OwnWalkIn
import Derived.TacticsInMore
import Derived.LoopNIn
import Derived.LoopIn
import Derived.Deep.RegionHeld3
import Derived.Test.YtmcnfleiagcpjaaKm
namespace Go.Proofs.Ytmcnfleiagcpjaa

/-- The month and the day that lie k days behind 21 March. -/
def marM (k : Int) : Int := if k ≤ 10 then 3 else 4
def marD (k : Int) : Int := if k ≤ 10 then 21 + k else k - 10
/-- How many days behind 21 March the first full moon of a year with label l is. -/
def off (l : Int) : Nat := (List.range 29).findIdx fun j => bears (marM (Int.ofNat j - 13)) (marD (Int.ofNat j - 13)) l
def offB (l : Int) : Bool := decide (off l ≤ 28) && bears (marM (Int.ofNat (off l) - 13)) (marD (Int.ofNat (off l) - 13)) l && (List.range 29).all fun j => !decide (j < off l) || !bears (marM (Int.ofNat j - 13)) (marD (Int.ofNat j - 13)) l
theorem off_all {l : Int} (l1 : 1 ≤ l) (l2 : l ≤ 31) : off l ≤ 28 ∧ bears (marM (off l - 13)) (marD (off l - 13)) l = true ∧ ∀ j : Nat, j < off l → bears (marM (j - 13)) (marD (j - 13)) l = false := by
  have := all_l offB (by kernel_rfl) l l1 l2
  unfold offB at this
  simp only [Bool.and_eq_true, decide_eq_true_eq] at this
  obtain ⟨⟨h1, h2⟩, h3⟩ := this
  refine ⟨h1, h2, fun j hj => ?_⟩
  have := all_lt 29 _ h3 j (by omega)
  simpa [hj] using this

/-- The number of 21 March. -/
def marN (c y : Int) : Int := (calOf c).num y 3 21
theorem lab_bd (c y : Int) : 1 ≤ lab c y ∧ lab c y ≤ 31 := by unfold lab; exact lbl_bd (by unfold epc; exact ep30_bd _)
end Go.Proofs.Ytmcnfleiagcpjaa

namespace Go.Proofs.Ytmcnfleiagcpjaa
open Go.RowKit

section
variable (c y m d : Int) (w : World)
theorem One.drew {W u : World} {b : Nat} {y m d : Int} (h : One W b y m d u) : One W b y m d u.drew := h.on (below_dn (Below.refl _ _) 1)
end
end Go.Proofs.Ytmcnfleiagcpjaa

namespace Go.Proofs.Ytmcnfleiagcpjaa
open Go.RowKit

def flat3 : List (Int × Int × Int) → List Value
  | [] => []
  | x :: xs => .int .i64 x.1 :: .int .i64 x.2.1 :: .int .i64 x.2.2 :: flat3 xs
def DatesAt (B : Nat) (v : Value) (ps : List (Int × Int × Int)) (w : World) : Prop := w.ownsRow B 27 3 v ps.length (flat3 ps)
theorem DatesAt.on {B : Nat} {v : Value} {xs : List (Int × Int × Int)} {w w' : World} (h : DatesAt B v xs w) (hb : Below w.heap.size w w') : DatesAt B v xs w' :=
  World.ownsRow.kept h (grown_of_below hb none) (by cases hv : v.ownBlock <;> simp)
theorem DatesAt.al {B : Nat} {v : Value} {xs : List (Int × Int × Int)} {w : World} (h : DatesAt B v xs w) (o : Obj) : DatesAt B v xs (w.alloc o) := h.on ((Below.refl _ _).alloc (Nat.le_refl _) o)
structure DatesIn (g cap : Nat) (ps : List (Int × Int × Int)) (w : World) : Prop where
  lt : g < w.heap.size
  le : ps.length ≤ cap
  mx : cap ≤ maxLen
  one : ∀ (i : Nat) (x : Int × Int × Int), ps[i]? = some x → w.cell? ⟨g, i * 3, none⟩ = some (.int .i64 x.1)
  two : ∀ (i : Nat) (x : Int × Int × Int), ps[i]? = some x → w.cell? ⟨g, i * 3 + 1, none⟩ = some (.int .i64 x.2.1)
  thr : ∀ (i : Nat) (x : Int × Int × Int), ps[i]? = some x → w.cell? ⟨g, i * 3 + 2, none⟩ = some (.int .i64 x.2.2)
theorem DatesIn.on {g cap : Nat} {ps : List (Int × Int × Int)} {w w' : World} (h : DatesIn g cap ps w) (hb : Below w.heap.size w w') : DatesIn g cap ps w' :=
  ⟨Nat.lt_of_lt_of_le h.lt hb.size, h.le, h.mx, fun i x hi => cell_below (h.one i x hi) hb, fun i x hi => cell_below (h.two i x hi) hb, fun i x hi => cell_below (h.thr i x hi) hb⟩
section
variable (c y : Int) (w : World)
end
end Go.Proofs.Ytmcnfleiagcpjaa
