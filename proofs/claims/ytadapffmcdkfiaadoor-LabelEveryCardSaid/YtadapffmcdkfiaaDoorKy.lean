/- What earlier stages proved: Ly. -/
import Derived.Test.YtadapffmcdkfiaaDoorRows
import Derived.LaidMore
import Derived.Lib.LaidU8
import Derived.ChangeArms
namespace Go.Proofs.YtadapffmcdkfiaaDoor
open Go.RowKit

theorem row_of_var {P : Program} {w : World} {n : String} {g : Nat} {cs : Array Value} (hg : P.globalNamed n = some g) (h : w.var? P n = some cs) : ∃ t fr, w.heap[g]? = some (.cells cs t fr) := by
  unfold World.var? at h
  rw [hg, Option.bind_some] at h
  split at h
  · rename_i cs' t' fr' heq
    cases h
    exact ⟨_, _, heq⟩
  · cases h
section
variable {H : Type} {enc : TypeId × Value → H} {P : Program} {w : World} {base : Nat} {sp : Nat → Bool} {held : Bool}
theorem array_len {fuel : Nat} {t e : TypeId} {n : Nat} {cs : List Value} {x : DataW H × List MemPlace} (ht : P.underlying t = some (.array n e)) (hd : DataW.trod enc P w base sp held fuel t cs = some x) : cs.length = P.cellsOf t := by
  cases fuel with
  | zero => simp [DataW.trod] at hd
  | succ fuel =>
    simp only [DataW.trod, ht] at hd
    split at hd
    · rename_i hl; exact hl
    · cases hd
/-- Element by element, each of one cell. -/
theorem ones_row {A : Type} (val : A → Value) (dat : A → DataW H) {e : TypeId} (he : ∀ fuel v a q, DataW.trod enc P w base sp held fuel e [v] = some (dat a, q) → v = val a) :
    ∀ (cs : List Value) (bs : List A), cs.length = bs.length → (∀ i a, bs[i]? = some a → ∃ fuel q, DataW.trod enc P w base sp held fuel e ((cs.drop i).take 1) = some (dat a, q)) → cs = bs.map val
  | [], [], _, _ => rfl
  | c :: cs, b :: bs, hl, h => by
    obtain ⟨f, q, h0⟩ := h 0 b rfl
    have ih := ones_row val dat he cs bs (by simpa using hl) (fun i a hi => by
      obtain ⟨f, q, h1⟩ := h (i + 1) a (by simpa using hi)
      exact ⟨f, q, by simpa using h1⟩)
    rw [List.map_cons, ← ih, he f c b q (by simpa using h0)]
  | [], _ :: _, hl, _ => by simp at hl
  | _ :: _, [], hl, _ => by simp at hl
theorem ones_of_array {A : Type} (val : A → Value) (dat : A → DataW H) {fuel : Nat} {t e : TypeId} {n : Nat} {cs : List Value} {bs : List A} {p : List MemPlace}
    (he : ∀ fuel v a q, DataW.trod enc P w base sp held fuel e [v] = some (dat a, q) → v = val a) (ht : P.underlying t = some (.array n e)) (hc : P.cellsOf e = 1) (hC : P.cellsOf t = n) (hn : bs.length = n)
    (hd : DataW.trod enc P w base sp held fuel t cs = some (.agg (bs.map dat), p)) : cs = bs.map val := by
  have hl := array_len ht hd
  refine ones_row val dat he cs bs (by rw [hl, hC, hn]) (fun i a hi => ?_)
  have hi' : i < n := by
    rw [← hn]
    rcases Nat.lt_or_ge i bs.length with g | g
    · exact g
    · rw [List.getElem?_eq_none g] at hi; cases hi
  obtain ⟨f, d, q, h1, h2⟩ := Lib.array_elem ht hd i hi'
  rw [hc, Nat.mul_one] at h2
  have e : d = dat a := by
    rw [List.getElem?_map, hi] at h1
    exact (Option.some.inj h1).symm
  exact ⟨f, q, by rw [h2, e]⟩
def intDat (k : IntKind) (z : Int) : DataW H := .lit (.int k z)
theorem ints_of_array {k : IntKind} {fuel : Nat} {t e : TypeId} {n : Nat} {cs : List Value} {bs : List Int} {p : List MemPlace}
    (he : P.underlying e = some (.int k)) (ht : P.underlying t = some (.array n e)) (hc : P.cellsOf e = 1) (hC : P.cellsOf t = n) (hn : bs.length = n)
    (hd : DataW.trod enc P w base sp held fuel t cs = some (.agg (bs.map (intDat k)), p)) : cs = bs.map (Value.int k) :=
  ones_of_array (Value.int k) (intDat k) (fun f v a q h => by
    obtain ⟨z, hs, hx, _⟩ := DataW.trod_int he h
    simp only [intDat, Prod.mk.injEq, DataW.lit.injEq, Lit.int.injEq, true_and] at hx
    simp only [List.cons.injEq, and_true] at hs
    rw [hs, hx.1]) ht hc hC hn hd
end
end Go.Proofs.YtadapffmcdkfiaaDoor
