/- What earlier stages proved: Ly Yj Yg Yw Yl. -/
import Derived.Test.YtkhicgafhbecfaaGreatDoorRows
import Derived.LaidMore
import Derived.Lib.LaidU8
import Derived.ChangeArms
import Derived.Test.YtkhicgafhbecfaaGreatDoorKj
import Derived.Test.YtkhicgafhbecfaaGreatDoorKg
import Derived.Test.YtkhicgafhbecfaaGreatDoorKw
import Derived.Test.YtkhicgafhbecfaaGreatDoorKn
namespace Go.Proofs.YtkhicgafhbecfaaGreatDoor
open Go.RowKit

theorem row_of_var {P : Program} {w : World} {n : String} {g : Nat} {cs : Array Value} (hg : P.globalNamed n = some g) (h : w.var? P n = some cs) : ∃ t fr, w.heap[g]? = some (.cells cs t fr) := by
  unfold World.var? at h
  rw [hg, Option.bind_some] at h
  split at h
  · rename_i cs' t' fr' heq
    cases h
    exact ⟨_, _, heq⟩
  · cases h
section
variable {H : Type} {enc : TypeId × Value → H} {P : Program} {w : World} {base : Nat} {sp : Nat → Bool} {held : Bool}
theorem array_len {fuel : Nat} {t e : TypeId} {n : Nat} {cs : List Value} {x : DataW H × List MemPlace} (ht : P.underlying t = some (.array n e)) (hd : DataW.trod enc P w base sp held fuel t cs = some x) : cs.length = P.cellsOf t := by
  cases fuel with
  | zero => simp [DataW.trod] at hd
  | succ fuel =>
    simp only [DataW.trod, ht] at hd
    split at hd
    · rename_i hl; exact hl
    · cases hd
/-- Element by element, each of one cell. -/
theorem ones_row {A : Type} (val : A → Value) (dat : A → DataW H) {e : TypeId} (he : ∀ fuel v a q, DataW.trod enc P w base sp held fuel e [v] = some (dat a, q) → v = val a) :
    ∀ (cs : List Value) (bs : List A), cs.length = bs.length → (∀ i a, bs[i]? = some a → ∃ fuel q, DataW.trod enc P w base sp held fuel e ((cs.drop i).take 1) = some (dat a, q)) → cs = bs.map val
  | [], [], _, _ => rfl
  | c :: cs, b :: bs, hl, h => by
    obtain ⟨f, q, h0⟩ := h 0 b rfl
    have ih := ones_row val dat he cs bs (by simpa using hl) (fun i a hi => by
      obtain ⟨f, q, h1⟩ := h (i + 1) a (by simpa using hi)
      exact ⟨f, q, by simpa using h1⟩)
    rw [List.map_cons, ← ih, he f c b q (by simpa using h0)]
  | [], _ :: _, hl, _ => by simp at hl
  | _ :: _, [], hl, _ => by simp at hl
theorem ones_of_array {A : Type} (val : A → Value) (dat : A → DataW H) {fuel : Nat} {t e : TypeId} {n : Nat} {cs : List Value} {bs : List A} {p : List MemPlace}
    (he : ∀ fuel v a q, DataW.trod enc P w base sp held fuel e [v] = some (dat a, q) → v = val a) (ht : P.underlying t = some (.array n e)) (hc : P.cellsOf e = 1) (hC : P.cellsOf t = n) (hn : bs.length = n)
    (hd : DataW.trod enc P w base sp held fuel t cs = some (.agg (bs.map dat), p)) : cs = bs.map val := by
  have hl := array_len ht hd
  refine ones_row val dat he cs bs (by rw [hl, hC, hn]) (fun i a hi => ?_)
  have hi' : i < n := by
    rw [← hn]
    rcases Nat.lt_or_ge i bs.length with g | g
    · exact g
    · rw [List.getElem?_eq_none g] at hi; cases hi
  obtain ⟨f, d, q, h1, h2⟩ := Lib.array_elem ht hd i hi'
  rw [hc, Nat.mul_one] at h2
  have e : d = dat a := by
    rw [List.getElem?_map, hi] at h1
    exact (Option.some.inj h1).symm
  exact ⟨f, q, by rw [h2, e]⟩
def strDat (b : List UInt8) : DataW H := .lit (.string b)
def strVal (b : List UInt8) : Value := .string ⟨b.toArray⟩
theorem strs_of_array {fuel : Nat} {t e : TypeId} {n : Nat} {cs : List Value} {bs : List (List UInt8)} {p : List MemPlace}
    (he : P.underlying e = some .string) (ht : P.underlying t = some (.array n e)) (hc : P.cellsOf e = 1) (hC : P.cellsOf t = n) (hn : bs.length = n)
    (hd : DataW.trod enc P w base sp held fuel t cs = some (.agg (bs.map strDat), p)) : cs = bs.map strVal :=
  ones_of_array strVal strDat (fun f v a q h => by
    obtain ⟨s, hs, hx, _⟩ := DataW.trod_string he h
    simp only [strDat, Prod.mk.injEq, DataW.lit.injEq, Lit.string.injEq] at hx
    simp only [List.cons.injEq, and_true] at hs
    rw [hs, strVal, hx.1]) ht hc hC hn hd
def intDat (k : IntKind) (z : Int) : DataW H := .lit (.int k z)
theorem ints_of_array {k : IntKind} {fuel : Nat} {t e : TypeId} {n : Nat} {cs : List Value} {bs : List Int} {p : List MemPlace}
    (he : P.underlying e = some (.int k)) (ht : P.underlying t = some (.array n e)) (hc : P.cellsOf e = 1) (hC : P.cellsOf t = n) (hn : bs.length = n)
    (hd : DataW.trod enc P w base sp held fuel t cs = some (.agg (bs.map (intDat k)), p)) : cs = bs.map (Value.int k) :=
  ones_of_array (Value.int k) (intDat k) (fun f v a q h => by
    obtain ⟨z, hs, hx, _⟩ := DataW.trod_int he h
    simp only [intDat, Prod.mk.injEq, DataW.lit.injEq, Lit.int.injEq, true_and] at hx
    simp only [List.cons.injEq, and_true] at hs
    rw [hs, hx.1]) ht hc hC hn hd
end
end Go.Proofs.YtkhicgafhbecfaaGreatDoor

namespace Go.Proofs.YtkhicgafhbecfaaGreatDoor
open Go.RowKit
theorem cellsJ1 : Tryz.prog.cellsOf 3 = 1 := by kernel_rfl
theorem lens_cells {w : World} {g : Nat} {cs : Array Value} {t : TypeId} {fr : Nat × Nat} (hcs : cs.toList = lens.map (Value.int .i64)) (hrow : w.heap[g]? = some (.cells cs t fr)) (i : Nat) (hi : i < 12) : w.cell? ⟨g, i, none⟩ = some (.int .i64 (lens.getD i 0)) := by
  rw [cell_of_row w g i cs t fr hrow, ← Array.getElem?_toList, hcs]
  have h : i = 0 ∨ i = 1 ∨ i = 2 ∨ i = 3 ∨ i = 4 ∨ i = 5 ∨ i = 6 ∨ i = 7 ∨ i = 8 ∨ i = 9 ∨ i = 10 ∨ i = 11 := by omega
  rcases h with rfl | rfl | rfl | rfl | rfl | rfl | rfl | rfl | rfl | rfl | rfl | rfl
  all_goals rfl
end Go.Proofs.YtkhicgafhbecfaaGreatDoor

namespace Go.Proofs.YtkhicgafhbecfaaGreatDoor
open Go.RowKit
theorem cellsI : Tryz.prog.cellsOf 3 = 1 := by kernel_rfl
theorem glens_cells {w : World} {g : Nat} {cs : Array Value} {t : TypeId} {fr : Nat × Nat} (hcs : cs.toList = lens.map (Value.int .i64)) (hrow : w.heap[g]? = some (.cells cs t fr)) (i : Nat) (hi : i < 12) : w.cell? ⟨g, i, none⟩ = some (.int .i64 (lens.getD i 0)) := by
  rw [cell_of_row w g i cs t fr hrow, ← Array.getElem?_toList, hcs]
  have h : i = 0 ∨ i = 1 ∨ i = 2 ∨ i = 3 ∨ i = 4 ∨ i = 5 ∨ i = 6 ∨ i = 7 ∨ i = 8 ∨ i = 9 ∨ i = 10 ∨ i = 11 := by omega
  rcases h with rfl | rfl | rfl | rfl | rfl | rfl | rfl | rfl | rfl | rfl | rfl | rfl
  all_goals rfl
end Go.Proofs.YtkhicgafhbecfaaGreatDoor

namespace Go.Proofs.YtkhicgafhbecfaaGreatDoor
theorem gWNam : Tryz.prog.globalNamed "computus/weekday.names" = some 0 := by kernel_rfl
theorem tWNam : (Tryz.prog.globals[0]?).map (·.type) = some 95 := by kernel_rfl
theorem cellsS : Tryz.prog.cellsOf 9 = 1 := by kernel_rfl
theorem cellsSs : Tryz.prog.cellsOf 95 = 7 := by kernel_rfl
theorem wtab_of {l : List (String × DataW Unit)} {W : World} (h : laidMet Tryz.prog l W) (hm : ("computus/weekday.names", Rows.laid_computus_weekday_names) ∈ l) : WTab W := by
  obtain ⟨g, t, cs, fuel, p, hg, hty, hvar, hd⟩ := Lib.laidMet.reads h hm
  obtain rfl := Option.some.inj (gWNam.symm.trans hg)
  obtain rfl := Option.some.inj (tWNam.symm.trans hty)
  have hcs : cs = nms := by
    rw [← Array.toList_inj]
    exact strs_of_array (bs := [[115, 117, 110, 100, 97, 121], [109, 111, 110, 100, 97, 121], [116, 117, 101, 115, 100, 97, 121], [119, 101, 100, 110, 101, 115, 100, 97, 121], [116, 104, 117, 114, 115, 100, 97, 121], [102, 114, 105, 100, 97, 121], [115, 97, 116, 117, 114, 100, 97, 121]])
      Tryz.underlying9 Tryz.underlying95 cellsS cellsSs rfl hd
  subst hcs
  exact ⟨row_of_var gWNam hvar⟩
end Go.Proofs.YtkhicgafhbecfaaGreatDoor

namespace Go.Proofs.YtkhicgafhbecfaaGreatDoor
open Go.RowKit
/-- An array's cells are its elements' cells, one element behind the other. -/
theorem rows_flat {m : Nat} : ∀ (rows : List (List Value)) (cs : List Value), (∀ i r, rows[i]? = some r → (cs.drop (i * m)).take m = r) → cs.length = rows.length * m → cs = rows.flatten
  | [], cs, _, h => by simpa using h
  | r :: rows, cs, hr, h => by
    have h0 := hr 0 r rfl
    simp only [Nat.zero_mul, List.drop_zero] at h0
    have ih := rows_flat rows (cs.drop m) (fun i r' hi => by
      have := hr (i + 1) r' (by simpa using hi)
      rw [List.drop_drop, show m + i * m = (i + 1) * m by rw [Nat.add_mul]; omega]; exact this) (by
      rw [List.length_drop, h, List.length_cons, Nat.add_mul]; omega)
    rw [List.flatten_cons, ← ih, ← h0, List.take_append_drop]
theorem cellsLI : Tryz.prog.cellsOf 3 = 1 := by kernel_rfl
def begRows : List (Int × Int) := [(1, 1), (1, 31), (3, 1), (3, 31), (4, 29), (5, 29), (6, 27), (7, 27), (8, 25), (9, 24), (10, 23), (11, 22), (12, 21)]
end Go.Proofs.YtkhicgafhbecfaaGreatDoor
