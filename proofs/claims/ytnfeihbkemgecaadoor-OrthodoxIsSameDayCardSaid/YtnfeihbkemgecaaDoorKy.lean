/- What earlier stages proved: Ly Yj Yg Yl. -/
import Derived.Test.YtnfeihbkemgecaaDoorRows
import Derived.LaidMore
import Derived.Lib.LaidU8
import Derived.ChangeArms
import Derived.Test.YtnfeihbkemgecaaDoorKj
import Derived.Test.YtnfeihbkemgecaaDoorKg
import Derived.Test.YtnfeihbkemgecaaDoorKn
namespace Go.Proofs.YtnfeihbkemgecaaDoor
open Go.RowKit

theorem row_of_var {P : Program} {w : World} {n : String} {g : Nat} {cs : Array Value} (hg : P.globalNamed n = some g) (h : w.var? P n = some cs) : ∃ t fr, w.heap[g]? = some (.cells cs t fr) := by
  unfold World.var? at h
  rw [hg, Option.bind_some] at h
  split at h
  · rename_i cs' t' fr' heq
    cases h
    exact ⟨_, _, heq⟩
  · cases h
section
variable {H : Type} {enc : TypeId × Value → H} {P : Program} {w : World} {base : Nat} {sp : Nat → Bool} {held : Bool}
theorem array_len {fuel : Nat} {t e : TypeId} {n : Nat} {cs : List Value} {x : DataW H × List MemPlace} (ht : P.underlying t = some (.array n e)) (hd : DataW.trod enc P w base sp held fuel t cs = some x) : cs.length = P.cellsOf t := by
  cases fuel with
  | zero => simp [DataW.trod] at hd
  | succ fuel =>
    simp only [DataW.trod, ht] at hd
    split at hd
    · rename_i hl; exact hl
    · cases hd
/-- Element by element, each of one cell. -/
theorem ones_row {A : Type} (val : A → Value) (dat : A → DataW H) {e : TypeId} (he : ∀ fuel v a q, DataW.trod enc P w base sp held fuel e [v] = some (dat a, q) → v = val a) :
    ∀ (cs : List Value) (bs : List A), cs.length = bs.length → (∀ i a, bs[i]? = some a → ∃ fuel q, DataW.trod enc P w base sp held fuel e ((cs.drop i).take 1) = some (dat a, q)) → cs = bs.map val
  | [], [], _, _ => rfl
  | c :: cs, b :: bs, hl, h => by
    obtain ⟨f, q, h0⟩ := h 0 b rfl
    have ih := ones_row val dat he cs bs (by simpa using hl) (fun i a hi => by
      obtain ⟨f, q, h1⟩ := h (i + 1) a (by simpa using hi)
      exact ⟨f, q, by simpa using h1⟩)
    rw [List.map_cons, ← ih, he f c b q (by simpa using h0)]
  | [], _ :: _, hl, _ => by simp at hl
  | _ :: _, [], hl, _ => by simp at hl
theorem ones_of_array {A : Type} (val : A → Value) (dat : A → DataW H) {fuel : Nat} {t e : TypeId} {n : Nat} {cs : List Value} {bs : List A} {p : List MemPlace}
    (he : ∀ fuel v a q, DataW.trod enc P w base sp held fuel e [v] = some (dat a, q) → v = val a) (ht : P.underlying t = some (.array n e)) (hc : P.cellsOf e = 1) (hC : P.cellsOf t = n) (hn : bs.length = n)
    (hd : DataW.trod enc P w base sp held fuel t cs = some (.agg (bs.map dat), p)) : cs = bs.map val := by
  have hl := array_len ht hd
  refine ones_row val dat he cs bs (by rw [hl, hC, hn]) (fun i a hi => ?_)
  have hi' : i < n := by
    rw [← hn]
    rcases Nat.lt_or_ge i bs.length with g | g
    · exact g
    · rw [List.getElem?_eq_none g] at hi; cases hi
  obtain ⟨f, d, q, h1, h2⟩ := Lib.array_elem ht hd i hi'
  rw [hc, Nat.mul_one] at h2
  have e : d = dat a := by
    rw [List.getElem?_map, hi] at h1
    exact (Option.some.inj h1).symm
  exact ⟨f, q, by rw [h2, e]⟩
def intDat (k : IntKind) (z : Int) : DataW H := .lit (.int k z)
theorem ints_of_array {k : IntKind} {fuel : Nat} {t e : TypeId} {n : Nat} {cs : List Value} {bs : List Int} {p : List MemPlace}
    (he : P.underlying e = some (.int k)) (ht : P.underlying t = some (.array n e)) (hc : P.cellsOf e = 1) (hC : P.cellsOf t = n) (hn : bs.length = n)
    (hd : DataW.trod enc P w base sp held fuel t cs = some (.agg (bs.map (intDat k)), p)) : cs = bs.map (Value.int k) :=
  ones_of_array (Value.int k) (intDat k) (fun f v a q h => by
    obtain ⟨z, hs, hx, _⟩ := DataW.trod_int he h
    simp only [intDat, Prod.mk.injEq, DataW.lit.injEq, Lit.int.injEq, true_and] at hx
    simp only [List.cons.injEq, and_true] at hs
    rw [hs, hx.1]) ht hc hC hn hd
end
end Go.Proofs.YtnfeihbkemgecaaDoor

namespace Go.Proofs.YtnfeihbkemgecaaDoor
open Go.RowKit
theorem gJLen : Tryd.prog.globalNamed "computus/julian.lengths" = some 1 := by kernel_rfl
theorem tJLen : (Tryd.prog.globals[1]?).map (·.type) = some 83 := by kernel_rfl
theorem cellsJ1 : Tryd.prog.cellsOf 3 = 1 := by kernel_rfl
theorem cellsJ12 : Tryd.prog.cellsOf 83 = 12 := by kernel_rfl
theorem lens_cells {w : World} {g : Nat} {cs : Array Value} {t : TypeId} {fr : Nat × Nat} (hcs : cs.toList = lens.map (Value.int .i64)) (hrow : w.heap[g]? = some (.cells cs t fr)) (i : Nat) (hi : i < 12) : w.cell? ⟨g, i, none⟩ = some (.int .i64 (lens.getD i 0)) := by
  rw [cell_of_row w g i cs t fr hrow, ← Array.getElem?_toList, hcs]
  have h : i = 0 ∨ i = 1 ∨ i = 2 ∨ i = 3 ∨ i = 4 ∨ i = 5 ∨ i = 6 ∨ i = 7 ∨ i = 8 ∨ i = 9 ∨ i = 10 ∨ i = 11 := by omega
  rcases h with rfl | rfl | rfl | rfl | rfl | rfl | rfl | rfl | rfl | rfl | rfl | rfl
  all_goals rfl
theorem jtab_of {l : List (String × DataW Unit)} {W : World} (h : laidMet Tryd.prog l W) (hm : ("computus/julian.lengths", Rows.laid_computus_julian_lengths) ∈ l) : Tab W := by
  obtain ⟨g, t, cs, fuel, p, hg, hty, hvar, hd⟩ := Lib.laidMet.reads h hm
  obtain rfl := Option.some.inj (gJLen.symm.trans hg)
  obtain rfl := Option.some.inj (tJLen.symm.trans hty)
  have hcs : cs.toList = lens.map (Value.int .i64) := ints_of_array (k := .i64) (bs := lens) Tryd.underlying3 Tryd.underlying83 cellsJ1 cellsJ12 rfl hd
  obtain ⟨t', fr, hrow⟩ := row_of_var gJLen hvar
  exact fun i hi => lens_cells hcs hrow i hi
end Go.Proofs.YtnfeihbkemgecaaDoor

namespace Go.Proofs.YtnfeihbkemgecaaDoor
open Go.RowKit
theorem gGLen : Tryd.prog.globalNamed "computus/gregorian.lengths" = some 2 := by kernel_rfl
theorem gGGrp : Tryd.prog.globalNamed "computus/gregorian.groups" = some 3 := by kernel_rfl
theorem tGLen : (Tryd.prog.globals[2]?).map (·.type) = some 83 := by kernel_rfl
theorem tGGrp : (Tryd.prog.globals[3]?).map (·.type) = some 86 := by kernel_rfl
theorem cellsL : Tryd.prog.cellsOf 83 = 12 := by kernel_rfl
theorem cellsI : Tryd.prog.cellsOf 3 = 1 := by kernel_rfl
theorem cellsG : Tryd.prog.cellsOf 85 = 3 := by kernel_rfl
theorem cellsGs : Tryd.prog.cellsOf 86 = 12 := by kernel_rfl
/-- A row of three integers. -/
theorem three_of {H : Type} {enc : TypeId × Value → H} {w : World} {base : Nat} {sp : Nat → Bool} {held : Bool} {fuel : Nat} {cs : List Value} {x y z : Int} {p : List MemPlace}
    (h : DataW.trod enc Tryd.prog w base sp held fuel 85 cs = some (.agg [.lit (.int .i64 x), .lit (.int .i64 y), .lit (.int .i64 z)], p)) : cs = [.int .i64 x, .int .i64 y, .int .i64 z] :=
  Lib.ints_of_struct (k := .i64) (zs := [x, y, z]) Tryd.underlying85 (fun j f hj => by
    match j, hj with
    | 0, hj => simp at hj; subst hj; exact ⟨Tryd.underlying3, rfl, cellsI⟩
    | 1, hj => simp at hj; subst hj; exact ⟨Tryd.underlying3, rfl, cellsI⟩
    | 2, hj => simp at hj; subst hj; exact ⟨Tryd.underlying3, rfl, cellsI⟩
    | j + 3, hj => simp at hj) (by rw [cellsG]; rfl) h
theorem glens_cells {w : World} {g : Nat} {cs : Array Value} {t : TypeId} {fr : Nat × Nat} (hcs : cs.toList = lens.map (Value.int .i64)) (hrow : w.heap[g]? = some (.cells cs t fr)) (i : Nat) (hi : i < 12) : w.cell? ⟨g, i, none⟩ = some (.int .i64 (lens.getD i 0)) := by
  rw [cell_of_row w g i cs t fr hrow, ← Array.getElem?_toList, hcs]
  have h : i = 0 ∨ i = 1 ∨ i = 2 ∨ i = 3 ∨ i = 4 ∨ i = 5 ∨ i = 6 ∨ i = 7 ∨ i = 8 ∨ i = 9 ∨ i = 10 ∨ i = 11 := by omega
  rcases h with rfl | rfl | rfl | rfl | rfl | rfl | rfl | rfl | rfl | rfl | rfl | rfl
  all_goals rfl
set_option maxRecDepth 100000 in
theorem gtab_of {l : List (String × DataW Unit)} {W : World} (h : laidMet Tryd.prog l W) (hm : ("computus/gregorian.lengths", Rows.laid_computus_gregorian_lengths) ∈ l) (hm2 : ("computus/gregorian.groups", Rows.laid_computus_gregorian_groups) ∈ l) : GTab W := by
  refine ⟨?_, ?_⟩
  · obtain ⟨g, t, cs, fuel, p, hg, hty, hvar, hd⟩ := Lib.laidMet.reads h hm
    obtain rfl := Option.some.inj (gGLen.symm.trans hg)
    obtain rfl := Option.some.inj (tGLen.symm.trans hty)
    have hcs : cs.toList = lens.map (Value.int .i64) := ints_of_array (k := .i64) (bs := lens) Tryd.underlying3 Tryd.underlying83 cellsI cellsL rfl hd
    obtain ⟨t', fr, hrow⟩ := row_of_var gGLen hvar
    exact fun i hi => glens_cells hcs hrow i hi
  · obtain ⟨g, t, cs, fuel, p, hg, hty, hvar, hd⟩ := Lib.laidMet.reads h hm2
    obtain rfl := Option.some.inj (gGGrp.symm.trans hg)
    obtain rfl := Option.some.inj (tGGrp.symm.trans hty)
    obtain ⟨_, d0, q0, e0, h0⟩ := Lib.array_elem Tryd.underlying86 hd 0 (by omega)
    obtain ⟨_, d1, q1, e1, h1⟩ := Lib.array_elem Tryd.underlying86 hd 1 (by omega)
    obtain ⟨_, d2, q2, e2, h2⟩ := Lib.array_elem Tryd.underlying86 hd 2 (by omega)
    obtain ⟨_, d3, q3, e3, h3⟩ := Lib.array_elem Tryd.underlying86 hd 3 (by omega)
    cases e0; cases e1; cases e2; cases e3
    rw [cellsG] at h0 h1 h2 h3
    have k0 := three_of h0
    have k1 := three_of h1
    have k2 := three_of h2
    have k3 := three_of h3
    have hl : cs.toList.length = 12 := by
      cases fuel with
      | zero => simp [DataW.trod] at hd
      | succ fuel =>
        simp only [DataW.trod, Tryd.underlying86] at hd
        split at hd
        · rename_i hl; rw [hl, cellsGs]
        · cases hd
    have hcs : cs = grp := by
      rw [← Array.toList_inj]
      have e1 := (List.take_append_drop 3 cs.toList).symm
      have e2 := (List.take_append_drop 3 (cs.toList.drop 3)).symm
      have e3 := (List.take_append_drop 3 (cs.toList.drop 6)).symm
      have e4 : (cs.toList.drop 9).take 3 = cs.toList.drop 9 := List.take_of_length_le (by rw [List.length_drop, hl]; omega)
      rw [List.drop_drop] at e2 e3
      rw [e1, e2, e3, ← e4]
      simp only [Nat.zero_mul, List.drop_zero, Nat.one_mul, show 2 * 3 = 6 from rfl, show 3 * 3 = 9 from rfl] at k0 k1 k2 k3
      rw [show 3 + 3 = 6 from rfl, show 6 + 3 = 9 from rfl] at *
      rw [k0, k1, k2, k3]
      rfl
    subst hcs
    unfold World.var? at hvar
    rw [gGGrp, Option.bind_some] at hvar
    split at hvar
    · rename_i cs' t' fr' heq
      cases hvar
      exact ⟨_, _, heq⟩
    · cases hvar
end Go.Proofs.YtnfeihbkemgecaaDoor

namespace Go.Proofs.YtnfeihbkemgecaaDoor
open Go.RowKit
/-- An array's cells are its elements' cells, one element behind the other. -/
theorem rows_flat {m : Nat} : ∀ (rows : List (List Value)) (cs : List Value), (∀ i r, rows[i]? = some r → (cs.drop (i * m)).take m = r) → cs.length = rows.length * m → cs = rows.flatten
  | [], cs, _, h => by simpa using h
  | r :: rows, cs, hr, h => by
    have h0 := hr 0 r rfl
    simp only [Nat.zero_mul, List.drop_zero] at h0
    have ih := rows_flat rows (cs.drop m) (fun i r' hi => by
      have := hr (i + 1) r' (by simpa using hi)
      rw [List.drop_drop, show m + i * m = (i + 1) * m by rw [Nat.add_mul]; omega]; exact this) (by
      rw [List.length_drop, h, List.length_cons, Nat.add_mul]; omega)
    rw [List.flatten_cons, ← ih, ← h0, List.take_append_drop]
theorem gLLen : Tryd.prog.globalNamed "computus/label.lengths" = some 4 := by kernel_rfl
theorem gLBeg : Tryd.prog.globalNamed "computus/label.beginnings" = some 0 := by kernel_rfl
theorem tLLen : (Tryd.prog.globals[4]?).map (·.type) = some 83 := by kernel_rfl
theorem tLBeg : (Tryd.prog.globals[0]?).map (·.type) = some 82 := by kernel_rfl
theorem cellsL12 : Tryd.prog.cellsOf 83 = 12 := by kernel_rfl
theorem cellsLI : Tryd.prog.cellsOf 3 = 1 := by kernel_rfl
theorem cellsL2 : Tryd.prog.cellsOf 81 = 2 := by kernel_rfl
theorem cellsL26 : Tryd.prog.cellsOf 82 = 26 := by kernel_rfl
/-- A row of two integers. -/
theorem two_of {H : Type} {enc : TypeId × Value → H} {w : World} {base : Nat} {sp : Nat → Bool} {held : Bool} {fuel : Nat} {cs : List Value} {x y : Int} {p : List MemPlace}
    (h : DataW.trod enc Tryd.prog w base sp held fuel 81 cs = some (.agg [.lit (.int .i64 x), .lit (.int .i64 y)], p)) : cs = [.int .i64 x, .int .i64 y] :=
  Lib.ints_of_struct (k := .i64) (zs := [x, y]) Tryd.underlying81 (fun j f hj => by
    match j, hj with
    | 0, hj => simp at hj; subst hj; exact ⟨Tryd.underlying3, rfl, cellsLI⟩
    | 1, hj => simp at hj; subst hj; exact ⟨Tryd.underlying3, rfl, cellsLI⟩
    | j + 2, hj => simp at hj) (by rw [cellsL2]; rfl) h
def begRows : List (Int × Int) := [(1, 1), (1, 31), (3, 1), (3, 31), (4, 29), (5, 29), (6, 27), (7, 27), (8, 25), (9, 24), (10, 23), (11, 22), (12, 21)]
theorem ltab_of {l : List (String × DataW Unit)} {W : World} (h : laidMet Tryd.prog l W) (hm : ("computus/label.lengths", Rows.laid_computus_label_lengths) ∈ l) (hm2 : ("computus/label.beginnings", Rows.laid_computus_label_beginnings) ∈ l) : LTab W := by
  refine ⟨?_, ?_⟩
  · obtain ⟨g, t, cs, fuel, p, hg, hty, hvar, hd⟩ := Lib.laidMet.reads h hm
    obtain rfl := Option.some.inj (gLLen.symm.trans hg)
    obtain rfl := Option.some.inj (tLLen.symm.trans hty)
    have hcs : cs.toList = lens.map (Value.int .i64) := ints_of_array (k := .i64) (bs := lens) Tryd.underlying3 Tryd.underlying83 cellsLI cellsL12 rfl hd
    obtain ⟨t', fr, hrow⟩ := row_of_var gLLen hvar
    exact ⟨t', fr, by rw [hrow, ← hcs]⟩
  · obtain ⟨g, t, cs, fuel, p, hg, hty, hvar, hd⟩ := Lib.laidMet.reads h hm2
    obtain rfl := Option.some.inj (gLBeg.symm.trans hg)
    obtain rfl := Option.some.inj (tLBeg.symm.trans hty)
    have hl := array_len Tryd.underlying82 hd
    rw [cellsL26] at hl
    have hcs : cs.toList = (begRows.map fun x => [Value.int .i64 x.1, .int .i64 x.2]).flatten := by
      refine rows_flat (m := 2) _ _ (fun i r hi => ?_) (by rw [hl]; rfl)
      obtain ⟨x, hx, rfl⟩ : ∃ x, begRows[i]? = some x ∧ [Value.int .i64 x.1, .int .i64 x.2] = r := by
        rw [List.getElem?_map] at hi
        cases hb : begRows[i]? with
        | none => rw [hb] at hi; cases hi
        | some x => rw [hb] at hi; exact ⟨x, rfl, Option.some.inj hi⟩
      have hi13 : i < 13 := by
        rcases Nat.lt_or_ge i 13 with k | k
        · exact k
        · rw [List.getElem?_eq_none (show begRows.length ≤ i from k)] at hx; cases hx
      obtain ⟨f, d, q, h1, h2⟩ := Lib.array_elem Tryd.underlying82 hd i hi13
      rw [cellsL2] at h2
      have e : d = .agg [.lit (.int .i64 x.1), .lit (.int .i64 x.2)] := by
        have hr : ([.agg [.lit (.int .i64 1), .lit (.int .i64 1)], .agg [.lit (.int .i64 1), .lit (.int .i64 31)], .agg [.lit (.int .i64 3), .lit (.int .i64 1)], .agg [.lit (.int .i64 3), .lit (.int .i64 31)], .agg [.lit (.int .i64 4), .lit (.int .i64 29)], .agg [.lit (.int .i64 5), .lit (.int .i64 29)], .agg [.lit (.int .i64 6), .lit (.int .i64 27)], .agg [.lit (.int .i64 7), .lit (.int .i64 27)], .agg [.lit (.int .i64 8), .lit (.int .i64 25)], .agg [.lit (.int .i64 9), .lit (.int .i64 24)], .agg [.lit (.int .i64 10), .lit (.int .i64 23)], .agg [.lit (.int .i64 11), .lit (.int .i64 22)], .agg [.lit (.int .i64 12), .lit (.int .i64 21)]] : List (DataW Unit)) = begRows.map (fun x => .agg [.lit (.int .i64 x.1), .lit (.int .i64 x.2)]) := rfl
        rw [hr, List.getElem?_map, hx] at h1
        exact (Option.some.inj h1).symm
      rw [e] at h2
      exact two_of h2
    obtain ⟨t', fr, hrow⟩ := row_of_var gLBeg hvar
    exact ⟨t', fr, by rw [hrow, show cs = bgs from by rw [← Array.toList_inj, hcs]; rfl]⟩
end Go.Proofs.YtnfeihbkemgecaaDoor
