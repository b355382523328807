/- What the rows' condition gives of package label's tables, wherever they stand on the list. -/
import Derived.Test.YtadapffmcdkfiaaDoorKy
import Derived.Test.YtadapffmcdkfiaaDoorLc
namespace Go.Proofs.YtadapffmcdkfiaaDoor
open Go.RowKit
/-- An array's cells are its elements' cells, one element behind the other. -/
theorem rows_flat {m : Nat} : ∀ (rows : List (List Value)) (cs : List Value), (∀ i r, rows[i]? = some r → (cs.drop (i * m)).take m = r) → cs.length = rows.length * m → cs = rows.flatten
  | [], cs, _, h => by simpa using h
  | r :: rows, cs, hr, h => by
    have h0 := hr 0 r rfl
    simp only [Nat.zero_mul, List.drop_zero] at h0
    have ih := rows_flat rows (cs.drop m) (fun i r' hi => by
      have := hr (i + 1) r' (by simpa using hi)
      rw [List.drop_drop, show m + i * m = (i + 1) * m by rw [Nat.add_mul]; omega]; exact this) (by
      rw [List.length_drop, h, List.length_cons, Nat.add_mul]; omega)
    rw [List.flatten_cons, ← ih, ← h0, List.take_append_drop]
theorem gLLen : Tryd.prog.globalNamed "computus/label.lengths" = some 1 := by kernel_rfl
theorem gLBeg : Tryd.prog.globalNamed "computus/label.beginnings" = some 0 := by kernel_rfl
theorem tLLen : (Tryd.prog.globals[1]?).map (·.type) = some 46 := by kernel_rfl
theorem tLBeg : (Tryd.prog.globals[0]?).map (·.type) = some 39 := by kernel_rfl
theorem cellsL12 : Tryd.prog.cellsOf 46 = 12 := by kernel_rfl
theorem cellsLI : Tryd.prog.cellsOf 3 = 1 := by kernel_rfl
theorem cellsL2 : Tryd.prog.cellsOf 38 = 2 := by kernel_rfl
theorem cellsL26 : Tryd.prog.cellsOf 39 = 26 := by kernel_rfl
/-- A row of two integers. -/
theorem two_of {H : Type} {enc : TypeId × Value → H} {w : World} {base : Nat} {sp : Nat → Bool} {held : Bool} {fuel : Nat} {cs : List Value} {x y : Int} {p : List MemPlace}
    (h : DataW.trod enc Tryd.prog w base sp held fuel 38 cs = some (.agg [.lit (.int .i64 x), .lit (.int .i64 y)], p)) : cs = [.int .i64 x, .int .i64 y] :=
  Lib.ints_of_struct (k := .i64) (zs := [x, y]) Tryd.underlying38 (fun j f hj => by
    match j, hj with
    | 0, hj => simp at hj; subst hj; exact ⟨Tryd.underlying3, rfl, cellsLI⟩
    | 1, hj => simp at hj; subst hj; exact ⟨Tryd.underlying3, rfl, cellsLI⟩
    | j + 2, hj => simp at hj) (by rw [cellsL2]; rfl) h
def begRows : List (Int × Int) := [(1, 1), (1, 31), (3, 1), (3, 31), (4, 29), (5, 29), (6, 27), (7, 27), (8, 25), (9, 24), (10, 23), (11, 22), (12, 21)]
theorem ltab_of {l : List (String × DataW Unit)} {W : World} (h : laidMet Tryd.prog l W) (hm : ("computus/label.lengths", Rows.laid_computus_label_lengths) ∈ l) (hm2 : ("computus/label.beginnings", Rows.laid_computus_label_beginnings) ∈ l) : LTab W := by
  refine ⟨?_, ?_⟩
  · obtain ⟨g, t, cs, fuel, p, hg, hty, hvar, hd⟩ := Lib.laidMet.reads h hm
    obtain rfl := Option.some.inj (gLLen.symm.trans hg)
    obtain rfl := Option.some.inj (tLLen.symm.trans hty)
    have hcs : cs.toList = lens.map (Value.int .i64) := ints_of_array (k := .i64) (bs := lens) Tryd.underlying3 Tryd.underlying46 cellsLI cellsL12 rfl hd
    obtain ⟨t', fr, hrow⟩ := row_of_var gLLen hvar
    exact ⟨t', fr, by rw [hrow, ← hcs]⟩
  · obtain ⟨g, t, cs, fuel, p, hg, hty, hvar, hd⟩ := Lib.laidMet.reads h hm2
    obtain rfl := Option.some.inj (gLBeg.symm.trans hg)
    obtain rfl := Option.some.inj (tLBeg.symm.trans hty)
    have hl := array_len Tryd.underlying39 hd
    rw [cellsL26] at hl
    have hcs : cs.toList = (begRows.map fun x => [Value.int .i64 x.1, .int .i64 x.2]).flatten := by
      refine rows_flat (m := 2) _ _ (fun i r hi => ?_) (by rw [hl]; rfl)
      obtain ⟨x, hx, rfl⟩ : ∃ x, begRows[i]? = some x ∧ [Value.int .i64 x.1, .int .i64 x.2] = r := by
        rw [List.getElem?_map] at hi
        cases hb : begRows[i]? with
        | none => rw [hb] at hi; cases hi
        | some x => rw [hb] at hi; exact ⟨x, rfl, Option.some.inj hi⟩
      have hi13 : i < 13 := by
        rcases Nat.lt_or_ge i 13 with k | k
        · exact k
        · rw [List.getElem?_eq_none (show begRows.length ≤ i from k)] at hx; cases hx
      obtain ⟨f, d, q, h1, h2⟩ := Lib.array_elem Tryd.underlying39 hd i hi13
      rw [cellsL2] at h2
      have e : d = .agg [.lit (.int .i64 x.1), .lit (.int .i64 x.2)] := by
        have hr : ([.agg [.lit (.int .i64 1), .lit (.int .i64 1)], .agg [.lit (.int .i64 1), .lit (.int .i64 31)], .agg [.lit (.int .i64 3), .lit (.int .i64 1)], .agg [.lit (.int .i64 3), .lit (.int .i64 31)], .agg [.lit (.int .i64 4), .lit (.int .i64 29)], .agg [.lit (.int .i64 5), .lit (.int .i64 29)], .agg [.lit (.int .i64 6), .lit (.int .i64 27)], .agg [.lit (.int .i64 7), .lit (.int .i64 27)], .agg [.lit (.int .i64 8), .lit (.int .i64 25)], .agg [.lit (.int .i64 9), .lit (.int .i64 24)], .agg [.lit (.int .i64 10), .lit (.int .i64 23)], .agg [.lit (.int .i64 11), .lit (.int .i64 22)], .agg [.lit (.int .i64 12), .lit (.int .i64 21)]] : List (DataW Unit)) = begRows.map (fun x => .agg [.lit (.int .i64 x.1), .lit (.int .i64 x.2)]) := rfl
        rw [hr, List.getElem?_map, hx] at h1
        exact (Option.some.inj h1).symm
      rw [e] at h2
      exact two_of h2
    obtain ⟨t', fr, hrow⟩ := row_of_var gLBeg hvar
    exact ⟨t', fr, by rw [hrow, show cs = bgs from by rw [← Array.toList_inj, hcs]; rfl]⟩
end Go.Proofs.YtadapffmcdkfiaaDoor
