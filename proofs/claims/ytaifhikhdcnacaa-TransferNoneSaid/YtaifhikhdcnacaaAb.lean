/- Windows in memory: slices of bools, of integers, of slices of integers, whoever made them (an argument opened); slices of the call's own: bools, moves. -/
import Derived.Test.YtaifhikhdcnacaaAa
import Derived.Test.YtaifhikhdcnacaaKz
import Derived.Test.YtaifhikhdcnacaaKp
namespace Go.Proofs.Ytaifhikhdcnacaa
open Go.ChangeShapes Go.WideShapes Go.RowKit Go.Joins Go.Deep

/-- A slice of n cells: what stands at each place. -/
def SlV (W : World) (v : Value) (n : Nat) (f : Nat → Value) : Prop :=
  ∃ (A : Option Addr) (cap : Nat), v = .slice A n cap ∧ n ≤ cap ∧ cap ≤ maxLen ∧ ∀ i, i < n → ∃ b o, A = some ⟨b, o, none⟩ ∧ b < W.heap.size ∧ W.cell? ⟨b, o + i, none⟩ = some (f i)
theorem SlV.on {W W' : World} {v : Value} {n : Nat} {f : Nat → Value} (h : SlV W v n f) (hb : Below W.heap.size W W') : SlV W' v n f := by
  obtain ⟨A, cap, hv, h1, h2, h3⟩ := h
  refine ⟨A, cap, hv, h1, h2, fun i hi => ?_⟩
  obtain ⟨b, o, e1, e2, e3⟩ := h3 i hi
  exact ⟨b, o, e1, Nat.lt_of_lt_of_le e2 hb.size, (hb.cell e2).trans e3⟩
def BlAt (W : World) (v : Value) (bs : List Bool) : Prop := SlV W v bs.length fun i => .bool (bs.getD i false)
def InAt (W : World) (v : Value) (xs : List Int) : Prop := SlV W v xs.length fun i => .int .i64 (xs.getD i 0)
/-- A slice of slices of integers. -/
def LsAt (W : World) (v : Value) (ls : List (List Int)) : Prop := ∃ f : Nat → Value, SlV W v ls.length f ∧ ∀ i, i < ls.length → InAt W (f i) (ls.getD i [])
theorem BlAt.on {W W' : World} {v : Value} {bs : List Bool} (h : BlAt W v bs) (hb : Below W.heap.size W W') : BlAt W' v bs := SlV.on h hb
theorem InAt.on {W W' : World} {v : Value} {xs : List Int} (h : InAt W v xs) (hb : Below W.heap.size W W') : InAt W' v xs := SlV.on h hb
theorem LsAt.on {W W' : World} {v : Value} {ls : List (List Int)} (h : LsAt W v ls) (hb : Below W.heap.size W W') : LsAt W' v ls := by
  obtain ⟨f, h1, h2⟩ := h
  exact ⟨f, h1.on hb, fun i hi => (h2 i hi).on hb⟩
theorem SlV.nil (W : World) (f : Nat → Value) : SlV W (.slice none 0 0) 0 f := ⟨none, 0, rfl, Nat.le_refl _, Nat.zero_le _, fun i hi => by omega⟩
theorem SlV.of {W : World} {v : Value} {n n' : Nat} {f g : Nat → Value} (h : SlV W v n f) (hn : n = n') (hf : ∀ i, i < n → f i = g i) : SlV W v n' g := by
  subst hn
  obtain ⟨A, cap, hv, h1, h2, h3⟩ := h
  refine ⟨A, cap, hv, h1, h2, fun i hi => ?_⟩
  obtain ⟨b, o, e1, e2, e3⟩ := h3 i hi
  exact ⟨b, o, e1, e2, by rw [e3, hf i hi]⟩

section
variable {H : Type} {enc : TypeId × Value → H} {P : Program} {w : World} {base : Nat} {spare : Nat → Bool} {held : Bool}
/-- A slice of one-cell elements, each of which opens to something. -/
theorem trod_ones {t e fuel : Nat} {cs : List Value} {x : DataW H × List MemPlace} {α : Type} (a0 : α) (Q : Value → α → Prop) (ht : P.underlying t = some (.slice e)) (hC : P.cellsOf e = 1)
    (hI : ∀ (n : Nat) (v : Value) (y : DataW H × List MemPlace), DataW.trod enc P w base spare held n e [v] = some y → ∃ z : α, Q v z) (h : DataW.trod enc P w base spare held fuel t cs = some x) :
    ∃ (v : Value) (f : Nat → Value) (zs : List α), cs = [v] ∧ SlV w v zs.length f ∧ ∀ i, i < zs.length → Q (f i) (zs.getD i a0) := by
  rcases open_slice1 ht hC h with ⟨rfl, _⟩ | ⟨a, len, cap, m, n, V, D, Pl, rfl, hb, hl, hm, hmm, _, hall⟩
  · exact ⟨_, fun _ => .bool false, [], rfl, SlV.nil w _, fun i hi => by simp at hi⟩
  · have hle : len ≤ m := by rw [hmm]; split <;> omega
    have each : ∀ i, ∃ z : α, i < len → Q (V i) z := fun i => by
      by_cases hi : i < len
      · obtain ⟨z, hz⟩ := hI _ _ _ (hall i (by omega)).2
        exact ⟨z, fun _ => hz⟩
      · exact ⟨a0, fun h => absurd h hi⟩
    obtain ⟨g, hg⟩ : ∃ g : Nat → α, ∀ i, i < len → Q (V i) (g i) := ⟨fun i => (each i).choose, fun i => (each i).choose_spec⟩
    refine ⟨_, V, (List.range len).map g, rfl, ⟨some a, cap, by simp, by simpa using hl, hm, fun i hi => ?_⟩, fun i hi => ?_⟩
    · have hil : i < len := by simpa using hi
      have hc := (hall i (by omega)).1
      have hs : a.spot = none := cell_spot (show w.cell? a = some (V 0) from (hall 0 (by omega)).1)
      obtain ⟨ab, ao, asp⟩ := a
      obtain rfl : asp = none := hs
      rw [add_none] at hc
      exact ⟨ab, ao, rfl, World.block_lt_of_cell? w _ hc, hc⟩
    · have hil : i < len := by simpa using hi
      rw [List.getD_eq_getElem?_getD, List.getElem?_map, List.getElem?_range hil]
      exact hg i hil
theorem trod_bools {t e fuel : Nat} {cs : List Value} {x : DataW H × List MemPlace} (ht : P.underlying t = some (.slice e)) (he : P.underlying e = some .bool) (hC : P.cellsOf e = 1) (h : DataW.trod enc P w base spare held fuel t cs = some x) :
    ∃ (v : Value) (bs : List Bool), cs = [v] ∧ BlAt w v bs := by
  obtain ⟨v, f, zs, e1, e2, e3⟩ := trod_ones false (fun v b => v = .bool b) ht hC (fun n v y hy => by
    obtain ⟨b, e, _⟩ := DataW.trod_bool he hy
    exact ⟨b, by simpa using e⟩) h
  exact ⟨v, zs, e1, e2.of rfl e3⟩
theorem trod_ints {t e fuel : Nat} {cs : List Value} {x : DataW H × List MemPlace} (ht : P.underlying t = some (.slice e)) (he : P.underlying e = some (.int .i64)) (hC : P.cellsOf e = 1) (h : DataW.trod enc P w base spare held fuel t cs = some x) :
    ∃ (v : Value) (xs : List Int), cs = [v] ∧ InAt w v xs ∧ ∀ y ∈ xs, (Lit.int .i64 y).wf = true := by
  obtain ⟨v, f, zs, e1, e2, e3⟩ := trod_ones (0 : Int) (fun v b => v = .int .i64 b ∧ (Lit.int .i64 b).wf = true) ht hC (fun n v y hy => one_int he hy rfl) h
  refine ⟨v, zs, e1, e2.of rfl (fun i hi => (e3 i hi).1), fun y hy => ?_⟩
  obtain ⟨i, hi⟩ := List.getElem?_of_mem hy
  have := (e3 i (List.getElem?_eq_some_iff.1 hi).1).2
  rwa [List.getD_eq_getElem?_getD, hi] at this
theorem trod_lists {t s e fuel : Nat} {cs : List Value} {x : DataW H × List MemPlace} (ht : P.underlying t = some (.slice s)) (hs : P.underlying s = some (.slice e)) (hCs : P.cellsOf s = 1) (he : P.underlying e = some (.int .i64)) (hC : P.cellsOf e = 1) (h : DataW.trod enc P w base spare held fuel t cs = some x) :
    ∃ (v : Value) (ls : List (List Int)), cs = [v] ∧ LsAt w v ls ∧ ∀ l ∈ ls, ∀ y ∈ l, (Lit.int .i64 y).wf = true := by
  obtain ⟨v, f, zs, e1, e2, e3⟩ := trod_ones ([] : List Int) (fun v xs => InAt w v xs ∧ ∀ y ∈ xs, (Lit.int .i64 y).wf = true) ht hCs (fun n v y hy => by
    obtain ⟨v', xs, e, h1, h2⟩ := trod_ints hs he hC hy
    obtain rfl : v = v' := by simpa using e
    exact ⟨xs, h1, h2⟩) h
  refine ⟨v, zs, e1, ⟨f, e2, fun i hi => (e3 i hi).1⟩, fun y hy => ?_⟩
  obtain ⟨i, hi⟩ := List.getElem?_of_mem hy
  have := (e3 i (List.getElem?_eq_some_iff.1 hi).1).2
  rwa [List.getD_eq_getElem?_getD, hi] at this
end
set_option maxRecDepth 100000 in
theorem open_window {H : Type} {enc : TypeId × Value → H} {w : World} {base : Nat} {spare : Nat → Bool} {held : Bool} {r : Reach} {b0 : Nat} {v : Value} {d : DataW H} {p : List MemPlace} (hv : Value.okWide Try.prog w r b0 22 v) (h : DataW.Trod enc Try.prog w base spare held 22 v d p) : ∃ bs, BlAt w v bs := by
  obtain ⟨a, len, cap, rfl⟩ := okWide_slice Try.underlying22 hv
  obtain ⟨n, h⟩ := h
  obtain ⟨v', bs, e, h1⟩ := trod_bools Try.underlying22 Try.underlying4 (by kernel_rfl) h
  obtain rfl : .slice a len cap = v' := by simpa [Value.cells] using e
  exact ⟨bs, h1⟩
set_option maxRecDepth 100000 in
theorem open_lists {H : Type} {enc : TypeId × Value → H} {w : World} {base : Nat} {spare : Nat → Bool} {held : Bool} {r : Reach} {b0 : Nat} {v : Value} {d : DataW H} {p : List MemPlace} (hv : Value.okWide Try.prog w r b0 23 v) (h : DataW.Trod enc Try.prog w base spare held 23 v d p) : ∃ ls, LsAt w v ls ∧ ∀ l ∈ ls, ∀ y ∈ l, (Lit.int .i64 y).wf = true := by
  obtain ⟨a, len, cap, rfl⟩ := okWide_slice Try.underlying23 hv
  obtain ⟨n, h⟩ := h
  obtain ⟨v', ls, e, h1, h2⟩ := trod_lists Try.underlying23 Try.underlying40 (by kernel_rfl) Try.underlying3 (by kernel_rfl) h
  obtain rfl : .slice a len cap = v' := by simpa [Value.cells] using e
  exact ⟨ls, h1, h2⟩

/-! slices of the call's own -/
def OwB (B : Nat) (v : Value) (bs : List Bool) (w : World) : Prop := w.ownsRow B 4 1 v bs.length (bs.map Value.bool)
theorem OwB.on {B : Nat} {v : Value} {bs : List Bool} {w w' : World} (h : OwB B v bs w) (hb : Below w.heap.size w w') : OwB B v bs w' := World.ownsRow.kept h (grown_of_below hb none) (by cases hv : v.ownBlock <;> simp)
theorem OwB.al {B : Nat} {v : Value} {bs : List Bool} {w : World} (h : OwB B v bs w) (o : Obj) : OwB B v bs (w.alloc o) := h.on ((Below.refl _ _).alloc (Nat.le_refl _) o)
theorem own_at {t : TypeId} {B : Nat} {v : Value} {n : Nat} {cs : List Value} {w : World} (h : w.ownsRow B t 1 v n cs) (hn : cs.length = n) (x0 : Value) : SlV w v n fun i => cs.getD i x0 := by
  rcases h.2 with ⟨rfl, h0⟩ | ⟨g, cap, cur, rfl, hb, hg, hnc, hcm, hcs, htake⟩
  · rw [h0]; exact SlV.nil w _
  · refine ⟨some ⟨g, 0, none⟩, cap, rfl, hnc, hcm, fun i hi => ⟨g, 0, rfl, (Array.getElem?_eq_some_iff.1 hg).1, ?_⟩⟩
    have := World.ownsRow.cells h (g := g) rfl i (cs.getD i x0) (by rw [List.getD_eq_getElem?_getD, List.getElem?_eq_getElem (by omega)]; rfl)
    rwa [add_none] at this
theorem OwB.at {B : Nat} {v : Value} {bs : List Bool} {w : World} (h : OwB B v bs w) : BlAt w v bs :=
  (own_at h (by simp) (.bool false)).of rfl fun i hi => by
    rw [List.getD_eq_getElem?_getD, List.getElem?_map, List.getElem?_eq_getElem hi, List.getD_eq_getElem?_getD, List.getElem?_eq_getElem hi]; rfl
/-- Moves of the call's own, of a type of three integers. -/
def OwM (t B : Nat) (v : Value) (ms : List Mv) (w : World) : Prop := w.ownsRow B t 3 v ms.length (flat3 ms)
theorem OwM.on {t B : Nat} {v : Value} {ms : List Mv} {w w' : World} (h : OwM t B v ms w) (hb : Below w.heap.size w w') : OwM t B v ms w' := World.ownsRow.kept h (grown_of_below hb none) (by cases hv : v.ownBlock <;> simp)
theorem OwM.al {t B : Nat} {v : Value} {ms : List Mv} {w : World} (h : OwM t B v ms w) (o : Obj) : OwM t B v ms (w.alloc o) := h.on ((Below.refl _ _).alloc (Nat.le_refl _) o)
theorem OwM.lower {t B B' : Nat} {v : Value} {ms : List Mv} {w : World} (h : OwM t B v ms w) (hB : B' ≤ B) : OwM t B' v ms w := by
  refine ⟨h.1, ?_⟩
  rcases h.2 with hn | ⟨g, cap, cur, e, hb, rest⟩
  · exact .inl hn
  · exact .inr ⟨g, cap, cur, e, Nat.le_trans hB hb, rest⟩
theorem OwM.nil (t B : Nat) (w : World) : OwM t B (.slice none 0 0) [] w := World.ownsRow_nil w B _ 3
theorem OwM.app {t B : Nat} {v v' : Value} {ms : List Mv} {y a b : Int} {w w1 w2 : World} {o : Obj} (hv : OwM t B v ms w1) (hB : Below B w w1) (hs : B ≤ w1.heap.size)
    (hown : w2.ownsRow B t 3 v' (ms.length + 1) (flat3 ms ++ [.int .i64 y, .int .i64 a, .int .i64 b])) (hg : (w1.alloc o).grownBy w2 v.ownBlock) : OwM t B v' (ms ++ [(y, a, b)]) w2 ∧ Below B w w2 := by
  refine ⟨?_, (hB.alloc hs _).grown hg (by simp; omega) (fun k e => (World.ownsRow.lt hv k e).1)⟩
  rw [OwM, List.length_append, flat3_app]
  exact hown
/-- Moves as a walk reads them. -/
def MvAt (W : World) (v : Value) (ms : List Mv) : Prop :=
  ∃ (A : Option Addr) (cap : Nat), v = .slice A ms.length cap ∧ ms.length ≤ cap ∧ cap ≤ maxLen ∧ ∀ (i : Nat) (m : Mv), ms[i]? = some m → ∃ b o, A = some ⟨b, o, none⟩ ∧ b < W.heap.size ∧ W.cell? ⟨b, o + i * 3, none⟩ = some (.int .i64 m.1) ∧ W.cell? ⟨b, o + i * 3 + 1, none⟩ = some (.int .i64 m.2.1) ∧ W.cell? ⟨b, o + i * 3 + 2, none⟩ = some (.int .i64 m.2.2)
theorem MvAt.on {W W' : World} {v : Value} {ms : List Mv} (h : MvAt W v ms) (hb : Below W.heap.size W W') : MvAt W' v ms := by
  obtain ⟨A, cap, hv, h1, h2, h3⟩ := h
  refine ⟨A, cap, hv, h1, h2, fun i m hi => ?_⟩
  obtain ⟨b, o, e1, e2, c1, c2, c3⟩ := h3 i m hi
  exact ⟨b, o, e1, Nat.lt_of_lt_of_le e2 hb.size, (hb.cell e2).trans c1, (hb.cell e2).trans c2, (hb.cell e2).trans c3⟩
theorem OwM.at {t B : Nat} {v : Value} {ms : List Mv} {w : World} (h : OwM t B v ms w) : MvAt w v ms := by
  rcases h.2 with ⟨rfl, h0⟩ | ⟨g, cap, cur, rfl, hb, hg, hnc, hcm, hcs, htake⟩
  · rw [List.eq_nil_of_length_eq_zero h0]
    exact ⟨none, 0, rfl, Nat.le_refl _, Nat.zero_le _, fun i m hi => by simp at hi⟩
  · have one := fun j u hj => World.ownsRow.cells h (g := g) rfl j u hj
    refine ⟨some ⟨g, 0, none⟩, cap, rfl, hnc, hcm, fun i m hi => ⟨g, 0, rfl, (Array.getElem?_eq_some_iff.1 hg).1, ?_⟩⟩
    obtain ⟨e1, e2, e3⟩ := flat3_at ms i m hi
    have c1 := one _ _ e1
    have c2 := one _ _ e2
    have c3 := one _ _ e3
    rw [add_none] at c1 c2 c3
    exact ⟨c1, by rw [Nat.add_assoc]; exact c2, by rw [Nat.add_assoc]; exact c3⟩
end Go.Proofs.Ytaifhikhdcnacaa
