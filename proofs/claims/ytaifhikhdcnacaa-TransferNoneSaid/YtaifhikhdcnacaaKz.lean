/- What earlier stages proved: Zc Ze Zh Zm. -/
import Derived.Test.YtaifhikhdcnacaaKa
import Derived.OpenShut
import Derived.ShutString
import Derived.Lib.SmallJoins
import Derived.Deep.Slices
import Derived.Deep.Fields
import Derived.ReadAgain
import Derived.ProofKit
import Derived.WalkKit
import Derived.Test.YtaifhikhdcnacaaKv
import Derived.Test.YtaifhikhdcnacaaKn
import Derived.Test.YtaifhikhdcnacaaKo
import Derived.Test.YtaifhikhdcnacaaKr
import Derived.Laws.RangeAny
import Derived.Maps.Own
import Derived.Maps.Views
namespace Go.Proofs.Ytaifhikhdcnacaa
open Go.ChangeShapes Go.WideShapes Go.RowKit Go.Joins Go.Deep

structure Itm where
  id : ByteArray
  x : Int
  y : Int
  k : Int
  m : Int
  d : Int
  o : Int
  w : Int
  c : Int
abbrev Itm.vals (t : Itm) : Array Value := #[.string t.id, .int .i64 t.x, .int .i64 t.y, .int .i64 t.k, .int .i64 t.m, .int .i64 t.d, .int .i64 t.o, .int .i64 t.w, .int .i64 t.c]
/-- What a season or feast that came in is: 64-bit integers, a string that memory holds. -/
structure Itm.Ok (t : Itm) : Prop where
  id : t.id.size ≤ maxLen
  x : (Lit.int .i64 t.x).wf = true
  y : (Lit.int .i64 t.y).wf = true
  k : (Lit.int .i64 t.k).wf = true
  m : (Lit.int .i64 t.m).wf = true
  d : (Lit.int .i64 t.d).wf = true
  o : (Lit.int .i64 t.o).wf = true
  w : (Lit.int .i64 t.w).wf = true
  c : (Lit.int .i64 t.c).wf = true
/-- An item lies in memory from a place on. -/
def ItmAt (W : World) (b p : Nat) (t : Itm) : Prop := ∀ j : Nat, j < 9 → W.cell? ⟨b, p + j, none⟩ = t.vals[j]?
/-- A slice of items. -/
def SlAt (W : World) (v : Value) (ts : List Itm) : Prop :=
  ∃ (A : Option Addr) (cap : Nat), v = .slice A ts.length cap ∧ ts.length ≤ cap ∧ cap ≤ maxLen ∧ ∀ (i : Nat) (t : Itm), ts[i]? = some t → ∃ b o, A = some ⟨b, o, none⟩ ∧ b < W.heap.size ∧ ItmAt W b (o + i * 9) t
structure Cat where
  free : Int
  ss : List Itm
  fs : List Itm
/-- A catalogue that came in. -/
structure CatAt (W : World) (v : Value) (c : Cat) : Prop where
  v : ∃ vs vf, v = .agg #[.int .i64 c.free, vs, vf] ∧ SlAt W vs c.ss ∧ SlAt W vf c.fs
  free : (Lit.int .i64 c.free).wf = true
  ss : ∀ t ∈ c.ss, t.Ok
  fs : ∀ t ∈ c.fs, t.Ok
theorem ItmAt.on {W W' : World} {b p : Nat} {t : Itm} (h : ItmAt W b p t) (hb : Below W.heap.size W W') (hl : b < W.heap.size) : ItmAt W' b p t := fun j hj => by rw [hb.cell hl]; exact h j hj
theorem SlAt.on {W W' : World} {v : Value} {ts : List Itm} (h : SlAt W v ts) (hb : Below W.heap.size W W') : SlAt W' v ts := by
  obtain ⟨A, cap, hv, h1, h2, h3⟩ := h
  refine ⟨A, cap, hv, h1, h2, fun i t ht => ?_⟩
  obtain ⟨b, o, e1, e2, e3⟩ := h3 i t ht
  exact ⟨b, o, e1, Nat.lt_of_lt_of_le e2 hb.size, e3.on hb e2⟩

section
variable {H : Type} {enc : TypeId × Value → H} {P : Program} {w : World} {base : Nat} {spare : Nat → Bool} {held : Bool}
theorem one_int {t fuel : Nat} {v : Value} {y : Option (DataW H × List MemPlace)} {x : DataW H × List MemPlace} (ht : P.underlying t = some (.int .i64)) (h : DataW.trod enc P w base spare held fuel t [v] = y) (hy : y = some x) : ∃ n : Int, v = .int .i64 n ∧ (Lit.int .i64 n).wf = true := by
  subst hy
  obtain ⟨n, e1, _, e3⟩ := DataW.trod_int ht h
  exact ⟨n, by simpa using e1, e3⟩
theorem cell_spot {a : Addr} {v : Value} (h : w.cell? a = some v) : a.spot = none := by
  unfold World.cell? at h
  split at h
  · cases hs : a.spot with
    | none => rfl
    | some x => rw [hs] at h; simp at h
  · cases h
theorem add_none (b o n : Nat) : (⟨b, o, none⟩ : Addr).add n = ⟨b, o + n, none⟩ := by
  unfold Addr.add
  split
  · rename_i h; subst h; rfl
  · rfl
/-- Every argument reads behind a call that only makes new blocks as it read before. -/
theorem carry_all {W' : World} : ∀ {ts : List TypeId} {vs : List Value} {ds : List (DataW H)} {ps : List MemPlace}, DataW.TrodAll enc P w base spare held ts vs ds ps → (∀ p ∈ ps, w.sameAt W' p) → DataW.TrodAll enc P W' base spare held ts vs ds ps
  | [], [], [], _, h, _ => h
  | _ :: _, _ :: _, _ :: _, _, ⟨p, q, ⟨n, h1⟩, h2, e⟩, hs => ⟨p, q, ⟨n, DataW.trod_carry n _ _ _ h1 (fun x hx => hs x (by rw [e]; exact List.mem_append_left _ hx))⟩, carry_all h2 (fun x hx => hs x (by rw [e]; exact List.mem_append_right _ hx)), e⟩
theorem back_all {T : TypeId → Prop} (K : Kids P T) (hz : ∀ t e, T t → P.underlying t = some (.slice e) → 0 < P.cellsOf e) {W' : World} {sp : Nat → Bool} {ts : List TypeId} {vs : List Value} {ds : List (DataW H)} {ps : List MemPlace} (hT : ∀ t ∈ ts, T t)
    (h : DataW.TrodAll enc P w base (fun _ => true) true ts vs ds ps) (hlt : ∀ p ∈ ps, p.block < w.heap.size) (hb : Below w.heap.size w W') (hsp : ∀ p ∈ ps, sp p.block = true) : DataW.TrodAll enc P W' base sp true ts vs ds ps :=
  carry_all (h.respare K hz hT hsp) (fun p hp => hb.same (hlt p hp))
end
set_option maxRecDepth 100000 in
theorem zkids : Kids Try.prog (· < Try.prog.types.size) := kids_rows (by kernel_rfl) (by kernel_rfl)
set_option maxRecDepth 100000 in
theorem zfull : ∀ t e, t < Try.prog.types.size → Try.prog.underlying t = some (.slice e) → 0 < Try.prog.cellsOf e := slices_full_of Try.prog (by kernel_rfl)
section
variable {H : Type} {enc : TypeId × Value → H} {w : World} {base : Nat} {spare : Nat → Bool} {held : Bool}
end
end Go.Proofs.Ytaifhikhdcnacaa

namespace Go.Proofs.Ytaifhikhdcnacaa
open Go.RowKit

def StrsAt (B : Nat) (v : Value) (xs : List ByteArray) (w : World) : Prop := w.ownsRow B 9 1 v xs.length (xs.map Value.string)
theorem StrsAt.on {B : Nat} {v : Value} {xs : List ByteArray} {w w' : World} (h : StrsAt B v xs w) (hb : Below w.heap.size w w') : StrsAt B v xs w' :=
  World.ownsRow.kept h (grown_of_below hb none) (by cases hv : v.ownBlock <;> simp)
theorem StrsAt.al {B : Nat} {v : Value} {xs : List ByteArray} {w : World} (h : StrsAt B v xs w) (o : Obj) : StrsAt B v xs (w.alloc o) := h.on ((Below.refl _ _).alloc (Nat.le_refl _) o)
/-- What a walk reads of it. -/
structure StrsIn (g cap : Nat) (xs : List ByteArray) (w : World) : Prop where
  lt : g < w.heap.size
  le : xs.length ≤ cap
  mx : cap ≤ maxLen
  cell : ∀ i, i < xs.length → w.cell? ⟨g, i, none⟩ = some (.string (xs.getD i ByteArray.empty))
theorem StrsIn.on {g cap : Nat} {xs : List ByteArray} {w w' : World} (h : StrsIn g cap xs w) (hb : Below w.heap.size w w') : StrsIn g cap xs w' :=
  ⟨Nat.lt_of_lt_of_le h.lt hb.size, h.le, h.mx, fun i hi => cell_below (h.cell i hi) hb⟩
theorem StrsAt.get {B : Nat} {v : Value} {xs : List ByteArray} {w : World} (h : StrsAt B v xs w) : (v = .slice none 0 0 ∧ xs = []) ∨ ∃ g cap, v = .slice (some ⟨g, 0, none⟩) xs.length cap ∧ StrsIn g cap xs w := by
  rcases h.2 with ⟨rfl, hn⟩ | ⟨g, cap, cur, rfl, hb, hg, hnc, hcm, hcs, htake⟩
  · exact .inl ⟨rfl, List.eq_nil_of_length_eq_zero hn⟩
  · refine .inr ⟨g, cap, rfl, (Array.getElem?_eq_some_iff.1 hg).1, hnc, hcm, fun i hi => ?_⟩
    have := World.ownsRow.cells h (g := g) rfl i (.string (xs.getD i ByteArray.empty)) (by rw [List.getElem?_map, List.getElem?_eq_getElem hi, List.getD_eq_getElem?_getD, List.getElem?_eq_getElem hi]; rfl)
    rwa [show (⟨g, 0, none⟩ : Addr).add i = ⟨g, i, none⟩ by unfold Addr.add; split <;> simp_all] at this
theorem StrsAt.app {B : Nat} {v v' : Value} {xs : List ByteArray} {a : ByteArray} {w w1 w2 : World} {o : Obj} (hv : StrsAt B v xs w1) (hB : Below B w w1) (hs : B ≤ w1.heap.size)
    (hown : w2.ownsRow B 9 1 v' (xs.length + 1) (xs.map Value.string ++ [.string a])) (hg : (w1.alloc o).grownBy w2 v.ownBlock) : StrsAt B v' (xs ++ [a]) w2 ∧ Below B w w2 := by
  refine ⟨?_, (hB.alloc hs _).grown hg (by simp; omega) (fun k e => (World.ownsRow.lt hv k e).1)⟩
  rw [StrsAt, List.length_append, List.map_append]
  exact hown
theorem CatAt.on {W W' : World} {v : Value} {c : Cat} (h : CatAt W v c) (hb : Below W.heap.size W W') : CatAt W' v c := by
  obtain ⟨⟨vs, vf, hv, h1, h2⟩, h3, h4, h5⟩ := h
  exact ⟨⟨vs, vf, hv, h1.on hb, h2.on hb⟩, h3, h4, h5⟩
end Go.Proofs.Ytaifhikhdcnacaa

namespace Go.Proofs.Ytaifhikhdcnacaa
open Go.RowKit

def zo : Itm := ⟨⟨#[]⟩, 0, 0, 0, 0, 0, 0, 0, 0⟩
end Go.Proofs.Ytaifhikhdcnacaa

namespace Go.Proofs.Ytaifhikhdcnacaa
open Go.RowKit Go.WideMaps Go.Maps

theorem zero_bool (w : World) : (zeroValue 4).run Try.prog w = .ok (.bool false) w := by kernel_rfl
set_option maxRecDepth 100000 in
theorem bool_inv {v : Value} {b : Bool} {ps : List MemPlace} (h : plainElem (H := Unit) Try.prog 4 v = some (.lit (.bool b), ps)) : v = .bool b := by
  unfold plainElem at h
  rw [Try.underlying4] at h
  cases v <;> simp at h
  rw [h.1]
theorem mem_take_at {xs : List ByteArray} {k : Nat} {s : ByteArray} : s ∈ xs.take k ↔ ∃ i, i < k ∧ i < xs.length ∧ xs.getD i ByteArray.empty = s := by
  rw [List.mem_iff_getElem?]
  constructor
  · rintro ⟨i, hi⟩
    rw [List.getElem?_take] at hi
    split at hi
    · rename_i h
      obtain ⟨hl, he⟩ := List.getElem?_eq_some_iff.1 hi
      exact ⟨i, h, hl, by rw [List.getD_eq_getElem?_getD, hi]; rfl⟩
    · cases hi
  · rintro ⟨i, h1, h2, h3⟩
    refine ⟨i, ?_⟩
    rw [List.getElem?_take, if_pos h1, List.getElem?_eq_getElem h2]
    rw [List.getD_eq_getElem?_getD, List.getElem?_eq_getElem h2] at h3
    exact congrArg some h3
theorem mem_take_more {xs : List ByteArray} {k : Nat} {s : ByteArray} (hk : k < xs.length) : s ∈ xs.take (k + 1) ↔ s = xs.getD k ByteArray.empty ∨ s ∈ xs.take k := by
  rw [mem_take_at, mem_take_at]
  constructor
  · rintro ⟨i, h1, h2, h3⟩
    by_cases g : i = k
    · subst g; exact .inl h3.symm
    · exact .inr ⟨i, by omega, h2, h3⟩
  · rintro (h | ⟨i, h1, h2, h3⟩)
    · exact ⟨k, by omega, hk, h.symm⟩
    · exact ⟨i, by omega, h2, h3⟩
/-- Is a string among the first k? -/
def occB (xs : List ByteArray) (k : Nat) (s : ByteArray) : Bool := (xs.take k).any fun x => decide (x = s)
theorem occ_iff {xs : List ByteArray} {k : Nat} {s : ByteArray} : occB xs k s = true ↔ s ∈ xs.take k := by
  unfold occB
  rw [List.any_eq_true]
  exact ⟨fun ⟨x, hx, e⟩ => of_decide_eq_true e ▸ hx, fun h => ⟨s, h, decide_eq_true rfl⟩⟩
theorem occ_no {xs : List ByteArray} {k : Nat} {s : ByteArray} (h : occB xs k s = false) : ¬ s ∈ xs.take k := fun e => by rw [occ_iff.2 e] at h; cases h
/-- What the map of the strings that have occurred reads as. -/
structure Occ (xs : List ByteArray) (k : Nat) (D : DataW Unit) : Prop where
  m : IsMap D
  a : ∀ s : ByteArray, D.atKey (.string s.data.toList) (.lit (.bool false)) = .lit (.bool (occB xs k s))
theorem Occ.zero (xs : List ByteArray) : Occ xs 0 (.map []) := ⟨isMap_empty, fun s => by unfold occB; rw [List.take_zero]; rfl⟩
theorem Occ.put {xs : List ByteArray} {k : Nat} {D : DataW Unit} (h : Occ xs k D) (hk : k < xs.length) {x : ByteArray} (hx : x = xs.getD k ByteArray.empty) : Occ xs (k + 1) (D.put (.string x.data.toList) (.lit (.bool true))) := by
  refine ⟨h.m.put _ _, fun s => ?_⟩
  by_cases g : s = x
  · have hkl : WideAt.IsKeyLit (.string x.data.toList) := trivial
    rw [g, atKey_put_same h.m hkl, occ_iff.2 ((mem_take_more hk).2 (.inl hx))]
  · have hne : Lit.string s.data.toList ≠ Lit.string x.data.toList := fun e => g (Go.WideShapes.bytes_inj (Lit.string.inj e))
    rw [atKey_put_other hne, h.a s]
    have e : occB xs k s = occB xs (k + 1) s := by
      cases e : occB xs (k + 1) s
      · cases e' : occB xs k s
        · rfl
        · exact absurd ((mem_take_more hk).2 (.inr (occ_iff.1 e'))) (occ_no e)
      · exact occ_iff.2 (((mem_take_more hk).1 (occ_iff.1 e)).resolve_left (fun e' => g (e'.trans hx.symm)))
    rw [e]
end Go.Proofs.Ytaifhikhdcnacaa
