/- Catalogues as arguments: items (a season or a feast: an identifier and eight integers), slices of items in memory; an argument opened; every argument reads behind a call that only makes new blocks as it read before. -/
import Derived.Test.YtomoaolomddidaaKa
import Derived.OpenShut
import Derived.ShutString
import Derived.Lib.SmallJoins
import Derived.Deep.Slices
import Derived.Deep.Fields
import Derived.ReadAgain
import Derived.ProofKit
import Derived.WalkKit
namespace Go.Proofs.Ytomoaolomddidaa
open Go.ChangeShapes Go.WideShapes Go.RowKit Go.Joins Go.Deep

structure Itm where
  id : ByteArray
  x : Int
  y : Int
  k : Int
  m : Int
  d : Int
  o : Int
  w : Int
  c : Int
abbrev Itm.vals (t : Itm) : Array Value := #[.string t.id, .int .i64 t.x, .int .i64 t.y, .int .i64 t.k, .int .i64 t.m, .int .i64 t.d, .int .i64 t.o, .int .i64 t.w, .int .i64 t.c]
/-- What a season or feast that came in is: 64-bit integers, a string that memory holds. -/
structure Itm.Ok (t : Itm) : Prop where
  id : t.id.size ≤ maxLen
  x : (Lit.int .i64 t.x).wf = true
  y : (Lit.int .i64 t.y).wf = true
  k : (Lit.int .i64 t.k).wf = true
  m : (Lit.int .i64 t.m).wf = true
  d : (Lit.int .i64 t.d).wf = true
  o : (Lit.int .i64 t.o).wf = true
  w : (Lit.int .i64 t.w).wf = true
  c : (Lit.int .i64 t.c).wf = true
/-- An item lies in memory from a place on. -/
def ItmAt (W : World) (b p : Nat) (t : Itm) : Prop := ∀ j : Nat, j < 9 → W.cell? ⟨b, p + j, none⟩ = t.vals[j]?
/-- A slice of items. -/
def SlAt (W : World) (v : Value) (ts : List Itm) : Prop :=
  ∃ (A : Option Addr) (cap : Nat), v = .slice A ts.length cap ∧ ts.length ≤ cap ∧ cap ≤ maxLen ∧ ∀ (i : Nat) (t : Itm), ts[i]? = some t → ∃ b o, A = some ⟨b, o, none⟩ ∧ b < W.heap.size ∧ ItmAt W b (o + i * 9) t
structure Cat where
  free : Int
  ss : List Itm
  fs : List Itm
/-- A catalogue that came in. -/
structure CatAt (W : World) (v : Value) (c : Cat) : Prop where
  v : ∃ vs vf, v = .agg #[.int .i64 c.free, vs, vf] ∧ SlAt W vs c.ss ∧ SlAt W vf c.fs
  free : (Lit.int .i64 c.free).wf = true
  ss : ∀ t ∈ c.ss, t.Ok
  fs : ∀ t ∈ c.fs, t.Ok
theorem ItmAt.on {W W' : World} {b p : Nat} {t : Itm} (h : ItmAt W b p t) (hb : Below W.heap.size W W') (hl : b < W.heap.size) : ItmAt W' b p t := fun j hj => by rw [hb.cell hl]; exact h j hj
theorem SlAt.on {W W' : World} {v : Value} {ts : List Itm} (h : SlAt W v ts) (hb : Below W.heap.size W W') : SlAt W' v ts := by
  obtain ⟨A, cap, hv, h1, h2, h3⟩ := h
  refine ⟨A, cap, hv, h1, h2, fun i t ht => ?_⟩
  obtain ⟨b, o, e1, e2, e3⟩ := h3 i t ht
  exact ⟨b, o, e1, Nat.lt_of_lt_of_le e2 hb.size, e3.on hb e2⟩

section
variable {H : Type} {enc : TypeId × Value → H} {P : Program} {w : World} {base : Nat} {spare : Nat → Bool} {held : Bool}
theorem list6 {l : List Value} (h : l.length = 6) : ∃ a b c d e f, l = [a, b, c, d, e, f] := by
  match l, h with
  | [a, b, c, d, e, f], _ => exact ⟨a, b, c, d, e, f, rfl⟩
theorem list9 {l : List Value} (h : l.length = 9) : ∃ a b c d e f g i j, l = [a, b, c, d, e, f, g, i, j] := by
  match l, h with
  | [a, b, c, d, e, f, g, i, j], _ => exact ⟨a, b, c, d, e, f, g, i, j, rfl⟩
theorem list4 {α : Type} {l : List α} (h : l.length = 4) : ∃ a b c d, l = [a, b, c, d] := by
  match l, h with
  | [a, b, c, d], _ => exact ⟨a, b, c, d, rfl⟩
theorem one_int {t fuel : Nat} {v : Value} {y : Option (DataW H × List MemPlace)} {x : DataW H × List MemPlace} (ht : P.underlying t = some (.int .i64)) (h : DataW.trod enc P w base spare held fuel t [v] = y) (hy : y = some x) : ∃ n : Int, v = .int .i64 n ∧ (Lit.int .i64 n).wf = true := by
  subst hy
  obtain ⟨n, e1, _, e3⟩ := DataW.trod_int ht h
  exact ⟨n, by simpa using e1, e3⟩
theorem trod_anc {t ti fuel : Nat} {f0 f1 f2 f3 f4 f5 : Field} {cs : List Value} {x : DataW H × List MemPlace} (hs : P.underlying t = some (.struct #[f0, f1, f2, f3, f4, f5])) (hone : oneCellFields P #[f0, f1, f2, f3, f4, f5] = true) (hC : P.cellsOf t = 6) (hi : P.underlying ti = some (.int .i64))
    (h0 : f0.type = ti) (h1 : f1.type = ti) (h2 : f2.type = ti) (h3 : f3.type = ti) (h4 : f4.type = ti) (h5 : f5.type = ti) (h : DataW.trod enc P w base spare held fuel t cs = some x) :
    ∃ k m d o w' c : Int, cs = [.int .i64 k, .int .i64 m, .int .i64 d, .int .i64 o, .int .i64 w', .int .i64 c] ∧ (Lit.int .i64 k).wf = true ∧ (Lit.int .i64 m).wf = true ∧ (Lit.int .i64 d).wf = true ∧ (Lit.int .i64 o).wf = true ∧ (Lit.int .i64 w').wf = true ∧ (Lit.int .i64 c).wf = true := by
  obtain ⟨xs, n, _, _, hlen, hxl, hg⟩ := DataW.trod_struct hs h
  obtain ⟨c0, c1, c2, c3, c4, c5, rfl⟩ := list6 (hlen.trans hC)
  have key : ∀ (j : Nat) (f : Field) (v : Value), #[f0, f1, f2, f3, f4, f5][j]? = some f → f.type = ti → ([c0, c1, c2, c3, c4, c5].drop j).take 1 = [v] → ∃ n : Int, v = .int .i64 n ∧ (Lit.int .i64 n).wf = true := by
    intro j f v hj hft hd
    have e := hg j f hj
    obtain ⟨o1, o2⟩ := hone_of hone j f hj
    rw [o1, o2, hd, hft] at e
    have hjl : j < xs.length := by
      have := (Array.getElem?_eq_some_iff.1 hj).1
      omega
    exact one_int hi e (List.getElem?_eq_getElem hjl)
  obtain ⟨n0, rfl, w0⟩ := key 0 f0 c0 rfl h0 rfl
  obtain ⟨n1, rfl, w1⟩ := key 1 f1 c1 rfl h1 rfl
  obtain ⟨n2, rfl, w2⟩ := key 2 f2 c2 rfl h2 rfl
  obtain ⟨n3, rfl, w3⟩ := key 3 f3 c3 rfl h3 rfl
  obtain ⟨n4, rfl, w4⟩ := key 4 f4 c4 rfl h4 rfl
  obtain ⟨n5, rfl, w5⟩ := key 5 f5 c5 rfl h5 rfl
  exact ⟨n0, n1, n2, n3, n4, n5, rfl, w0, w1, w2, w3, w4, w5⟩
/-- An item of a struct type (a string, two integers, an anchor). -/
theorem trod_itm {t ti ts ta fuel : Nat} {f0 f1 f2 f3 f4 f5 g0 g1 g2 g3 : Field} {cs : List Value} {x : DataW H × List MemPlace} (ht : P.underlying t = some (.struct #[g0, g1, g2, g3])) (hC9 : P.cellsOf t = 9)
    (o0 : g0.offset = 0) (o1 : g1.offset = 1) (o2 : g2.offset = 2) (o3 : g3.offset = 3) (s0 : P.cellsOf g0.type = 1) (s1 : P.cellsOf g1.type = 1) (s2 : P.cellsOf g2.type = 1) (s3 : P.cellsOf g3.type = 6)
    (t0 : g0.type = ts) (t1 : g1.type = ti) (t2 : g2.type = ti) (t3 : g3.type = ta) (hst : P.underlying ts = some .string) (hi : P.underlying ti = some (.int .i64))
    (hs : P.underlying ta = some (.struct #[f0, f1, f2, f3, f4, f5])) (hone : oneCellFields P #[f0, f1, f2, f3, f4, f5] = true) (hC : P.cellsOf ta = 6)
    (h0 : f0.type = ti) (h1 : f1.type = ti) (h2 : f2.type = ti) (h3 : f3.type = ti) (h4 : f4.type = ti) (h5 : f5.type = ti) (h : DataW.trod enc P w base spare held fuel t cs = some x) :
    ∃ z : Itm, cs = z.vals.toList ∧ z.Ok := by
  obtain ⟨xs, n, _, _, hlen, hxl, hg⟩ := DataW.trod_struct ht h
  obtain ⟨c0, c1, c2, c3, c4, c5, c6, c7, c8, rfl⟩ := list9 (hlen.trans hC9)
  obtain ⟨y0, y1, y2, y3, rfl⟩ := list4 hxl
  have e0 := hg 0 g0 rfl
  have e1 := hg 1 g1 rfl
  have e2 := hg 2 g2 rfl
  have e3 := hg 3 g3 rfl
  rw [o0, s0, t0] at e0
  rw [o1, s1, t1] at e1
  rw [o2, s2, t2] at e2
  rw [o3, s3, t3] at e3
  obtain ⟨s, es, _, ws⟩ := DataW.trod_string hst (show DataW.trod enc P w base spare held n ts [c0] = some y0 from e0)
  obtain ⟨a, rfl, wa⟩ := one_int hi (show DataW.trod enc P w base spare held n ti [c1] = some y1 from e1) rfl
  obtain ⟨b, rfl, wb⟩ := one_int hi (show DataW.trod enc P w base spare held n ti [c2] = some y2 from e2) rfl
  obtain ⟨k, m, d, o, w', c, ec, wk, wm, wd, wo, ww, wc⟩ := trod_anc hs hone hC hi h0 h1 h2 h3 h4 h5 (show DataW.trod enc P w base spare held n ta [c3, c4, c5, c6, c7, c8] = some y3 from e3)
  simp only [List.cons.injEq, and_true] at es ec
  obtain ⟨rfl, rfl, rfl, rfl, rfl, rfl⟩ := ec
  subst es
  exact ⟨⟨s, a, b, k, m, d, o, w', c⟩, rfl, ⟨ws, wa, wb, wk, wm, wd, wo, ww, wc⟩⟩
theorem cell_spot {a : Addr} {v : Value} (h : w.cell? a = some v) : a.spot = none := by
  unfold World.cell? at h
  split at h
  · cases hs : a.spot with
    | none => rfl
    | some x => rw [hs] at h; simp at h
  · cases h
theorem add_none (b o n : Nat) : (⟨b, o, none⟩ : Addr).add n = ⟨b, o + n, none⟩ := by
  unfold Addr.add
  split
  · rename_i h; subst h; rfl
  · rfl
/-- A slice of items. -/
theorem trod_items {t e fuel : Nat} {cs : List Value} {x : DataW H × List MemPlace} (ht : P.underlying t = some (.slice e)) (hC : P.cellsOf e = 9)
    (hI : ∀ (n : Nat) (cs' : List Value) (y : DataW H × List MemPlace), DataW.trod enc P w base spare held n e cs' = some y → ∃ z : Itm, cs' = z.vals.toList ∧ z.Ok) (h : DataW.trod enc P w base spare held fuel t cs = some x) :
    ∃ (v : Value) (ts : List Itm), cs = [v] ∧ SlAt w v ts ∧ ∀ z ∈ ts, z.Ok := by
  rcases open_slice ht h with ⟨rfl, _⟩ | ⟨a, len, cap, m, n, D, Pl, rfl, hb, hl, hm, hmm, _, hall⟩
  · exact ⟨_, [], rfl, ⟨none, 0, rfl, Nat.le_refl _, Nat.zero_le _, fun i t hi => by simp at hi⟩, fun z hz => by simp at hz⟩
  · have hle : len ≤ m := by rw [hmm]; split <;> omega
    have one : ∀ i, i < len → ∃ z : Itm, z.Ok ∧ ∀ j, j < 9 → w.cell? ((a.add (i * 9)).add j) = z.vals[j]? := by
      intro i hi
      obtain ⟨cs', h1, h2⟩ := hall i (by omega)
      rw [hC] at h1
      obtain ⟨z, e1, e2⟩ := hI _ _ _ h2
      obtain ⟨_, _, h4⟩ := World.cells?_some h1
      exact ⟨z, e2, fun j hj => by rw [h4 j hj, e1]; simp⟩
    have each : ∀ i, ∃ z : Itm, i < len → z.Ok ∧ ∀ j, j < 9 → w.cell? ((a.add (i * 9)).add j) = z.vals[j]? := fun i => by
      by_cases hi : i < len
      · obtain ⟨z, hz⟩ := one i hi
        exact ⟨z, fun _ => hz⟩
      · exact ⟨⟨ByteArray.empty, 0, 0, 0, 0, 0, 0, 0, 0⟩, fun h => absurd h hi⟩
    have zz : ∃ f : Nat → Itm, ∀ i, i < len → (f i).Ok ∧ ∀ j, j < 9 → w.cell? ((a.add (i * 9)).add j) = (f i).vals[j]? := ⟨fun i => (each i).choose, fun i => (each i).choose_spec⟩
    obtain ⟨f, hf⟩ := zz
    refine ⟨_, (List.range len).map f, rfl, ⟨some a, cap, by simp, by simpa using hl, hm, fun i t hi => ?_⟩, fun z hz => ?_⟩
    · have hil : i < len := by
        have := (List.getElem?_eq_some_iff.1 hi).1
        simpa using this
      have ht : t = f i := by
        rw [List.getElem?_map, List.getElem?_range hil] at hi
        exact (Option.some.inj hi).symm
      have hs : a.spot = none := by
        have h0 := (hf 0 (by omega)).2 0 (by decide)
        exact cell_spot (v := .string (f 0).id) h0
      obtain ⟨ab, ao, asp⟩ := a
      obtain rfl : asp = none := hs
      have hcell := (hf i hil).2
      refine ⟨ab, ao, rfl, ?_, fun j hj => ?_⟩
      · have h0 := hcell 0 (by decide)
        rw [add_none, add_none] at h0
        exact World.block_lt_of_cell? w _ (u := .string (f i).id) h0
      · have := hcell j hj
        rw [add_none, add_none] at this
        rw [ht]; exact this
    · rw [List.mem_map] at hz
      obtain ⟨i, hi, rfl⟩ := hz
      exact (hf i (List.mem_range.1 hi)).1
/-- Every argument reads behind a call that only makes new blocks as it read before. -/
theorem carry_all {W' : World} : ∀ {ts : List TypeId} {vs : List Value} {ds : List (DataW H)} {ps : List MemPlace}, DataW.TrodAll enc P w base spare held ts vs ds ps → (∀ p ∈ ps, w.sameAt W' p) → DataW.TrodAll enc P W' base spare held ts vs ds ps
  | [], [], [], _, h, _ => h
  | _ :: _, _ :: _, _ :: _, _, ⟨p, q, ⟨n, h1⟩, h2, e⟩, hs => ⟨p, q, ⟨n, DataW.trod_carry n _ _ _ h1 (fun x hx => hs x (by rw [e]; exact List.mem_append_left _ hx))⟩, carry_all h2 (fun x hx => hs x (by rw [e]; exact List.mem_append_right _ hx)), e⟩
theorem back_all {T : TypeId → Prop} (K : Kids P T) (hz : ∀ t e, T t → P.underlying t = some (.slice e) → 0 < P.cellsOf e) {W' : World} {sp : Nat → Bool} {ts : List TypeId} {vs : List Value} {ds : List (DataW H)} {ps : List MemPlace} (hT : ∀ t ∈ ts, T t)
    (h : DataW.TrodAll enc P w base (fun _ => true) true ts vs ds ps) (hlt : ∀ p ∈ ps, p.block < w.heap.size) (hb : Below w.heap.size w W') (hsp : ∀ p ∈ ps, sp p.block = true) : DataW.TrodAll enc P W' base sp true ts vs ds ps :=
  carry_all (h.respare K hz hT hsp) (fun p hp => hb.same (hlt p hp))
end
set_option maxRecDepth 100000 in
theorem zkids : Kids Try.prog (· < Try.prog.types.size) := kids_rows (by kernel_rfl) (by kernel_rfl)
set_option maxRecDepth 100000 in
theorem zfull : ∀ t e, t < Try.prog.types.size → Try.prog.underlying t = some (.slice e) → 0 < Try.prog.cellsOf e := slices_full_of Try.prog (by kernel_rfl)
section
variable {H : Type} {enc : TypeId × Value → H} {w : World} {base : Nat} {spare : Nat → Bool} {held : Bool}
/-- An anchor that came in. -/
structure AncOk (k m d o w c : Int) : Prop where
  k : (Lit.int .i64 k).wf = true
  m : (Lit.int .i64 m).wf = true
  d : (Lit.int .i64 d).wf = true
  o : (Lit.int .i64 o).wf = true
  w : (Lit.int .i64 w).wf = true
  c : (Lit.int .i64 c).wf = true
end
end Go.Proofs.Ytomoaolomddidaa
