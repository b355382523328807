/- What earlier stages proved: Zc Zd Ze Zg Zh Zm. -/
import Derived.Test.YtiegddohgjofbaaKa
import Derived.OpenShut
import Derived.ShutString
import Derived.Lib.SmallJoins
import Derived.Deep.Slices
import Derived.Deep.Fields
import Derived.ReadAgain
import Derived.ProofKit
import Derived.WalkKit
import Derived.Test.YtiegddohgjofbaaKv
import Derived.Test.YtiegddohgjofbaaKn
import Derived.Test.YtiegddohgjofbaaKo
import Derived.Test.YtiegddohgjofbaaKr
import Derived.Laws.RangeAny
import Derived.Maps.Own
import Derived.Maps.Views
namespace Go.Proofs.Ytiegddohgjofbaa
open Go.ChangeShapes Go.WideShapes Go.RowKit Go.Joins Go.Deep

structure Itm where
  id : ByteArray
  x : Int
  y : Int
  k : Int
  m : Int
  d : Int
  o : Int
  w : Int
  c : Int
abbrev Itm.vals (t : Itm) : Array Value := #[.string t.id, .int .i64 t.x, .int .i64 t.y, .int .i64 t.k, .int .i64 t.m, .int .i64 t.d, .int .i64 t.o, .int .i64 t.w, .int .i64 t.c]
/-- What a season or feast that came in is: 64-bit integers, a string that memory holds. -/
structure Itm.Ok (t : Itm) : Prop where
  id : t.id.size ≤ maxLen
  x : (Lit.int .i64 t.x).wf = true
  y : (Lit.int .i64 t.y).wf = true
  k : (Lit.int .i64 t.k).wf = true
  m : (Lit.int .i64 t.m).wf = true
  d : (Lit.int .i64 t.d).wf = true
  o : (Lit.int .i64 t.o).wf = true
  w : (Lit.int .i64 t.w).wf = true
  c : (Lit.int .i64 t.c).wf = true
/-- An item lies in memory from a place on. -/
def ItmAt (W : World) (b p : Nat) (t : Itm) : Prop := ∀ j : Nat, j < 9 → W.cell? ⟨b, p + j, none⟩ = t.vals[j]?
/-- A slice of items. -/
def SlAt (W : World) (v : Value) (ts : List Itm) : Prop :=
  ∃ (A : Option Addr) (cap : Nat), v = .slice A ts.length cap ∧ ts.length ≤ cap ∧ cap ≤ maxLen ∧ ∀ (i : Nat) (t : Itm), ts[i]? = some t → ∃ b o, A = some ⟨b, o, none⟩ ∧ b < W.heap.size ∧ ItmAt W b (o + i * 9) t
structure Cat where
  free : Int
  ss : List Itm
  fs : List Itm
/-- A catalogue that came in. -/
structure CatAt (W : World) (v : Value) (c : Cat) : Prop where
  v : ∃ vs vf, v = .agg #[.int .i64 c.free, vs, vf] ∧ SlAt W vs c.ss ∧ SlAt W vf c.fs
  free : (Lit.int .i64 c.free).wf = true
  ss : ∀ t ∈ c.ss, t.Ok
  fs : ∀ t ∈ c.fs, t.Ok
theorem ItmAt.on {W W' : World} {b p : Nat} {t : Itm} (h : ItmAt W b p t) (hb : Below W.heap.size W W') (hl : b < W.heap.size) : ItmAt W' b p t := fun j hj => by rw [hb.cell hl]; exact h j hj
theorem SlAt.on {W W' : World} {v : Value} {ts : List Itm} (h : SlAt W v ts) (hb : Below W.heap.size W W') : SlAt W' v ts := by
  obtain ⟨A, cap, hv, h1, h2, h3⟩ := h
  refine ⟨A, cap, hv, h1, h2, fun i t ht => ?_⟩
  obtain ⟨b, o, e1, e2, e3⟩ := h3 i t ht
  exact ⟨b, o, e1, Nat.lt_of_lt_of_le e2 hb.size, e3.on hb e2⟩

section
variable {H : Type} {enc : TypeId × Value → H} {P : Program} {w : World} {base : Nat} {spare : Nat → Bool} {held : Bool}
theorem list6 {l : List Value} (h : l.length = 6) : ∃ a b c d e f, l = [a, b, c, d, e, f] := by
  match l, h with
  | [a, b, c, d, e, f], _ => exact ⟨a, b, c, d, e, f, rfl⟩
theorem list9 {l : List Value} (h : l.length = 9) : ∃ a b c d e f g i j, l = [a, b, c, d, e, f, g, i, j] := by
  match l, h with
  | [a, b, c, d, e, f, g, i, j], _ => exact ⟨a, b, c, d, e, f, g, i, j, rfl⟩
theorem list4 {α : Type} {l : List α} (h : l.length = 4) : ∃ a b c d, l = [a, b, c, d] := by
  match l, h with
  | [a, b, c, d], _ => exact ⟨a, b, c, d, rfl⟩
theorem one_int {t fuel : Nat} {v : Value} {y : Option (DataW H × List MemPlace)} {x : DataW H × List MemPlace} (ht : P.underlying t = some (.int .i64)) (h : DataW.trod enc P w base spare held fuel t [v] = y) (hy : y = some x) : ∃ n : Int, v = .int .i64 n ∧ (Lit.int .i64 n).wf = true := by
  subst hy
  obtain ⟨n, e1, _, e3⟩ := DataW.trod_int ht h
  exact ⟨n, by simpa using e1, e3⟩
theorem trod_anc {t ti fuel : Nat} {f0 f1 f2 f3 f4 f5 : Field} {cs : List Value} {x : DataW H × List MemPlace} (hs : P.underlying t = some (.struct #[f0, f1, f2, f3, f4, f5])) (hone : oneCellFields P #[f0, f1, f2, f3, f4, f5] = true) (hC : P.cellsOf t = 6) (hi : P.underlying ti = some (.int .i64))
    (h0 : f0.type = ti) (h1 : f1.type = ti) (h2 : f2.type = ti) (h3 : f3.type = ti) (h4 : f4.type = ti) (h5 : f5.type = ti) (h : DataW.trod enc P w base spare held fuel t cs = some x) :
    ∃ k m d o w' c : Int, cs = [.int .i64 k, .int .i64 m, .int .i64 d, .int .i64 o, .int .i64 w', .int .i64 c] ∧ (Lit.int .i64 k).wf = true ∧ (Lit.int .i64 m).wf = true ∧ (Lit.int .i64 d).wf = true ∧ (Lit.int .i64 o).wf = true ∧ (Lit.int .i64 w').wf = true ∧ (Lit.int .i64 c).wf = true := by
  obtain ⟨xs, n, _, _, hlen, hxl, hg⟩ := DataW.trod_struct hs h
  obtain ⟨c0, c1, c2, c3, c4, c5, rfl⟩ := list6 (hlen.trans hC)
  have key : ∀ (j : Nat) (f : Field) (v : Value), #[f0, f1, f2, f3, f4, f5][j]? = some f → f.type = ti → ([c0, c1, c2, c3, c4, c5].drop j).take 1 = [v] → ∃ n : Int, v = .int .i64 n ∧ (Lit.int .i64 n).wf = true := by
    intro j f v hj hft hd
    have e := hg j f hj
    obtain ⟨o1, o2⟩ := hone_of hone j f hj
    rw [o1, o2, hd, hft] at e
    have hjl : j < xs.length := by
      have := (Array.getElem?_eq_some_iff.1 hj).1
      omega
    exact one_int hi e (List.getElem?_eq_getElem hjl)
  obtain ⟨n0, rfl, w0⟩ := key 0 f0 c0 rfl h0 rfl
  obtain ⟨n1, rfl, w1⟩ := key 1 f1 c1 rfl h1 rfl
  obtain ⟨n2, rfl, w2⟩ := key 2 f2 c2 rfl h2 rfl
  obtain ⟨n3, rfl, w3⟩ := key 3 f3 c3 rfl h3 rfl
  obtain ⟨n4, rfl, w4⟩ := key 4 f4 c4 rfl h4 rfl
  obtain ⟨n5, rfl, w5⟩ := key 5 f5 c5 rfl h5 rfl
  exact ⟨n0, n1, n2, n3, n4, n5, rfl, w0, w1, w2, w3, w4, w5⟩
/-- An item of a struct type (a string, two integers, an anchor). -/
theorem trod_itm {t ti ts ta fuel : Nat} {f0 f1 f2 f3 f4 f5 g0 g1 g2 g3 : Field} {cs : List Value} {x : DataW H × List MemPlace} (ht : P.underlying t = some (.struct #[g0, g1, g2, g3])) (hC9 : P.cellsOf t = 9)
    (o0 : g0.offset = 0) (o1 : g1.offset = 1) (o2 : g2.offset = 2) (o3 : g3.offset = 3) (s0 : P.cellsOf g0.type = 1) (s1 : P.cellsOf g1.type = 1) (s2 : P.cellsOf g2.type = 1) (s3 : P.cellsOf g3.type = 6)
    (t0 : g0.type = ts) (t1 : g1.type = ti) (t2 : g2.type = ti) (t3 : g3.type = ta) (hst : P.underlying ts = some .string) (hi : P.underlying ti = some (.int .i64))
    (hs : P.underlying ta = some (.struct #[f0, f1, f2, f3, f4, f5])) (hone : oneCellFields P #[f0, f1, f2, f3, f4, f5] = true) (hC : P.cellsOf ta = 6)
    (h0 : f0.type = ti) (h1 : f1.type = ti) (h2 : f2.type = ti) (h3 : f3.type = ti) (h4 : f4.type = ti) (h5 : f5.type = ti) (h : DataW.trod enc P w base spare held fuel t cs = some x) :
    ∃ z : Itm, cs = z.vals.toList ∧ z.Ok := by
  obtain ⟨xs, n, _, _, hlen, hxl, hg⟩ := DataW.trod_struct ht h
  obtain ⟨c0, c1, c2, c3, c4, c5, c6, c7, c8, rfl⟩ := list9 (hlen.trans hC9)
  obtain ⟨y0, y1, y2, y3, rfl⟩ := list4 hxl
  have e0 := hg 0 g0 rfl
  have e1 := hg 1 g1 rfl
  have e2 := hg 2 g2 rfl
  have e3 := hg 3 g3 rfl
  rw [o0, s0, t0] at e0
  rw [o1, s1, t1] at e1
  rw [o2, s2, t2] at e2
  rw [o3, s3, t3] at e3
  obtain ⟨s, es, _, ws⟩ := DataW.trod_string hst (show DataW.trod enc P w base spare held n ts [c0] = some y0 from e0)
  obtain ⟨a, rfl, wa⟩ := one_int hi (show DataW.trod enc P w base spare held n ti [c1] = some y1 from e1) rfl
  obtain ⟨b, rfl, wb⟩ := one_int hi (show DataW.trod enc P w base spare held n ti [c2] = some y2 from e2) rfl
  obtain ⟨k, m, d, o, w', c, ec, wk, wm, wd, wo, ww, wc⟩ := trod_anc hs hone hC hi h0 h1 h2 h3 h4 h5 (show DataW.trod enc P w base spare held n ta [c3, c4, c5, c6, c7, c8] = some y3 from e3)
  simp only [List.cons.injEq, and_true] at es ec
  obtain ⟨rfl, rfl, rfl, rfl, rfl, rfl⟩ := ec
  subst es
  exact ⟨⟨s, a, b, k, m, d, o, w', c⟩, rfl, ⟨ws, wa, wb, wk, wm, wd, wo, ww, wc⟩⟩
theorem cell_spot {a : Addr} {v : Value} (h : w.cell? a = some v) : a.spot = none := by
  unfold World.cell? at h
  split at h
  · cases hs : a.spot with
    | none => rfl
    | some x => rw [hs] at h; simp at h
  · cases h
theorem add_none (b o n : Nat) : (⟨b, o, none⟩ : Addr).add n = ⟨b, o + n, none⟩ := by
  unfold Addr.add
  split
  · rename_i h; subst h; rfl
  · rfl
/-- A slice of items. -/
theorem trod_items {t e fuel : Nat} {cs : List Value} {x : DataW H × List MemPlace} (ht : P.underlying t = some (.slice e)) (hC : P.cellsOf e = 9)
    (hI : ∀ (n : Nat) (cs' : List Value) (y : DataW H × List MemPlace), DataW.trod enc P w base spare held n e cs' = some y → ∃ z : Itm, cs' = z.vals.toList ∧ z.Ok) (h : DataW.trod enc P w base spare held fuel t cs = some x) :
    ∃ (v : Value) (ts : List Itm), cs = [v] ∧ SlAt w v ts ∧ ∀ z ∈ ts, z.Ok := by
  rcases open_slice ht h with ⟨rfl, _⟩ | ⟨a, len, cap, m, n, D, Pl, rfl, hb, hl, hm, hmm, _, hall⟩
  · exact ⟨_, [], rfl, ⟨none, 0, rfl, Nat.le_refl _, Nat.zero_le _, fun i t hi => by simp at hi⟩, fun z hz => by simp at hz⟩
  · have hle : len ≤ m := by rw [hmm]; split <;> omega
    have one : ∀ i, i < len → ∃ z : Itm, z.Ok ∧ ∀ j, j < 9 → w.cell? ((a.add (i * 9)).add j) = z.vals[j]? := by
      intro i hi
      obtain ⟨cs', h1, h2⟩ := hall i (by omega)
      rw [hC] at h1
      obtain ⟨z, e1, e2⟩ := hI _ _ _ h2
      obtain ⟨_, _, h4⟩ := World.cells?_some h1
      exact ⟨z, e2, fun j hj => by rw [h4 j hj, e1]; simp⟩
    have each : ∀ i, ∃ z : Itm, i < len → z.Ok ∧ ∀ j, j < 9 → w.cell? ((a.add (i * 9)).add j) = z.vals[j]? := fun i => by
      by_cases hi : i < len
      · obtain ⟨z, hz⟩ := one i hi
        exact ⟨z, fun _ => hz⟩
      · exact ⟨⟨ByteArray.empty, 0, 0, 0, 0, 0, 0, 0, 0⟩, fun h => absurd h hi⟩
    have zz : ∃ f : Nat → Itm, ∀ i, i < len → (f i).Ok ∧ ∀ j, j < 9 → w.cell? ((a.add (i * 9)).add j) = (f i).vals[j]? := ⟨fun i => (each i).choose, fun i => (each i).choose_spec⟩
    obtain ⟨f, hf⟩ := zz
    refine ⟨_, (List.range len).map f, rfl, ⟨some a, cap, by simp, by simpa using hl, hm, fun i t hi => ?_⟩, fun z hz => ?_⟩
    · have hil : i < len := by
        have := (List.getElem?_eq_some_iff.1 hi).1
        simpa using this
      have ht : t = f i := by
        rw [List.getElem?_map, List.getElem?_range hil] at hi
        exact (Option.some.inj hi).symm
      have hs : a.spot = none := by
        have h0 := (hf 0 (by omega)).2 0 (by decide)
        exact cell_spot (v := .string (f 0).id) h0
      obtain ⟨ab, ao, asp⟩ := a
      obtain rfl : asp = none := hs
      have hcell := (hf i hil).2
      refine ⟨ab, ao, rfl, ?_, fun j hj => ?_⟩
      · have h0 := hcell 0 (by decide)
        rw [add_none, add_none] at h0
        exact World.block_lt_of_cell? w _ (u := .string (f i).id) h0
      · have := hcell j hj
        rw [add_none, add_none] at this
        rw [ht]; exact this
    · rw [List.mem_map] at hz
      obtain ⟨i, hi, rfl⟩ := hz
      exact (hf i (List.mem_range.1 hi)).1
/-- Every argument reads behind a call that only makes new blocks as it read before. -/
theorem carry_all {W' : World} : ∀ {ts : List TypeId} {vs : List Value} {ds : List (DataW H)} {ps : List MemPlace}, DataW.TrodAll enc P w base spare held ts vs ds ps → (∀ p ∈ ps, w.sameAt W' p) → DataW.TrodAll enc P W' base spare held ts vs ds ps
  | [], [], [], _, h, _ => h
  | _ :: _, _ :: _, _ :: _, _, ⟨p, q, ⟨n, h1⟩, h2, e⟩, hs => ⟨p, q, ⟨n, DataW.trod_carry n _ _ _ h1 (fun x hx => hs x (by rw [e]; exact List.mem_append_left _ hx))⟩, carry_all h2 (fun x hx => hs x (by rw [e]; exact List.mem_append_right _ hx)), e⟩
theorem back_all {T : TypeId → Prop} (K : Kids P T) (hz : ∀ t e, T t → P.underlying t = some (.slice e) → 0 < P.cellsOf e) {W' : World} {sp : Nat → Bool} {ts : List TypeId} {vs : List Value} {ds : List (DataW H)} {ps : List MemPlace} (hT : ∀ t ∈ ts, T t)
    (h : DataW.TrodAll enc P w base (fun _ => true) true ts vs ds ps) (hlt : ∀ p ∈ ps, p.block < w.heap.size) (hb : Below w.heap.size w W') (hsp : ∀ p ∈ ps, sp p.block = true) : DataW.TrodAll enc P W' base sp true ts vs ds ps :=
  carry_all (h.respare K hz hT hsp) (fun p hp => hb.same (hlt p hp))
end
set_option maxRecDepth 100000 in
theorem zkids : Kids Try.prog (· < Try.prog.types.size) := kids_rows (by kernel_rfl) (by kernel_rfl)
set_option maxRecDepth 100000 in
theorem zfull : ∀ t e, t < Try.prog.types.size → Try.prog.underlying t = some (.slice e) → 0 < Try.prog.cellsOf e := slices_full_of Try.prog (by kernel_rfl)
section
variable {H : Type} {enc : TypeId × Value → H} {w : World} {base : Nat} {spare : Nat → Bool} {held : Bool}
set_option maxRecDepth 100000 in
theorem trod_season (n : Nat) (cs' : List Value) (y : DataW H × List MemPlace) (h : DataW.trod enc Try.prog w base spare held n 33 cs' = some y) : ∃ z : Itm, cs' = z.vals.toList ∧ z.Ok :=
  trod_itm Try.underlying33 (by kernel_rfl) rfl rfl rfl rfl (by kernel_rfl) (by kernel_rfl) (by kernel_rfl) (by kernel_rfl) rfl rfl rfl rfl Try.underlying9 Try.underlying3 Try.underlying31 (by kernel_rfl) (by kernel_rfl) rfl rfl rfl rfl rfl rfl h
set_option maxRecDepth 100000 in
theorem trod_feast (n : Nat) (cs' : List Value) (y : DataW H × List MemPlace) (h : DataW.trod enc Try.prog w base spare held n 35 cs' = some y) : ∃ z : Itm, cs' = z.vals.toList ∧ z.Ok :=
  trod_itm Try.underlying35 (by kernel_rfl) rfl rfl rfl rfl (by kernel_rfl) (by kernel_rfl) (by kernel_rfl) (by kernel_rfl) rfl rfl rfl rfl Try.underlying9 Try.underlying3 Try.underlying31 (by kernel_rfl) (by kernel_rfl) rfl rfl rfl rfl rfl rfl h
/-- An anchor that came in. -/
structure AncOk (k m d o w c : Int) : Prop where
  k : (Lit.int .i64 k).wf = true
  m : (Lit.int .i64 m).wf = true
  d : (Lit.int .i64 d).wf = true
  o : (Lit.int .i64 o).wf = true
  w : (Lit.int .i64 w).wf = true
  c : (Lit.int .i64 c).wf = true
set_option maxRecDepth 100000 in
theorem open_anchor {r : Reach} {b0 : Nat} {v : Value} {d : DataW H} {p : List MemPlace} (hv : Value.okWide Try.prog w r b0 31 v) (h : DataW.Trod enc Try.prog w base spare held 31 v d p) : ∃ k m d' o w' c : Int, v = .agg #[.int .i64 k, .int .i64 m, .int .i64 d', .int .i64 o, .int .i64 w', .int .i64 c] ∧ AncOk k m d' o w' c := by
  obtain ⟨cs, rfl, _⟩ := okWide_struct Try.underlying31 hv
  obtain ⟨n, h⟩ := h
  obtain ⟨k, m, d', o, w', c, e, a0, a1, a2, a3, a4, a5⟩ := trod_anc Try.underlying31 (by kernel_rfl) (by kernel_rfl) Try.underlying3 rfl rfl rfl rfl rfl rfl h
  refine ⟨k, m, d', o, w', c, ?_, ⟨a0, a1, a2, a3, a4, a5⟩⟩
  rw [show cs = #[.int .i64 k, .int .i64 m, .int .i64 d', .int .i64 o, .int .i64 w', .int .i64 c] from Array.toList_inj.1 e]
set_option maxRecDepth 100000 in
/-- A season, a feast, a catalogue that came in. -/
theorem open_season {r : Reach} {b0 : Nat} {v : Value} {d : DataW H} {p : List MemPlace} (hv : Value.okWide Try.prog w r b0 33 v) (h : DataW.Trod enc Try.prog w base spare held 33 v d p) : ∃ z : Itm, v = .agg z.vals ∧ z.Ok := by
  obtain ⟨cs, rfl, _⟩ := okWide_struct Try.underlying33 hv
  obtain ⟨n, h⟩ := h
  obtain ⟨z, e, ok⟩ := trod_season n _ _ h
  exact ⟨z, by rw [show cs = z.vals from Array.toList_inj.1 e], ok⟩
set_option maxRecDepth 100000 in
theorem open_feast {r : Reach} {b0 : Nat} {v : Value} {d : DataW H} {p : List MemPlace} (hv : Value.okWide Try.prog w r b0 35 v) (h : DataW.Trod enc Try.prog w base spare held 35 v d p) : ∃ z : Itm, v = .agg z.vals ∧ z.Ok := by
  obtain ⟨cs, rfl, _⟩ := okWide_struct Try.underlying35 hv
  obtain ⟨n, h⟩ := h
  obtain ⟨z, e, ok⟩ := trod_feast n _ _ h
  exact ⟨z, by rw [show cs = z.vals from Array.toList_inj.1 e], ok⟩
set_option maxRecDepth 100000 in
theorem open_cat {r : Reach} {b0 : Nat} {v : Value} {d : DataW H} {p : List MemPlace} (hv : Value.okWide Try.prog w r b0 26 v) (h : DataW.Trod enc Try.prog w base spare held 26 v d p) : ∃ c : Cat, CatAt w v c := by
  obtain ⟨v0, v1, v2, y0, y1, y2, n, rfl, _, _, h0, h1, h2⟩ := open_agg3 Try.underlying26 (by kernel_rfl) (show Try.prog.cellsOf 26 = 3 by kernel_rfl) hv h
  obtain ⟨f, rfl, wf⟩ := one_int Try.underlying3 h0 rfl
  obtain ⟨vs, ss, e1, s1, s2⟩ := trod_items Try.underlying23 (by kernel_rfl) trod_season h1
  obtain ⟨vf, fs, e2, f1, f2⟩ := trod_items Try.underlying24 (by kernel_rfl) trod_feast h2
  simp only [List.cons.injEq, and_true] at e1 e2
  subst e1 e2
  exact ⟨⟨f, ss, fs⟩, ⟨_, _, rfl, s1, f1⟩, wf, s2, f2⟩
end
end Go.Proofs.Ytiegddohgjofbaa

namespace Go.Proofs.Ytiegddohgjofbaa
open Go.RowKit

/-- The byte of a string at an index. -/
def bt (s : ByteArray) (i : Nat) : Int := ((s.data.toList.getD i 0).toNat : Int)
theorem bt_bd (s : ByteArray) (i : Nat) : 0 ≤ bt s i ∧ bt s i ≤ 255 := by
  unfold bt
  have := UInt8.toNat_lt (s.data.toList.getD i 0)
  omega
theorem bt_get {s : ByteArray} {i : Nat} (h : i < s.size) : (((s[i]'h).toNat : Nat) : Int) = bt s i := by
  unfold bt
  have h' : i < s.data.toList.length := by simpa using h
  rw [List.getD_eq_getElem?_getD, List.getElem?_eq_getElem h', Option.getD_some]
  rfl
theorem idx_str (s : ByteArray) (j : Int) (h0 : 0 ≤ j) (h1 : j < s.size) (w : World) : (Instr.index 9 (.string s) (.int .i64 j)).run Try.prog w = .ok (.int .u8 (bt s j.toNat)) w := by
  rw [run_index_string w 9 s .i64 j Try.underlying9, dif_pos ⟨h0, h1⟩, bt_get]
/-- May the byte at an index of an identifier be what it is? -/
def idc (s : ByteArray) (i : Nat) : Bool := (decide (97 ≤ bt s i) && decide (bt s i ≤ 122)) || ((decide (48 ≤ bt s i) && decide (bt s i ≤ 57) && decide (0 < i)) || (decide (bt s i = 45) && (decide (0 < i) && (decide (i + 1 < s.size) && !decide (bt s (i - 1) = 45)))))
def idn (s : ByteArray) : Bool := decide (1 ≤ s.size) && (decide (s.size ≤ 40) && (List.range s.size).all (idc s))
theorem idn_iff {s : ByteArray} : idn s = true ↔ 1 ≤ s.size ∧ s.size ≤ 40 ∧ ∀ i, i < s.size → idc s i = true := by
  unfold idn; simp [List.all_eq_true]
theorem idn_bad {s : ByteArray} {i : Nat} (h : i < s.size) (hc : idc s i = false) : idn s = false := by
  cases e : idn s
  · rfl
  · rw [(idn_iff.1 e).2.2 i h] at hc; cases hc
theorem idc_iff {s : ByteArray} {i : Nat} : idc s i = true ↔ (97 ≤ bt s i ∧ bt s i ≤ 122) ∨ (48 ≤ bt s i ∧ bt s i ≤ 57 ∧ 0 < i) ∨ (bt s i = 45 ∧ 0 < i ∧ i + 1 < s.size ∧ bt s (i - 1) ≠ 45) := by
  unfold idc; simp [Bool.and_eq_true, Bool.or_eq_true, and_assoc]
theorem idc_no {s : ByteArray} {i : Nat} (h : ¬ ((97 ≤ bt s i ∧ bt s i ≤ 122) ∨ (48 ≤ bt s i ∧ bt s i ≤ 57 ∧ 0 < i) ∨ (bt s i = 45 ∧ 0 < i ∧ i + 1 < s.size ∧ bt s (i - 1) ≠ 45))) : idc s i = false := by
  cases e : idc s i
  · rfl
  · exact absurd (idc_iff.1 e) h
def rk (x : Int) : Bool := decide (1 ≤ x) && decide (x ≤ 9)
def pol (x : Int) : Bool := decide (1 ≤ x) && decide (x ≤ 3)
def seaB (z : Itm) : Bool := idn z.id && (rk z.x && (rk z.y && wfA z.k z.m z.d z.o z.w z.c))
def feaB (z : Itm) : Bool := idn z.id && (rk z.x && (pol z.y && wfA z.k z.m z.d z.o z.w z.c))

theorem r17id_len (s : ByteArray) (h : (decide ((s.size : Int) < 1) = true) ∨ (decide ((s.size : Int) < 1) = false ∧ decide ((40 : Int) < s.size) = true)) (w : World) : Calls Try.prog 10 #[.string s] w fun e w' => e = .returned (.bool false) ∧ w = w' := by
  rcases h with h | ⟨h, g⟩
  all_goals
    go_enter Try.func10, Try.ntmps10
    go_wp2
    go_ret
    exact ⟨rfl, rfl⟩
set_option maxHeartbeats 1000000 in
set_option maxRecDepth 100000 in
theorem r17id_ok (s : ByteArray) (h1 : 1 ≤ s.size) (h2 : s.size ≤ 40) (w : World) : Calls Try.prog 10 #[.string s] w fun e w' => e = .returned (.bool (idn s)) ∧ w = w' := by
  have d1 : decide ((s.size : Int) < 1) = false := decide_eq_false (by omega)
  have d2 : decide ((40 : Int) < s.size) = false := decide_eq_false (by omega)
  go_enter Try.func10, Try.ntmps10
  go_wp2_with fail
  go_loop [3] (fun i => ∃ j : Int, 0 ≤ j ∧ j ≤ s.size ∧ i = .int .i64 j ∧ ∀ k : Nat, (k : Int) < j → idc s k = true) (fun i => (s.size - (intOf i).toNat))
  case atStart => exact ⟨0, by omega, by omega, rfl, fun k hk => by omega⟩
  case round =>
    obtain ⟨j, j0, j1, rfl, hall⟩ := hrel
    have HA := Lib.hid hall
    clear hall
    by_cases hj : j < s.size
    · have hlt : j.toNat < s.size := by omega
      have hjn : decide (j < (s.size : Int)) = true := decide_eq_true hj
      have HX := fun w => idx_str s j j0 hj w
      have cb := bt_bd s j.toNat
      have HC : idc s j.toNat = true → ∀ k : Nat, (k : Int) < j + 1 → idc s k = true := fun e k hk => by
        by_cases g : (k : Int) < j
        · exact HA.out k g
        · rw [show k = j.toNat by omega]; exact e
      have HN := fun h => idn_bad hlt (idc_no (s := s) (i := j.toNat) h)
      have HY := fun h => HC (idc_iff.2 h)
      have Hn := Lib.hid HN
      have Hy := Lib.hid HY
      have HL := fun (g0 : 0 ≤ j - 1) (w : World) => idx_str s (j - 1) g0 (by omega) w
      have pb := bt_bd s (j.toNat - 1)
      rw [show (j - 1).toNat = j.toNat - 1 by omega] at HL
      clear HN HY HC
      generalize hc : bt s j.toNat = c at *
      generalize hp : bt s (j.toNat - 1) = p at *
      have cases : (97 ≤ c ∧ c ≤ 122) ∨ (122 < c) ∨ (57 < c ∧ c < 97) ∨ (48 ≤ c ∧ c ≤ 57 ∧ 0 < j) ∨ (48 ≤ c ∧ c ≤ 57 ∧ j = 0) ∨ (c < 48 ∧ c ≠ 45) ∨ (c = 45 ∧ j = 0) ∨ (c = 45 ∧ 0 < j ∧ j = s.size - 1) ∨ (c = 45 ∧ 0 < j ∧ j < s.size - 1 ∧ p = 45) ∨ (c = 45 ∧ 0 < j ∧ j < s.size - 1 ∧ p ≠ 45) := by omega
      rcases cases with hh | hh | hh | hh | hh | hh | hh | hh | hh | hh
      · have k0 : decide (97 ≤ c) = true := decide_eq_true (by omega)
        have k1 : decide (c ≤ 122) = true := decide_eq_true (by omega)
        have hy := Lib.hid (Hy.out (by omega))
        clear hh
        go_wp2_with fail
        go_round
        case rel => exact ⟨j + 1, by omega, by omega, by first | (go_num; done) | (go_num; omega), hy.out⟩
        case measure => simp [intOf]; omega
      · have k0 : decide (97 ≤ c) = true := decide_eq_true (by omega)
        have k1 : decide (c ≤ 122) = false := decide_eq_false (by omega)
        have k2 : decide (48 ≤ c) = true := decide_eq_true (by omega)
        have k3 : decide (c ≤ 57) = false := decide_eq_false (by omega)
        have k4 : (c != 45) = true := bne_iff_ne.2 (by omega)
        have hf := Hn.out (by omega)
        clear hh
        go_wp2_with fail
        go_ret
        exact ⟨rfl, rfl⟩
      · have k0 : decide (97 ≤ c) = false := decide_eq_false (by omega)
        have k1 : decide (48 ≤ c) = true := decide_eq_true (by omega)
        have k2 : decide (c ≤ 57) = false := decide_eq_false (by omega)
        have k3 : (c != 45) = true := bne_iff_ne.2 (by omega)
        have hf := Hn.out (by omega)
        clear hh
        go_wp2_with fail
        go_ret
        exact ⟨rfl, rfl⟩
      · have k0 : decide (97 ≤ c) = false := decide_eq_false (by omega)
        have k1 : decide (48 ≤ c) = true := decide_eq_true (by omega)
        have k2 : decide (c ≤ 57) = true := decide_eq_true (by omega)
        have k3 : decide (0 < j) = true := decide_eq_true (by omega)
        have hy := Lib.hid (Hy.out (by omega))
        clear hh
        go_wp2_with fail
        go_round
        case rel => exact ⟨j + 1, by omega, by omega, by first | (go_num; done) | (go_num; omega), hy.out⟩
        case measure => simp [intOf]; omega
      · have k0 : decide (97 ≤ c) = false := decide_eq_false (by omega)
        have k1 : decide (48 ≤ c) = true := decide_eq_true (by omega)
        have k2 : decide (c ≤ 57) = true := decide_eq_true (by omega)
        have k3 : decide (0 < j) = false := decide_eq_false (by omega)
        have k4 : (c != 45) = true := bne_iff_ne.2 (by omega)
        have hf := Hn.out (by omega)
        clear hh
        go_wp2_with fail
        go_ret
        exact ⟨rfl, rfl⟩
      · have k0 : decide (97 ≤ c) = false := decide_eq_false (by omega)
        have k1 : decide (48 ≤ c) = false := decide_eq_false (by omega)
        have k2 : (c != 45) = true := bne_iff_ne.2 (by omega)
        have hf := Hn.out (by omega)
        clear hh
        go_wp2_with fail
        go_ret
        exact ⟨rfl, rfl⟩
      · have k0 : decide (97 ≤ c) = false := decide_eq_false (by omega)
        have k1 : decide (48 ≤ c) = false := decide_eq_false (by omega)
        have k2 : (c != 45) = false := bne_eq_false_iff_eq.2 (by omega)
        have k3 : (j == 0) = true := beq_iff_eq.2 (by omega)
        have hf := Hn.out (by omega)
        clear hh
        go_wp2_with fail
        go_ret
        exact ⟨rfl, rfl⟩
      · have k0 : decide (97 ≤ c) = false := decide_eq_false (by omega)
        have k1 : decide (48 ≤ c) = false := decide_eq_false (by omega)
        have k2 : (c != 45) = false := bne_eq_false_iff_eq.2 (by omega)
        have k3 : (j == 0) = false := beq_eq_false_iff_ne.2 (by omega)
        have k4 : (j == (s.size : Int) - 1) = true := beq_iff_eq.2 (by omega)
        have hf := Hn.out (by omega)
        clear hh
        go_wp2_with fail
        go_ret
        exact ⟨rfl, rfl⟩
      · have k0 : decide (97 ≤ c) = false := decide_eq_false (by omega)
        have k1 : decide (48 ≤ c) = false := decide_eq_false (by omega)
        have k2 : (c != 45) = false := bne_eq_false_iff_eq.2 (by omega)
        have k3 : (j == 0) = false := beq_eq_false_iff_ne.2 (by omega)
        have k4 : (j == (s.size : Int) - 1) = false := beq_eq_false_iff_ne.2 (by omega)
        have k5 : (p == 45) = true := beq_iff_eq.2 (by omega)
        have HZ := HL (by omega)
        have hf := Hn.out (by omega)
        clear hh
        go_wp2_with fail
        go_ret
        exact ⟨rfl, rfl⟩
      · have k0 : decide (97 ≤ c) = false := decide_eq_false (by omega)
        have k1 : decide (48 ≤ c) = false := decide_eq_false (by omega)
        have k2 : (c != 45) = false := bne_eq_false_iff_eq.2 (by omega)
        have k3 : (j == 0) = false := beq_eq_false_iff_ne.2 (by omega)
        have k4 : (j == (s.size : Int) - 1) = false := beq_eq_false_iff_ne.2 (by omega)
        have k5 : (p == 45) = false := beq_eq_false_iff_ne.2 (by omega)
        have HZ := HL (by omega)
        have hy := Lib.hid (Hy.out (by omega))
        clear hh
        go_wp2_with fail
        go_round
        case rel => exact ⟨j + 1, by omega, by omega, by first | (go_num; done) | (go_num; omega), hy.out⟩
        case measure => simp [intOf]; omega
    · obtain rfl : j = s.size := by omega
      have hjn : decide ((s.size : Int) < (s.size : Int)) = false := decide_eq_false (by omega)
      have ht : idn s = true := idn_iff.2 ⟨h1, h2, fun i hi => HA.out i (by omega)⟩
      go_wp2_with fail
      go_ret
      exact ⟨rfl, rfl⟩
theorem r17id_any (s : ByteArray) (w : World) : Calls Try.prog 10 #[.string s] w fun e w' => e = .returned (.bool (idn s)) ∧ w = w' := by
  by_cases h1 : 1 ≤ s.size
  · by_cases h2 : s.size ≤ 40
    · exact r17id_ok s h1 h2 w
    · rw [show idn s = false by unfold idn; rw [decide_eq_false h2]; simp]
      exact r17id_len s (.inr ⟨decide_eq_false (by omega), decide_eq_true (by omega)⟩) w
  · rw [show idn s = false by unfold idn; rw [decide_eq_false h1]; rfl]
    exact r17id_len s (.inl (decide_eq_true (by omega))) w

theorem r17sea_no (z : Itm) (a b : Bool) (HI : ∀ u, Calls Try.prog 10 #[.string z.id] u fun e w' => e = .returned (.bool a) ∧ u = w')
    (hb : (a = false ∧ b = false) ∨ (a = true ∧ decide (1 ≤ z.x) = false ∧ b = false) ∨ (a = true ∧ decide (1 ≤ z.x) = true ∧ decide (z.x ≤ 9) = false ∧ b = false) ∨ (a = true ∧ decide (1 ≤ z.x) = true ∧ decide (z.x ≤ 9) = true ∧ decide (1 ≤ z.y) = false ∧ b = false) ∨ (a = true ∧ decide (1 ≤ z.x) = true ∧ decide (z.x ≤ 9) = true ∧ decide (1 ≤ z.y) = true ∧ decide (z.y ≤ 9) = false ∧ b = false)) (W : World) : Calls Try.prog 24 #[.agg z.vals] W fun e w' => e = .returned (.bool b) ∧ Below W.heap.size W w' := by
  obtain ⟨id, x, y, k, m, d, o, w, c⟩ := z
  dsimp only [Itm.vals] at *
  rcases hb with ⟨rfl, rfl⟩ | ⟨rfl, k1, rfl⟩ | ⟨rfl, k1, k2, rfl⟩ | ⟨rfl, k1, k2, k3, rfl⟩ | ⟨rfl, k1, k2, k3, k4, rfl⟩
  all_goals
    go_enter Try.func24, Try.ntmps24
    go_wp2_with fail
    refine (HI _).mono ?_
    rintro e wq ⟨rfl, rfl⟩
    go_wp2_with fail
    go_ret
    exact ⟨rfl, (Below.refl _ _).alloc (Nat.le_refl _) _⟩
theorem r17sea_yes (z : Itm) (b : Bool) (HI : ∀ u, Calls Try.prog 10 #[.string z.id] u fun e w' => e = .returned (.bool true) ∧ u = w')
    (k1 : decide (1 ≤ z.x) = true) (k2 : decide (z.x ≤ 9) = true) (k3 : decide (1 ≤ z.y) = true) (k4 : decide (z.y ≤ 9) = true)
    (HC : ∀ u, Calls Try.prog 27 #[ancv z.k z.m z.d z.o z.w z.c] u fun e w' => e = .returned (.bool b) ∧ Below u.heap.size u w') (W : World) : Calls Try.prog 24 #[.agg z.vals] W fun e w' => e = .returned (.bool b) ∧ Below W.heap.size W w' := by
  obtain ⟨id, x, y, k, m, d, o, w, c⟩ := z
  dsimp only [Itm.vals] at *
  go_enter Try.func24, Try.ntmps24
  go_wp2_with fail
  refine (HI _).mono ?_
  rintro e wq ⟨rfl, rfl⟩
  go_wp2_with fail
  refine (HC _).mono ?_
  rintro e w1 ⟨rfl, hb1⟩
  have S1 := Lib.hid (below_on ((Below.refl W.heap.size W).alloc (Nat.le_refl _) _) hb1)
  clear hb1
  go_wp2_with fail
  go_ret
  exact ⟨rfl, S1.out⟩
theorem r17sea_any (z : Itm) (W : World) : Calls Try.prog 24 #[.agg z.vals] W fun e w' => e = .returned (.bool (seaB z)) ∧ Below W.heap.size W w' := by
  have HI := fun u => r17id_any z.id u
  unfold seaB rk
  cases h0 : idn z.id
  · rw [h0] at HI; exact r17sea_no z _ _ HI (.inl ⟨rfl, rfl⟩) W
  · rw [h0] at HI
    cases h1 : decide (1 ≤ z.x)
    · exact r17sea_no z _ _ HI (.inr (.inl ⟨rfl, h1, rfl⟩)) W
    · cases h2 : decide (z.x ≤ 9)
      · exact r17sea_no z _ _ HI (.inr (.inr (.inl ⟨rfl, h1, h2, rfl⟩))) W
      · cases h3 : decide (1 ≤ z.y)
        · exact r17sea_no z _ _ HI (.inr (.inr (.inr (.inl ⟨rfl, h1, h2, h3, rfl⟩)))) W
        · cases h4 : decide (z.y ≤ 9)
          · exact r17sea_no z _ _ HI (.inr (.inr (.inr (.inr ⟨rfl, h1, h2, h3, h4, rfl⟩)))) W
          · exact r17sea_yes z _ HI h1 h2 h3 h4 (fun u => r16ck_any z.k z.m z.d z.o z.w z.c u) W
theorem r17fea_no (z : Itm) (a b : Bool) (HI : ∀ u, Calls Try.prog 10 #[.string z.id] u fun e w' => e = .returned (.bool a) ∧ u = w')
    (hb : (a = false ∧ b = false) ∨ (a = true ∧ decide (1 ≤ z.x) = false ∧ b = false) ∨ (a = true ∧ decide (1 ≤ z.x) = true ∧ decide (z.x ≤ 9) = false ∧ b = false) ∨ (a = true ∧ decide (1 ≤ z.x) = true ∧ decide (z.x ≤ 9) = true ∧ decide (1 ≤ z.y) = false ∧ b = false) ∨ (a = true ∧ decide (1 ≤ z.x) = true ∧ decide (z.x ≤ 9) = true ∧ decide (1 ≤ z.y) = true ∧ decide (z.y ≤ 3) = false ∧ b = false)) (W : World) : Calls Try.prog 25 #[.agg z.vals] W fun e w' => e = .returned (.bool b) ∧ Below W.heap.size W w' := by
  obtain ⟨id, x, y, k, m, d, o, w, c⟩ := z
  dsimp only [Itm.vals] at *
  rcases hb with ⟨rfl, rfl⟩ | ⟨rfl, k1, rfl⟩ | ⟨rfl, k1, k2, rfl⟩ | ⟨rfl, k1, k2, k3, rfl⟩ | ⟨rfl, k1, k2, k3, k4, rfl⟩
  all_goals
    go_enter Try.func25, Try.ntmps25
    go_wp2_with fail
    refine (HI _).mono ?_
    rintro e wq ⟨rfl, rfl⟩
    go_wp2_with fail
    go_ret
    exact ⟨rfl, (Below.refl _ _).alloc (Nat.le_refl _) _⟩
theorem r17fea_yes (z : Itm) (b : Bool) (HI : ∀ u, Calls Try.prog 10 #[.string z.id] u fun e w' => e = .returned (.bool true) ∧ u = w')
    (k1 : decide (1 ≤ z.x) = true) (k2 : decide (z.x ≤ 9) = true) (k3 : decide (1 ≤ z.y) = true) (k4 : decide (z.y ≤ 3) = true)
    (HC : ∀ u, Calls Try.prog 27 #[ancv z.k z.m z.d z.o z.w z.c] u fun e w' => e = .returned (.bool b) ∧ Below u.heap.size u w') (W : World) : Calls Try.prog 25 #[.agg z.vals] W fun e w' => e = .returned (.bool b) ∧ Below W.heap.size W w' := by
  obtain ⟨id, x, y, k, m, d, o, w, c⟩ := z
  dsimp only [Itm.vals] at *
  go_enter Try.func25, Try.ntmps25
  go_wp2_with fail
  refine (HI _).mono ?_
  rintro e wq ⟨rfl, rfl⟩
  go_wp2_with fail
  refine (HC _).mono ?_
  rintro e w1 ⟨rfl, hb1⟩
  have S1 := Lib.hid (below_on ((Below.refl W.heap.size W).alloc (Nat.le_refl _) _) hb1)
  clear hb1
  go_wp2_with fail
  go_ret
  exact ⟨rfl, S1.out⟩
theorem r17fea_any (z : Itm) (W : World) : Calls Try.prog 25 #[.agg z.vals] W fun e w' => e = .returned (.bool (feaB z)) ∧ Below W.heap.size W w' := by
  have HI := fun u => r17id_any z.id u
  unfold feaB rk pol
  cases h0 : idn z.id
  · rw [h0] at HI; exact r17fea_no z _ _ HI (.inl ⟨rfl, rfl⟩) W
  · rw [h0] at HI
    cases h1 : decide (1 ≤ z.x)
    · exact r17fea_no z _ _ HI (.inr (.inl ⟨rfl, h1, rfl⟩)) W
    · cases h2 : decide (z.x ≤ 9)
      · exact r17fea_no z _ _ HI (.inr (.inr (.inl ⟨rfl, h1, h2, rfl⟩))) W
      · cases h3 : decide (1 ≤ z.y)
        · exact r17fea_no z _ _ HI (.inr (.inr (.inr (.inl ⟨rfl, h1, h2, h3, rfl⟩)))) W
        · cases h4 : decide (z.y ≤ 3)
          · exact r17fea_no z _ _ HI (.inr (.inr (.inr (.inr ⟨rfl, h1, h2, h3, h4, rfl⟩)))) W
          · exact r17fea_yes z _ HI h1 h2 h3 h4 (fun u => r16ck_any z.k z.m z.d z.o z.w z.c u) W
end Go.Proofs.Ytiegddohgjofbaa

namespace Go.Proofs.Ytiegddohgjofbaa
open Go.RowKit

def StrsAt (B : Nat) (v : Value) (xs : List ByteArray) (w : World) : Prop := w.ownsRow B 9 1 v xs.length (xs.map Value.string)
theorem StrsAt.on {B : Nat} {v : Value} {xs : List ByteArray} {w w' : World} (h : StrsAt B v xs w) (hb : Below w.heap.size w w') : StrsAt B v xs w' :=
  World.ownsRow.kept h (grown_of_below hb none) (by cases hv : v.ownBlock <;> simp)
theorem StrsAt.al {B : Nat} {v : Value} {xs : List ByteArray} {w : World} (h : StrsAt B v xs w) (o : Obj) : StrsAt B v xs (w.alloc o) := h.on ((Below.refl _ _).alloc (Nat.le_refl _) o)
theorem StrsAt.emp (B : Nat) (w : World) : StrsAt B (.slice none 0 0) [] w := World.ownsRow_nil w B _ 1
/-- What a walk reads of it. -/
structure StrsIn (g cap : Nat) (xs : List ByteArray) (w : World) : Prop where
  lt : g < w.heap.size
  le : xs.length ≤ cap
  mx : cap ≤ maxLen
  cell : ∀ i, i < xs.length → w.cell? ⟨g, i, none⟩ = some (.string (xs.getD i ByteArray.empty))
theorem StrsIn.on {g cap : Nat} {xs : List ByteArray} {w w' : World} (h : StrsIn g cap xs w) (hb : Below w.heap.size w w') : StrsIn g cap xs w' :=
  ⟨Nat.lt_of_lt_of_le h.lt hb.size, h.le, h.mx, fun i hi => cell_below (h.cell i hi) hb⟩
theorem StrsAt.get {B : Nat} {v : Value} {xs : List ByteArray} {w : World} (h : StrsAt B v xs w) : (v = .slice none 0 0 ∧ xs = []) ∨ ∃ g cap, v = .slice (some ⟨g, 0, none⟩) xs.length cap ∧ StrsIn g cap xs w := by
  rcases h.2 with ⟨rfl, hn⟩ | ⟨g, cap, cur, rfl, hb, hg, hnc, hcm, hcs, htake⟩
  · exact .inl ⟨rfl, List.eq_nil_of_length_eq_zero hn⟩
  · refine .inr ⟨g, cap, rfl, (Array.getElem?_eq_some_iff.1 hg).1, hnc, hcm, fun i hi => ?_⟩
    have := World.ownsRow.cells h (g := g) rfl i (.string (xs.getD i ByteArray.empty)) (by rw [List.getElem?_map, List.getElem?_eq_getElem hi, List.getD_eq_getElem?_getD, List.getElem?_eq_getElem hi]; rfl)
    rwa [show (⟨g, 0, none⟩ : Addr).add i = ⟨g, i, none⟩ by unfold Addr.add; split <;> simp_all] at this
theorem infoStr : (Try.prog.info? 9).map (fun i => (i.zero, i.size, i.bytes)) = some (some (.string ⟨#[]⟩), 1, 16) := by kernel_rfl
theorem StrsAt.app {B : Nat} {v v' : Value} {xs : List ByteArray} {a : ByteArray} {w w1 w2 : World} {o : Obj} (hv : StrsAt B v xs w1) (hB : Below B w w1) (hs : B ≤ w1.heap.size)
    (hown : w2.ownsRow B 9 1 v' (xs.length + 1) (xs.map Value.string ++ [.string a])) (hg : (w1.alloc o).grownBy w2 v.ownBlock) : StrsAt B v' (xs ++ [a]) w2 ∧ Below B w w2 := by
  refine ⟨?_, (hB.alloc hs _).grown hg (by simp; omega) (fun k e => (World.ownsRow.lt hv k e).1)⟩
  rw [StrsAt, List.length_append, List.map_append]
  exact hown
/-- The nine cells of an item. -/
theorem ItmAt.nine {W : World} {b p : Nat} {id : ByteArray} {x y k m d o w c : Int} (h : ItmAt W b p ⟨id, x, y, k, m, d, o, w, c⟩) :
    W.cell? ⟨b, p, none⟩ = some (.string id) ∧ W.cell? ⟨b, p + 1, none⟩ = some (.int .i64 x) ∧ W.cell? ⟨b, p + 2, none⟩ = some (.int .i64 y) ∧ W.cell? ⟨b, p + 3, none⟩ = some (.int .i64 k) ∧ W.cell? ⟨b, p + 4, none⟩ = some (.int .i64 m) ∧ W.cell? ⟨b, p + 5, none⟩ = some (.int .i64 d) ∧ W.cell? ⟨b, p + 6, none⟩ = some (.int .i64 o) ∧ W.cell? ⟨b, p + 7, none⟩ = some (.int .i64 w) ∧ W.cell? ⟨b, p + 8, none⟩ = some (.int .i64 c) :=
  ⟨h 0 (by decide), h 1 (by decide), h 2 (by decide), h 3 (by decide), h 4 (by decide), h 5 (by decide), h 6 (by decide), h 7 (by decide), h 8 (by decide)⟩
theorem CatAt.on {W W' : World} {v : Value} {c : Cat} (h : CatAt W v c) (hb : Below W.heap.size W W') : CatAt W' v c := by
  obtain ⟨⟨vs, vf, hv, h1, h2⟩, h3, h4, h5⟩ := h
  exact ⟨⟨vs, vf, hv, h1.on hb, h2.on hb⟩, h3, h4, h5⟩
def Cat.ids (c : Cat) : List ByteArray := c.ss.map Itm.id ++ c.fs.map Itm.id
/-- The identifier at i is none of those ahead of it. -/
def newB (xs : List ByteArray) (i : Nat) : Bool := (List.range i).all fun k => !((xs.getD i ByteArray.empty).toList == (xs.getD k ByteArray.empty).toList)
def nodB (xs : List ByteArray) : Bool := (List.range xs.length).all (newB xs)
def catB (c : Cat) : Bool := decide (0 ≤ c.free ∧ c.free ≤ 9 ∧ 1 ≤ c.ss.length ∧ c.ss.length ≤ 20 ∧ c.fs.length ≤ 400) && (c.ss.all seaB && (c.fs.all feaB && nodB c.ids))
theorem catB_sea {c : Cat} {i : Nat} {t : Itm} (hi : c.ss[i]? = some t) (h : seaB t = false) : catB c = false := by
  have : c.ss.all seaB = false := by
    rw [List.all_eq_false]
    exact ⟨t, List.mem_of_getElem? hi, by rw [h]; decide⟩
  unfold catB; rw [this]; simp
theorem catB_fea {c : Cat} {i : Nat} {t : Itm} (hi : c.fs[i]? = some t) (h : feaB t = false) : catB c = false := by
  have : c.fs.all feaB = false := by
    rw [List.all_eq_false]
    exact ⟨t, List.mem_of_getElem? hi, by rw [h]; decide⟩
  unfold catB; rw [this]; simp
theorem catB_dup {c : Cat} {i k : Nat} (hi : i < c.ids.length) (hk : k < i) (h : ((c.ids.getD i ByteArray.empty).toList == (c.ids.getD k ByteArray.empty).toList) = true) : catB c = false := by
  have e1 : newB c.ids i = false := by
    unfold newB; rw [List.all_eq_false]
    exact ⟨k, List.mem_range.2 hk, by rw [h]; decide⟩
  have e2 : nodB c.ids = false := by
    unfold nodB; rw [List.all_eq_false]
    exact ⟨i, List.mem_range.2 hi, by rw [e1]; decide⟩
  unfold catB; rw [e2]; simp
theorem catB_yes {c : Cat} (h : 0 ≤ c.free ∧ c.free ≤ 9 ∧ 1 ≤ c.ss.length ∧ c.ss.length ≤ 20 ∧ c.fs.length ≤ 400) (h1 : ∀ (i : Nat) (t : Itm), c.ss[i]? = some t → seaB t = true) (h2 : ∀ (i : Nat) (t : Itm), c.fs[i]? = some t → feaB t = true) (h3 : ∀ i, i < c.ids.length → newB c.ids i = true) : catB c = true := by
  unfold catB
  rw [decide_eq_true h, Bool.true_and]
  have a1 : c.ss.all seaB = true := List.all_eq_true.2 fun t ht => by
    obtain ⟨i, hi⟩ := List.getElem?_of_mem ht
    exact h1 i t hi
  have a2 : c.fs.all feaB = true := List.all_eq_true.2 fun t ht => by
    obtain ⟨i, hi⟩ := List.getElem?_of_mem ht
    exact h2 i t hi
  have a3 : nodB c.ids = true := List.all_eq_true.2 fun i hi => h3 i (List.mem_range.1 hi)
  rw [a1, a2, a3]; rfl
theorem newB_iff {xs : List ByteArray} {i : Nat} : newB xs i = true ↔ ∀ k, k < i → ((xs.getD i ByteArray.empty).toList == (xs.getD k ByteArray.empty).toList) = false := by
  unfold newB
  rw [List.all_eq_true]
  exact ⟨fun h k hk => by have := h k (List.mem_range.2 hk); simpa using this, fun h k hk => by rw [h k (List.mem_range.1 hk)]; rfl⟩
theorem map_take_succ {ts : List Itm} {k : Nat} {t : Itm} (h : ts[k]? = some t) : (ts.take (k + 1)).map Itm.id = (ts.take k).map Itm.id ++ [t.id] := by
  rw [List.take_add_one, h, List.map_append]; rfl
end Go.Proofs.Ytiegddohgjofbaa

namespace Go.Proofs.Ytiegddohgjofbaa
open Go.RowKit

abbrev catO (free : Int) (vs vf : Value) : Obj := .cells #[.int .i64 free, vs, vf] 26 (0, 0)
section
variable (free : Int) (A1 A2 : Option Addr) (n1 n2 c1 c2 : Nat) (W : World)
end
set_option maxHeartbeats 4000000 in
set_option maxRecDepth 100000 in
theorem r17ck_ok (free : Int) (A1 A2 : Option Addr) (ss fs : List Itm) (c1 c2 : Nat) (W : World)
    (f1 : 0 ≤ free) (f2 : free ≤ 9) (n1 : 1 ≤ ss.length) (n2 : ss.length ≤ 20) (n3 : fs.length ≤ 400)
    (H1 : ∀ (i : Nat) (t : Itm), ss[i]? = some t → ∃ b o, A1 = some ⟨b, o, none⟩ ∧ b < W.heap.size ∧ ItmAt W b (o + i * 9) t)
    (H2 : ∀ (i : Nat) (t : Itm), fs[i]? = some t → ∃ b o, A2 = some ⟨b, o, none⟩ ∧ b < W.heap.size ∧ ItmAt W b (o + i * 9) t) :
    Calls Try.prog 9 #[.agg #[.int .i64 free, .slice A1 ss.length c1, .slice A2 fs.length c2]] W fun e w' => e = .returned (.bool (catB ⟨free, ss, fs⟩)) ∧ Below W.heap.size W w' := by
  obtain ⟨i0, hi, hz0, hz1, hz2⟩ := info_parts infoStr
  have d1 : decide (free < 0) = false := decide_eq_false (by omega)
  have d2 : decide (9 < free) = false := decide_eq_false (by omega)
  have d3 : decide ((ss.length : Int) < 1) = false := decide_eq_false (by omega)
  have d4 : decide ((20 : Int) < ss.length) = false := decide_eq_false (by omega)
  have d5 : decide ((400 : Int) < fs.length) = false := decide_eq_false (by omega)
  have Q1 := Lib.hid H1
  have Q2 := Lib.hid H2
  clear H1 H2
  have B0 := Lib.hid ((Below.refl W.heap.size W).alloc (Nat.le_refl _) (catO free (.slice A1 ss.length c1) (.slice A2 fs.length c2)))
  have R0 := Lib.hid (heap_alloc_new W (catO free (.slice A1 ss.length c1) (.slice A2 fs.length c2)))
  have Z0 : (W.alloc (catO free (.slice A1 ss.length c1) (.slice A2 fs.length c2))).heap.size = W.heap.size + 1 := by simp
  go_enter Try.func9, Try.ntmps9
  go_wp2_with fail
  generalize hW1 : W.alloc (catO free (.slice A1 ss.length c1) (.slice A2 fs.length c2)) = W1 at *
  go_loopw [3, 4] (fun v i wr => ∃ k : Nat, k ≤ ss.length ∧ i = .int .i64 k ∧ Below W1.heap.size W1 wr ∧ StrsAt W1.heap.size v ((ss.take k).map Itm.id) wr ∧ ∀ (j : Nat) (t : Itm), j < k → ss[j]? = some t → seaB t = true) (fun _ i _ => ss.length - (intOf i).toNat)
  case atStart => exact ⟨0, Nat.zero_le _, rfl, Below.refl _ _, StrsAt.emp _ _, fun j t hj => by omega⟩
  case round =>
    obtain ⟨k, hk, rfl, hb, hv, ha⟩ := hrel
    have HB := Lib.hid hb
    have HV := Lib.hid hv
    have HA := Lib.hid ha
    clear hb hv ha
    have RR := Lib.hid (row_on R0.out HB.out)
    obtain ⟨r0, r1, r2, g0, g1, g2, rz⟩ := row3 RR.out
    by_cases hlt : k < ss.length
    · obtain ⟨t, ht⟩ : ∃ t, ss[k]? = some t := ⟨_, List.getElem?_eq_getElem hlt⟩
      obtain ⟨b, p, hA, hbl, hit⟩ := Q1.out k t ht
      subst hA
      have hT := Lib.hid ht
      have hbl1 := Nat.lt_of_lt_of_le hbl B0.out.size
      have hbl2 := Nat.lt_of_lt_of_le hbl1 HB.out.size
      have HI := Lib.hid ((hit.on B0.out hbl).on HB.out hbl1)
      have hSt := Lib.hid (fun u => r17sea_any t u)
      have hmap := Lib.hid (map_take_succ ht)
      have hle : ((ss.take k).map Itm.id).length = k := by simp; omega
      cases hsb : seaB t
      · have hf := Lib.hid (catB_sea (c := ⟨free, ss, fs⟩) hT.out hsb)
        rw [hsb] at hSt
        obtain ⟨id, x, y, a1, a2, a3, a4, a5, a6⟩ := t
        obtain ⟨q0, q1, q2, q3, q4, q5, q6, q7, q8⟩ := HI.out.nine
        clear hit ht hsb
        go_wp2_with fail
        refine (hSt.out _).mono ?_
        rintro e w1 ⟨rfl, hb1⟩
        have HB1 := Lib.hid (below_on B0.out (below_on HB.out hb1))
        clear hb1
        go_wp2_with fail
        go_ret
        exact ⟨ret_bool hf.out.symm, HB1.out⟩
      · have HS := Lib.hid (fun (j : Nat) (u : Itm) (hj : j < k + 1) (hu : ss[j]? = some u) => show seaB u = true by
            by_cases g : j < k
            · exact HA.out j u g hu
            · obtain rfl : j = k := by omega
              rw [hT.out] at hu
              rw [← Option.some.inj hu]; exact hsb)
        rw [hsb] at hSt
        obtain ⟨id, x, y, a1, a2, a3, a4, a5, a6⟩ := t
        obtain ⟨q0, q1, q2, q3, q4, q5, q6, q7, q8⟩ := HI.out.nine
        clear hit ht hsb
        go_wp2_with fail
        refine (hSt.out _).mono ?_
        rintro e w1 ⟨rfl, hb1⟩
        have HB1 := Lib.hid (below_on HB.out hb1)
        have HV1 := Lib.hid (HV.out.on hb1)
        have hz := Lib.hid (Nat.le_trans HB.out.size hb1.size)
        have R1 := Lib.hid (row_on RR.out hb1)
        have HI1 := Lib.hid (HI.out.on hb1 hbl2)
        have hbl3 := Nat.lt_of_lt_of_le hbl2 hb1.size
        clear hb1 r0 r1 r2 g0 g1 g2 rz q0 q1 q2 q3 q4 q5 q6 q7 q8
        obtain ⟨r0, r1, r2, g0, g1, g2, rz⟩ := row3 R1.out
        obtain ⟨q0, _⟩ := HI1.out.nine
        go_wp2_with (at_builtin; refine wpList_append_own _ rfl _ _ 28 rfl W1.heap.size 9 i0 (.string ⟨#[]⟩) 1 16 Try.underlying28 hi hz0 hz1 hz2 rfl (by decide) _ _ _ rfl (HV1.out.al _) ⟨w1.heap.size, 0, none⟩ 1 1 [.string id] rfl rfl (cell_one_new _ _ _) (by simp [Value.oneCell']) (by unfold maxLen; omega) (by omega) (by have := hz.out; simp; omega) ?_; intro v' w2 hown' hgrow _; obtain ⟨hv2, hb2⟩ := HV1.out.app HB1.out hz.out hown' hgrow; have HV2 := Lib.hid hv2; have HB2 := Lib.hid hb2; clear hown' hgrow hv2 hb2)
        go_roundw
        case rel => exact ⟨k + 1, by omega, by go_num, HB2.out, by rw [hmap.out]; exact HV2.out, HS.out⟩
        case measure => simp [intOf]; omega
    · obtain rfl : k = ss.length := by omega
      rw [List.take_length] at HV
      have HF := Lib.hid (fun (j : Nat) (t : Itm) (hj : ss[j]? = some t) => HA.out j t (List.getElem?_eq_some_iff.1 hj).1 hj)
      have HBa := HB
      have HVa := HV
      clear HA
      go_wp2_with fail
      go_loopw [3, 5] (fun v i wr => ∃ k : Nat, k ≤ fs.length ∧ i = .int .i64 k ∧ Below W1.heap.size W1 wr ∧ StrsAt W1.heap.size v (ss.map Itm.id ++ (fs.take k).map Itm.id) wr ∧ ∀ (j : Nat) (t : Itm), j < k → fs[j]? = some t → feaB t = true) (fun _ i _ => fs.length - (intOf i).toNat)
      case atStart => exact ⟨0, Nat.zero_le _, rfl, HBa.out, by simpa using HVa.out, fun j t hj => by omega⟩
      case round =>
        clear HB HV RR r0 r1 r2 g0 g1 g2 rz
        obtain ⟨k, hk, rfl, hb, hv, ha⟩ := hrel
        have HB := Lib.hid hb
        have HV := Lib.hid hv
        have HA := Lib.hid ha
        clear hb hv ha
        have RR := Lib.hid (row_on R0.out HB.out)
        obtain ⟨r0, r1, r2, g0, g1, g2, rz⟩ := row3 RR.out
        by_cases hlt : k < fs.length
        · obtain ⟨t, ht⟩ : ∃ t, fs[k]? = some t := ⟨_, List.getElem?_eq_getElem hlt⟩
          obtain ⟨b, p, hA, hbl, hit⟩ := Q2.out k t ht
          subst hA
          have hT := Lib.hid ht
          have hbl1 := Nat.lt_of_lt_of_le hbl B0.out.size
          have hbl2 := Nat.lt_of_lt_of_le hbl1 HB.out.size
          have HI := Lib.hid ((hit.on B0.out hbl).on HB.out hbl1)
          have hSt := Lib.hid (fun u => r17fea_any t u)
          have hmap := Lib.hid (map_take_succ ht)
          have hle : (ss.map Itm.id ++ ((fs.take k).map Itm.id)).length = ss.length + k := by simp; omega
          cases hsb : feaB t
          · have hf := Lib.hid (catB_fea (c := ⟨free, ss, fs⟩) hT.out hsb)
            rw [hsb] at hSt
            obtain ⟨id, x, y, a1, a2, a3, a4, a5, a6⟩ := t
            obtain ⟨q0, q1, q2, q3, q4, q5, q6, q7, q8⟩ := HI.out.nine
            clear hit ht hsb
            go_wp2_with fail
            refine (hSt.out _).mono ?_
            rintro e w1 ⟨rfl, hb1⟩
            have HB1 := Lib.hid (below_on B0.out (below_on HB.out hb1))
            clear hb1
            go_wp2_with fail
            go_ret
            exact ⟨ret_bool hf.out.symm, HB1.out⟩
          · have HS := Lib.hid (fun (j : Nat) (u : Itm) (hj : j < k + 1) (hu : fs[j]? = some u) => show feaB u = true by
                by_cases g : j < k
                · exact HA.out j u g hu
                · obtain rfl : j = k := by omega
                  rw [hT.out] at hu
                  rw [← Option.some.inj hu]; exact hsb)
            rw [hsb] at hSt
            obtain ⟨id, x, y, a1, a2, a3, a4, a5, a6⟩ := t
            obtain ⟨q0, q1, q2, q3, q4, q5, q6, q7, q8⟩ := HI.out.nine
            clear hit ht hsb
            go_wp2_with fail
            refine (hSt.out _).mono ?_
            rintro e w1 ⟨rfl, hb1⟩
            have HB1 := Lib.hid (below_on HB.out hb1)
            have HV1 := Lib.hid (HV.out.on hb1)
            have hz := Lib.hid (Nat.le_trans HB.out.size hb1.size)
            have R1 := Lib.hid (row_on RR.out hb1)
            have HI1 := Lib.hid (HI.out.on hb1 hbl2)
            have hbl3 := Nat.lt_of_lt_of_le hbl2 hb1.size
            clear hb1 r0 r1 r2 g0 g1 g2 rz q0 q1 q2 q3 q4 q5 q6 q7 q8
            obtain ⟨r0, r1, r2, g0, g1, g2, rz⟩ := row3 R1.out
            obtain ⟨q0, _⟩ := HI1.out.nine
            go_wp2_with (at_builtin; refine wpList_append_own _ rfl _ _ 28 rfl W1.heap.size 9 i0 (.string ⟨#[]⟩) 1 16 Try.underlying28 hi hz0 hz1 hz2 rfl (by decide) _ _ _ rfl (HV1.out.al _) ⟨w1.heap.size, 0, none⟩ 1 1 [.string id] rfl rfl (cell_one_new _ _ _) (by simp [Value.oneCell']) (by unfold maxLen; omega) (by omega) (by have := hz.out; simp; omega) ?_; intro v' w2 hown' hgrow _; obtain ⟨hv2, hb2⟩ := HV1.out.app HB1.out hz.out hown' hgrow; have HV2 := Lib.hid hv2; have HB2 := Lib.hid hb2; clear hown' hgrow hv2 hb2)
            go_roundw
            case rel => exact ⟨k + 1, by omega, by go_num, HB2.out, by rw [hmap.out, ← List.append_assoc]; exact HV2.out, HS.out⟩
            case measure => simp [intOf]; omega
        · obtain rfl : k = fs.length := by omega
          rw [List.take_length] at HV
          have HG := Lib.hid (fun (j : Nat) (t : Itm) (hj : fs[j]? = some t) => HA.out j t (List.getElem?_eq_some_iff.1 hj).1 hj)
          have HBb := HB
          have HVb := Lib.hid (show StrsAt W1.heap.size _ (Cat.ids ⟨free, ss, fs⟩) _ from HV.out)
          have hlen : (Cat.ids ⟨free, ss, fs⟩).length = ss.length + fs.length := by simp [Cat.ids]
          clear HA
          rcases HVb.out.get with ⟨_, e0⟩ | ⟨g, cap, rfl, hin⟩
          · rw [e0] at hlen; simp at hlen; omega
          · have HN := Lib.hid hin
            clear hin
            generalize hx : Cat.ids ⟨free, ss, fs⟩ = xs at *
            go_wp2_with fail
            go_loopw [6] (fun i wr => ∃ j : Int, 0 ≤ j ∧ j ≤ xs.length ∧ i = .int .i64 j ∧ Below W1.heap.size W1 wr ∧ StrsIn g cap xs wr ∧ ∀ n : Nat, (n : Int) < j → newB xs n = true) (fun i _ => xs.length - (intOf i).toNat)
            case atStart => exact ⟨0, by omega, by omega, rfl, HBb.out, HN.out, fun n hn => by omega⟩
            case round =>
              clear HB HV RR HN HVb HBb r0 r1 r2 g0 g1 g2 rz
              obtain ⟨j, j0, j1, rfl, hb, hs, ha⟩ := hrel
              have HB := Lib.hid hb
              have HN := Lib.hid hs
              have HA := Lib.hid ha
              clear hb hs ha
              by_cases hj : j < xs.length
              · have dj : decide (j < (xs.length : Int)) = true := decide_eq_true hj
                go_wp2_with fail
                go_loopw [7] (fun i wr => ∃ k : Int, 0 ≤ k ∧ k ≤ j ∧ i = .int .i64 k ∧ Below W1.heap.size W1 wr ∧ StrsIn g cap xs wr ∧ ∀ n : Nat, (n : Int) < k → ((xs.getD j.toNat ByteArray.empty).toList == (xs.getD n ByteArray.empty).toList) = false) (fun i _ => j.toNat - (intOf i).toNat)
                case atStart => exact ⟨0, by omega, by omega, rfl, HB.out, HN.out, fun n hn => by omega⟩
                case round =>
                  clear HB HN
                  obtain ⟨k, k0, k1, rfl, hb, hs, hd⟩ := hrel
                  have HB := Lib.hid hb
                  have HN := Lib.hid hs
                  have HD := Lib.hid hd
                  have hlt := hs.lt
                  have cj := hs.cell j.toNat (by omega)
                  have hk2 : k ≤ xs.length := by omega
                  clear hb hs hd
                  by_cases hk : k < j
                  · have ck := HN.out.cell k.toNat (by omega)
                    have dk : decide (k < j) = true := decide_eq_true hk
                    have hk3 : k < xs.length := by omega
                    cases hE : ((xs.getD j.toNat ByteArray.empty).toList == (xs.getD k.toNat ByteArray.empty).toList)
                    · have HE := Lib.hid hE
                      have HK := Lib.hid (fun (n : Nat) (hn : (n : Int) < k + 1) => show ((xs.getD j.toNat ByteArray.empty).toList == (xs.getD n ByteArray.empty).toList) = false by
                        by_cases g : (n : Int) < k
                        · exact HD.out n g
                        · rw [show n = k.toNat by omega]; exact hE)
                      clear HD
                      generalize hsa : xs.getD j.toNat ByteArray.empty = sa at cj hE
                      generalize hsb : xs.getD k.toNat ByteArray.empty = sb at ck hE
                      have Hsa := Lib.hid hsa
                      have Hsb := Lib.hid hsb
                      clear hsa hsb
                      go_wp2_with fail
                      go_quiet (fail)
                      go_wp2_with fail
                      go_roundw
                      case rel => exact ⟨k + 1, by omega, by omega, by first | (go_num; done) | (go_num; omega), below_dn HB.out _, HN.out.on (below_dn (Below.refl _ _) _), fun n hn => by rw [← Hsa.out]; exact HK.out n hn⟩
                      case measure => simp [intOf]; omega
                    · have hf := Lib.hid (catB_dup (c := ⟨free, ss, fs⟩) (i := j.toNat) (k := k.toNat) (by rw [hx]; omega) (by omega) (by rw [hx]; exact hE))
                      have HZ := Lib.hid (below_on B0.out HB.out)
                      generalize hsa : xs.getD j.toNat ByteArray.empty = sa at cj hE
                      generalize hsb : xs.getD k.toNat ByteArray.empty = sb at ck hE
                      have Hsa := Lib.hid hsa
                      have Hsb := Lib.hid hsb
                      clear hsa hsb
                      go_wp2_with fail
                      go_quiet (fail)
                      go_wp2_with fail
                      go_ret
                      exact ⟨ret_bool hf.out.symm, below_dn HZ.out _⟩
                  · obtain rfl : k = j := by omega
                    have dk : decide (k < k) = false := decide_eq_false (by omega)
                    have HK := Lib.hid (fun (n : Nat) (hn : (n : Int) < k + 1) => show newB xs n = true by
                      by_cases g : (n : Int) < k
                      · exact HA.out n g
                      · rw [show n = k.toNat by omega]; exact newB_iff.2 fun i hi => HD.out i (by omega))
                    clear HD HA
                    go_wp2_with fail
                    go_roundw
                    case rel => exact ⟨k + 1, by omega, by omega, by first | (go_num; done) | (go_num; omega), HB.out, HN.out, HK.out⟩
                    case measure => simp [intOf]; omega
              · obtain rfl : j = xs.length := by omega
                have dj : decide ((xs.length : Int) < (xs.length : Int)) = false := decide_eq_false (by omega)
                have hf := Lib.hid (catB_yes (c := ⟨free, ss, fs⟩) ⟨f1, f2, n1, n2, n3⟩ (fun i t h => HF.out i t h) (fun i t h => HG.out i t h) (fun i h => by rw [hx] at h ⊢; exact HA.out i (by omega)))
                have HZ := Lib.hid (below_on B0.out HB.out)
                go_wp2_with fail
                go_ret
                exact ⟨ret_bool hf.out.symm, HZ.out⟩
end Go.Proofs.Ytiegddohgjofbaa

namespace Go.Proofs.Ytiegddohgjofbaa
open Go.RowKit

def zo : Itm := ⟨⟨#[]⟩, 0, 0, 0, 0, 0, 0, 0, 0⟩
end Go.Proofs.Ytiegddohgjofbaa

namespace Go.Proofs.Ytiegddohgjofbaa
open Go.RowKit Go.WideMaps Go.Maps

theorem mem_take_at {xs : List ByteArray} {k : Nat} {s : ByteArray} : s ∈ xs.take k ↔ ∃ i, i < k ∧ i < xs.length ∧ xs.getD i ByteArray.empty = s := by
  rw [List.mem_iff_getElem?]
  constructor
  · rintro ⟨i, hi⟩
    rw [List.getElem?_take] at hi
    split at hi
    · rename_i h
      obtain ⟨hl, he⟩ := List.getElem?_eq_some_iff.1 hi
      exact ⟨i, h, hl, by rw [List.getD_eq_getElem?_getD, hi]; rfl⟩
    · cases hi
  · rintro ⟨i, h1, h2, h3⟩
    refine ⟨i, ?_⟩
    rw [List.getElem?_take, if_pos h1, List.getElem?_eq_getElem h2]
    rw [List.getD_eq_getElem?_getD, List.getElem?_eq_getElem h2] at h3
    exact congrArg some h3
theorem mem_take_more {xs : List ByteArray} {k : Nat} {s : ByteArray} (hk : k < xs.length) : s ∈ xs.take (k + 1) ↔ s = xs.getD k ByteArray.empty ∨ s ∈ xs.take k := by
  rw [mem_take_at, mem_take_at]
  constructor
  · rintro ⟨i, h1, h2, h3⟩
    by_cases g : i = k
    · subst g; exact .inl h3.symm
    · exact .inr ⟨i, by omega, h2, h3⟩
  · rintro (h | ⟨i, h1, h2, h3⟩)
    · exact ⟨k, by omega, hk, h.symm⟩
    · exact ⟨i, by omega, h2, h3⟩
/-- Is a string among the first k? -/
def occB (xs : List ByteArray) (k : Nat) (s : ByteArray) : Bool := (xs.take k).any fun x => decide (x = s)
theorem occ_iff {xs : List ByteArray} {k : Nat} {s : ByteArray} : occB xs k s = true ↔ s ∈ xs.take k := by
  unfold occB
  rw [List.any_eq_true]
  exact ⟨fun ⟨x, hx, e⟩ => of_decide_eq_true e ▸ hx, fun h => ⟨s, h, decide_eq_true rfl⟩⟩
theorem occ_no {xs : List ByteArray} {k : Nat} {s : ByteArray} (h : occB xs k s = false) : ¬ s ∈ xs.take k := fun e => by rw [occ_iff.2 e] at h; cases h
/-- What the map of the strings that have occurred reads as. -/
structure Occ (xs : List ByteArray) (k : Nat) (D : DataW Unit) : Prop where
  m : IsMap D
  a : ∀ s : ByteArray, D.atKey (.string s.data.toList) (.lit (.bool false)) = .lit (.bool (occB xs k s))
theorem Occ.zero (xs : List ByteArray) : Occ xs 0 (.map []) := ⟨isMap_empty, fun s => by unfold occB; rw [List.take_zero]; rfl⟩
theorem Occ.put {xs : List ByteArray} {k : Nat} {D : DataW Unit} (h : Occ xs k D) (hk : k < xs.length) {x : ByteArray} (hx : x = xs.getD k ByteArray.empty) : Occ xs (k + 1) (D.put (.string x.data.toList) (.lit (.bool true))) := by
  refine ⟨h.m.put _ _, fun s => ?_⟩
  by_cases g : s = x
  · have hkl : WideAt.IsKeyLit (.string x.data.toList) := trivial
    rw [g, atKey_put_same h.m hkl, occ_iff.2 ((mem_take_more hk).2 (.inl hx))]
  · have hne : Lit.string s.data.toList ≠ Lit.string x.data.toList := fun e => g (Go.WideShapes.bytes_inj (Lit.string.inj e))
    rw [atKey_put_other hne, h.a s]
    have e : occB xs k s = occB xs (k + 1) s := by
      cases e : occB xs (k + 1) s
      · cases e' : occB xs k s
        · rfl
        · exact absurd ((mem_take_more hk).2 (.inr (occ_iff.1 e'))) (occ_no e)
      · exact occ_iff.2 (((mem_take_more hk).1 (occ_iff.1 e)).resolve_left (fun e' => g (e'.trans hx.symm)))
    rw [e]
end Go.Proofs.Ytiegddohgjofbaa
