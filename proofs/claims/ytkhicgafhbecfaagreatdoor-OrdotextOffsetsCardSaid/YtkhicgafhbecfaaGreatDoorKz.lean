/- What earlier stages proved: Zc Zd Ze Zg Zh Zi Zj Zk Zl Zm. -/
import Derived.Test.YtkhicgafhbecfaaGreatDoorKa
import Derived.OpenShut
import Derived.ShutString
import Derived.Lib.SmallJoins
import Derived.Deep.Slices
import Derived.Deep.Fields
import Derived.ReadAgain
import Derived.ProofKit
import Derived.WalkKit
import Derived.Test.YtkhicgafhbecfaaGreatDoorKv
import Derived.Test.YtkhicgafhbecfaaGreatDoorKn
import Derived.Test.YtkhicgafhbecfaaGreatDoorKo
import Derived.Test.YtkhicgafhbecfaaGreatDoorKr
import Derived.Laws.RangeAny
import Derived.Maps.Own
import Derived.Maps.Views
namespace Go.Proofs.YtkhicgafhbecfaaGreatDoor
open Go.ChangeShapes Go.WideShapes Go.RowKit Go.Joins Go.Deep

structure Itm where
  id : ByteArray
  x : Int
  y : Int
  k : Int
  m : Int
  d : Int
  o : Int
  w : Int
  c : Int
abbrev Itm.vals (t : Itm) : Array Value := #[.string t.id, .int .i64 t.x, .int .i64 t.y, .int .i64 t.k, .int .i64 t.m, .int .i64 t.d, .int .i64 t.o, .int .i64 t.w, .int .i64 t.c]
/-- What a season or feast that came in is: 64-bit integers, a string that memory holds. -/
structure Itm.Ok (t : Itm) : Prop where
  id : t.id.size ≤ maxLen
  x : (Lit.int .i64 t.x).wf = true
  y : (Lit.int .i64 t.y).wf = true
  k : (Lit.int .i64 t.k).wf = true
  m : (Lit.int .i64 t.m).wf = true
  d : (Lit.int .i64 t.d).wf = true
  o : (Lit.int .i64 t.o).wf = true
  w : (Lit.int .i64 t.w).wf = true
  c : (Lit.int .i64 t.c).wf = true
/-- An item lies in memory from a place on. -/
def ItmAt (W : World) (b p : Nat) (t : Itm) : Prop := ∀ j : Nat, j < 9 → W.cell? ⟨b, p + j, none⟩ = t.vals[j]?
/-- A slice of items. -/
def SlAt (W : World) (v : Value) (ts : List Itm) : Prop :=
  ∃ (A : Option Addr) (cap : Nat), v = .slice A ts.length cap ∧ ts.length ≤ cap ∧ cap ≤ maxLen ∧ ∀ (i : Nat) (t : Itm), ts[i]? = some t → ∃ b o, A = some ⟨b, o, none⟩ ∧ b < W.heap.size ∧ ItmAt W b (o + i * 9) t
structure Cat where
  free : Int
  ss : List Itm
  fs : List Itm
/-- A catalogue that came in. -/
structure CatAt (W : World) (v : Value) (c : Cat) : Prop where
  v : ∃ vs vf, v = .agg #[.int .i64 c.free, vs, vf] ∧ SlAt W vs c.ss ∧ SlAt W vf c.fs
  free : (Lit.int .i64 c.free).wf = true
  ss : ∀ t ∈ c.ss, t.Ok
  fs : ∀ t ∈ c.fs, t.Ok
theorem ItmAt.on {W W' : World} {b p : Nat} {t : Itm} (h : ItmAt W b p t) (hb : Below W.heap.size W W') (hl : b < W.heap.size) : ItmAt W' b p t := fun j hj => by rw [hb.cell hl]; exact h j hj
theorem SlAt.on {W W' : World} {v : Value} {ts : List Itm} (h : SlAt W v ts) (hb : Below W.heap.size W W') : SlAt W' v ts := by
  obtain ⟨A, cap, hv, h1, h2, h3⟩ := h
  refine ⟨A, cap, hv, h1, h2, fun i t ht => ?_⟩
  obtain ⟨b, o, e1, e2, e3⟩ := h3 i t ht
  exact ⟨b, o, e1, Nat.lt_of_lt_of_le e2 hb.size, e3.on hb e2⟩

section
variable {H : Type} {enc : TypeId × Value → H} {P : Program} {w : World} {base : Nat} {spare : Nat → Bool} {held : Bool}
theorem list6 {l : List Value} (h : l.length = 6) : ∃ a b c d e f, l = [a, b, c, d, e, f] := by
  match l, h with
  | [a, b, c, d, e, f], _ => exact ⟨a, b, c, d, e, f, rfl⟩
theorem list9 {l : List Value} (h : l.length = 9) : ∃ a b c d e f g i j, l = [a, b, c, d, e, f, g, i, j] := by
  match l, h with
  | [a, b, c, d, e, f, g, i, j], _ => exact ⟨a, b, c, d, e, f, g, i, j, rfl⟩
theorem list4 {α : Type} {l : List α} (h : l.length = 4) : ∃ a b c d, l = [a, b, c, d] := by
  match l, h with
  | [a, b, c, d], _ => exact ⟨a, b, c, d, rfl⟩
theorem one_int {t fuel : Nat} {v : Value} {y : Option (DataW H × List MemPlace)} {x : DataW H × List MemPlace} (ht : P.underlying t = some (.int .i64)) (h : DataW.trod enc P w base spare held fuel t [v] = y) (hy : y = some x) : ∃ n : Int, v = .int .i64 n ∧ (Lit.int .i64 n).wf = true := by
  subst hy
  obtain ⟨n, e1, _, e3⟩ := DataW.trod_int ht h
  exact ⟨n, by simpa using e1, e3⟩
theorem trod_anc {t ti fuel : Nat} {f0 f1 f2 f3 f4 f5 : Field} {cs : List Value} {x : DataW H × List MemPlace} (hs : P.underlying t = some (.struct #[f0, f1, f2, f3, f4, f5])) (hone : oneCellFields P #[f0, f1, f2, f3, f4, f5] = true) (hC : P.cellsOf t = 6) (hi : P.underlying ti = some (.int .i64))
    (h0 : f0.type = ti) (h1 : f1.type = ti) (h2 : f2.type = ti) (h3 : f3.type = ti) (h4 : f4.type = ti) (h5 : f5.type = ti) (h : DataW.trod enc P w base spare held fuel t cs = some x) :
    ∃ k m d o w' c : Int, cs = [.int .i64 k, .int .i64 m, .int .i64 d, .int .i64 o, .int .i64 w', .int .i64 c] ∧ (Lit.int .i64 k).wf = true ∧ (Lit.int .i64 m).wf = true ∧ (Lit.int .i64 d).wf = true ∧ (Lit.int .i64 o).wf = true ∧ (Lit.int .i64 w').wf = true ∧ (Lit.int .i64 c).wf = true := by
  obtain ⟨xs, n, _, _, hlen, hxl, hg⟩ := DataW.trod_struct hs h
  obtain ⟨c0, c1, c2, c3, c4, c5, rfl⟩ := list6 (hlen.trans hC)
  have key : ∀ (j : Nat) (f : Field) (v : Value), #[f0, f1, f2, f3, f4, f5][j]? = some f → f.type = ti → ([c0, c1, c2, c3, c4, c5].drop j).take 1 = [v] → ∃ n : Int, v = .int .i64 n ∧ (Lit.int .i64 n).wf = true := by
    intro j f v hj hft hd
    have e := hg j f hj
    obtain ⟨o1, o2⟩ := hone_of hone j f hj
    rw [o1, o2, hd, hft] at e
    have hjl : j < xs.length := by
      have := (Array.getElem?_eq_some_iff.1 hj).1
      omega
    exact one_int hi e (List.getElem?_eq_getElem hjl)
  obtain ⟨n0, rfl, w0⟩ := key 0 f0 c0 rfl h0 rfl
  obtain ⟨n1, rfl, w1⟩ := key 1 f1 c1 rfl h1 rfl
  obtain ⟨n2, rfl, w2⟩ := key 2 f2 c2 rfl h2 rfl
  obtain ⟨n3, rfl, w3⟩ := key 3 f3 c3 rfl h3 rfl
  obtain ⟨n4, rfl, w4⟩ := key 4 f4 c4 rfl h4 rfl
  obtain ⟨n5, rfl, w5⟩ := key 5 f5 c5 rfl h5 rfl
  exact ⟨n0, n1, n2, n3, n4, n5, rfl, w0, w1, w2, w3, w4, w5⟩
/-- An item of a struct type (a string, two integers, an anchor). -/
theorem trod_itm {t ti ts ta fuel : Nat} {f0 f1 f2 f3 f4 f5 g0 g1 g2 g3 : Field} {cs : List Value} {x : DataW H × List MemPlace} (ht : P.underlying t = some (.struct #[g0, g1, g2, g3])) (hC9 : P.cellsOf t = 9)
    (o0 : g0.offset = 0) (o1 : g1.offset = 1) (o2 : g2.offset = 2) (o3 : g3.offset = 3) (s0 : P.cellsOf g0.type = 1) (s1 : P.cellsOf g1.type = 1) (s2 : P.cellsOf g2.type = 1) (s3 : P.cellsOf g3.type = 6)
    (t0 : g0.type = ts) (t1 : g1.type = ti) (t2 : g2.type = ti) (t3 : g3.type = ta) (hst : P.underlying ts = some .string) (hi : P.underlying ti = some (.int .i64))
    (hs : P.underlying ta = some (.struct #[f0, f1, f2, f3, f4, f5])) (hone : oneCellFields P #[f0, f1, f2, f3, f4, f5] = true) (hC : P.cellsOf ta = 6)
    (h0 : f0.type = ti) (h1 : f1.type = ti) (h2 : f2.type = ti) (h3 : f3.type = ti) (h4 : f4.type = ti) (h5 : f5.type = ti) (h : DataW.trod enc P w base spare held fuel t cs = some x) :
    ∃ z : Itm, cs = z.vals.toList ∧ z.Ok := by
  obtain ⟨xs, n, _, _, hlen, hxl, hg⟩ := DataW.trod_struct ht h
  obtain ⟨c0, c1, c2, c3, c4, c5, c6, c7, c8, rfl⟩ := list9 (hlen.trans hC9)
  obtain ⟨y0, y1, y2, y3, rfl⟩ := list4 hxl
  have e0 := hg 0 g0 rfl
  have e1 := hg 1 g1 rfl
  have e2 := hg 2 g2 rfl
  have e3 := hg 3 g3 rfl
  rw [o0, s0, t0] at e0
  rw [o1, s1, t1] at e1
  rw [o2, s2, t2] at e2
  rw [o3, s3, t3] at e3
  obtain ⟨s, es, _, ws⟩ := DataW.trod_string hst (show DataW.trod enc P w base spare held n ts [c0] = some y0 from e0)
  obtain ⟨a, rfl, wa⟩ := one_int hi (show DataW.trod enc P w base spare held n ti [c1] = some y1 from e1) rfl
  obtain ⟨b, rfl, wb⟩ := one_int hi (show DataW.trod enc P w base spare held n ti [c2] = some y2 from e2) rfl
  obtain ⟨k, m, d, o, w', c, ec, wk, wm, wd, wo, ww, wc⟩ := trod_anc hs hone hC hi h0 h1 h2 h3 h4 h5 (show DataW.trod enc P w base spare held n ta [c3, c4, c5, c6, c7, c8] = some y3 from e3)
  simp only [List.cons.injEq, and_true] at es ec
  obtain ⟨rfl, rfl, rfl, rfl, rfl, rfl⟩ := ec
  subst es
  exact ⟨⟨s, a, b, k, m, d, o, w', c⟩, rfl, ⟨ws, wa, wb, wk, wm, wd, wo, ww, wc⟩⟩
theorem cell_spot {a : Addr} {v : Value} (h : w.cell? a = some v) : a.spot = none := by
  unfold World.cell? at h
  split at h
  · cases hs : a.spot with
    | none => rfl
    | some x => rw [hs] at h; simp at h
  · cases h
theorem add_none (b o n : Nat) : (⟨b, o, none⟩ : Addr).add n = ⟨b, o + n, none⟩ := by
  unfold Addr.add
  split
  · rename_i h; subst h; rfl
  · rfl
/-- A slice of items. -/
theorem trod_items {t e fuel : Nat} {cs : List Value} {x : DataW H × List MemPlace} (ht : P.underlying t = some (.slice e)) (hC : P.cellsOf e = 9)
    (hI : ∀ (n : Nat) (cs' : List Value) (y : DataW H × List MemPlace), DataW.trod enc P w base spare held n e cs' = some y → ∃ z : Itm, cs' = z.vals.toList ∧ z.Ok) (h : DataW.trod enc P w base spare held fuel t cs = some x) :
    ∃ (v : Value) (ts : List Itm), cs = [v] ∧ SlAt w v ts ∧ ∀ z ∈ ts, z.Ok := by
  rcases open_slice ht h with ⟨rfl, _⟩ | ⟨a, len, cap, m, n, D, Pl, rfl, hb, hl, hm, hmm, _, hall⟩
  · exact ⟨_, [], rfl, ⟨none, 0, rfl, Nat.le_refl _, Nat.zero_le _, fun i t hi => by simp at hi⟩, fun z hz => by simp at hz⟩
  · have hle : len ≤ m := by rw [hmm]; split <;> omega
    have one : ∀ i, i < len → ∃ z : Itm, z.Ok ∧ ∀ j, j < 9 → w.cell? ((a.add (i * 9)).add j) = z.vals[j]? := by
      intro i hi
      obtain ⟨cs', h1, h2⟩ := hall i (by omega)
      rw [hC] at h1
      obtain ⟨z, e1, e2⟩ := hI _ _ _ h2
      obtain ⟨_, _, h4⟩ := World.cells?_some h1
      exact ⟨z, e2, fun j hj => by rw [h4 j hj, e1]; simp⟩
    have each : ∀ i, ∃ z : Itm, i < len → z.Ok ∧ ∀ j, j < 9 → w.cell? ((a.add (i * 9)).add j) = z.vals[j]? := fun i => by
      by_cases hi : i < len
      · obtain ⟨z, hz⟩ := one i hi
        exact ⟨z, fun _ => hz⟩
      · exact ⟨⟨ByteArray.empty, 0, 0, 0, 0, 0, 0, 0, 0⟩, fun h => absurd h hi⟩
    have zz : ∃ f : Nat → Itm, ∀ i, i < len → (f i).Ok ∧ ∀ j, j < 9 → w.cell? ((a.add (i * 9)).add j) = (f i).vals[j]? := ⟨fun i => (each i).choose, fun i => (each i).choose_spec⟩
    obtain ⟨f, hf⟩ := zz
    refine ⟨_, (List.range len).map f, rfl, ⟨some a, cap, by simp, by simpa using hl, hm, fun i t hi => ?_⟩, fun z hz => ?_⟩
    · have hil : i < len := by
        have := (List.getElem?_eq_some_iff.1 hi).1
        simpa using this
      have ht : t = f i := by
        rw [List.getElem?_map, List.getElem?_range hil] at hi
        exact (Option.some.inj hi).symm
      have hs : a.spot = none := by
        have h0 := (hf 0 (by omega)).2 0 (by decide)
        exact cell_spot (v := .string (f 0).id) h0
      obtain ⟨ab, ao, asp⟩ := a
      obtain rfl : asp = none := hs
      have hcell := (hf i hil).2
      refine ⟨ab, ao, rfl, ?_, fun j hj => ?_⟩
      · have h0 := hcell 0 (by decide)
        rw [add_none, add_none] at h0
        exact World.block_lt_of_cell? w _ (u := .string (f i).id) h0
      · have := hcell j hj
        rw [add_none, add_none] at this
        rw [ht]; exact this
    · rw [List.mem_map] at hz
      obtain ⟨i, hi, rfl⟩ := hz
      exact (hf i (List.mem_range.1 hi)).1
/-- Every argument reads behind a call that only makes new blocks as it read before. -/
theorem carry_all {W' : World} : ∀ {ts : List TypeId} {vs : List Value} {ds : List (DataW H)} {ps : List MemPlace}, DataW.TrodAll enc P w base spare held ts vs ds ps → (∀ p ∈ ps, w.sameAt W' p) → DataW.TrodAll enc P W' base spare held ts vs ds ps
  | [], [], [], _, h, _ => h
  | _ :: _, _ :: _, _ :: _, _, ⟨p, q, ⟨n, h1⟩, h2, e⟩, hs => ⟨p, q, ⟨n, DataW.trod_carry n _ _ _ h1 (fun x hx => hs x (by rw [e]; exact List.mem_append_left _ hx))⟩, carry_all h2 (fun x hx => hs x (by rw [e]; exact List.mem_append_right _ hx)), e⟩
theorem back_all {T : TypeId → Prop} (K : Kids P T) (hz : ∀ t e, T t → P.underlying t = some (.slice e) → 0 < P.cellsOf e) {W' : World} {sp : Nat → Bool} {ts : List TypeId} {vs : List Value} {ds : List (DataW H)} {ps : List MemPlace} (hT : ∀ t ∈ ts, T t)
    (h : DataW.TrodAll enc P w base (fun _ => true) true ts vs ds ps) (hlt : ∀ p ∈ ps, p.block < w.heap.size) (hb : Below w.heap.size w W') (hsp : ∀ p ∈ ps, sp p.block = true) : DataW.TrodAll enc P W' base sp true ts vs ds ps :=
  carry_all (h.respare K hz hT hsp) (fun p hp => hb.same (hlt p hp))
end
set_option maxRecDepth 100000 in
theorem zkids : Kids Tryz.prog (· < Tryz.prog.types.size) := kids_rows (by kernel_rfl) (by kernel_rfl)
set_option maxRecDepth 100000 in
theorem zfull : ∀ t e, t < Tryz.prog.types.size → Tryz.prog.underlying t = some (.slice e) → 0 < Tryz.prog.cellsOf e := slices_full_of Tryz.prog (by kernel_rfl)
section
variable {H : Type} {enc : TypeId × Value → H} {w : World} {base : Nat} {spare : Nat → Bool} {held : Bool}
/-- An anchor that came in. -/
structure AncOk (k m d o w c : Int) : Prop where
  k : (Lit.int .i64 k).wf = true
  m : (Lit.int .i64 m).wf = true
  d : (Lit.int .i64 d).wf = true
  o : (Lit.int .i64 o).wf = true
  w : (Lit.int .i64 w).wf = true
  c : (Lit.int .i64 c).wf = true
end
end Go.Proofs.YtkhicgafhbecfaaGreatDoor

namespace Go.Proofs.YtkhicgafhbecfaaGreatDoor
open Go.RowKit

/-- The byte of a string at an index. -/
def bt (s : ByteArray) (i : Nat) : Int := ((s.data.toList.getD i 0).toNat : Int)
theorem bt_bd (s : ByteArray) (i : Nat) : 0 ≤ bt s i ∧ bt s i ≤ 255 := by
  unfold bt
  have := UInt8.toNat_lt (s.data.toList.getD i 0)
  omega
theorem bt_get {s : ByteArray} {i : Nat} (h : i < s.size) : (((s[i]'h).toNat : Nat) : Int) = bt s i := by
  unfold bt
  have h' : i < s.data.toList.length := by simpa using h
  rw [List.getD_eq_getElem?_getD, List.getElem?_eq_getElem h', Option.getD_some]
  rfl
theorem idx_str (s : ByteArray) (j : Int) (h0 : 0 ≤ j) (h1 : j < s.size) (w : World) : (Instr.index 9 (.string s) (.int .i64 j)).run Tryz.prog w = .ok (.int .u8 (bt s j.toNat)) w := by
  rw [run_index_string w 9 s .i64 j Tryz.underlying9, dif_pos ⟨h0, h1⟩, bt_get]
/-- May the byte at an index of an identifier be what it is? -/
def idc (s : ByteArray) (i : Nat) : Bool := (decide (97 ≤ bt s i) && decide (bt s i ≤ 122)) || ((decide (48 ≤ bt s i) && decide (bt s i ≤ 57) && decide (0 < i)) || (decide (bt s i = 45) && (decide (0 < i) && (decide (i + 1 < s.size) && !decide (bt s (i - 1) = 45)))))
def idn (s : ByteArray) : Bool := decide (1 ≤ s.size) && (decide (s.size ≤ 40) && (List.range s.size).all (idc s))
theorem idn_iff {s : ByteArray} : idn s = true ↔ 1 ≤ s.size ∧ s.size ≤ 40 ∧ ∀ i, i < s.size → idc s i = true := by
  unfold idn; simp [List.all_eq_true]
theorem idn_bad {s : ByteArray} {i : Nat} (h : i < s.size) (hc : idc s i = false) : idn s = false := by
  cases e : idn s
  · rfl
  · rw [(idn_iff.1 e).2.2 i h] at hc; cases hc
theorem idc_iff {s : ByteArray} {i : Nat} : idc s i = true ↔ (97 ≤ bt s i ∧ bt s i ≤ 122) ∨ (48 ≤ bt s i ∧ bt s i ≤ 57 ∧ 0 < i) ∨ (bt s i = 45 ∧ 0 < i ∧ i + 1 < s.size ∧ bt s (i - 1) ≠ 45) := by
  unfold idc; simp [Bool.and_eq_true, Bool.or_eq_true, and_assoc]
theorem idc_no {s : ByteArray} {i : Nat} (h : ¬ ((97 ≤ bt s i ∧ bt s i ≤ 122) ∨ (48 ≤ bt s i ∧ bt s i ≤ 57 ∧ 0 < i) ∨ (bt s i = 45 ∧ 0 < i ∧ i + 1 < s.size ∧ bt s (i - 1) ≠ 45))) : idc s i = false := by
  cases e : idc s i
  · rfl
  · exact absurd (idc_iff.1 e) h
def rk (x : Int) : Bool := decide (1 ≤ x) && decide (x ≤ 9)
def pol (x : Int) : Bool := decide (1 ≤ x) && decide (x ≤ 3)
def seaB (z : Itm) : Bool := idn z.id && (rk z.x && (rk z.y && wfA z.k z.m z.d z.o z.w z.c))
def feaB (z : Itm) : Bool := idn z.id && (rk z.x && (pol z.y && wfA z.k z.m z.d z.o z.w z.c))

theorem r17id_len (s : ByteArray) (h : (decide ((s.size : Int) < 1) = true) ∨ (decide ((s.size : Int) < 1) = false ∧ decide ((40 : Int) < s.size) = true)) (w : World) : Calls Tryz.prog 28 #[.string s] w fun e w' => e = .returned (.bool false) ∧ w = w' := by
  rcases h with h | ⟨h, g⟩
  all_goals
    go_enter Tryz.func28, Tryz.ntmps28
    go_wp2
    go_ret
    exact ⟨rfl, rfl⟩
set_option maxHeartbeats 1000000 in
set_option maxRecDepth 100000 in
theorem r17id_ok (s : ByteArray) (h1 : 1 ≤ s.size) (h2 : s.size ≤ 40) (w : World) : Calls Tryz.prog 28 #[.string s] w fun e w' => e = .returned (.bool (idn s)) ∧ w = w' := by
  have d1 : decide ((s.size : Int) < 1) = false := decide_eq_false (by omega)
  have d2 : decide ((40 : Int) < s.size) = false := decide_eq_false (by omega)
  go_enter Tryz.func28, Tryz.ntmps28
  go_wp2_with fail
  go_loop [3] (fun i => ∃ j : Int, 0 ≤ j ∧ j ≤ s.size ∧ i = .int .i64 j ∧ ∀ k : Nat, (k : Int) < j → idc s k = true) (fun i => (s.size - (intOf i).toNat))
  case atStart => exact ⟨0, by omega, by omega, rfl, fun k hk => by omega⟩
  case round =>
    obtain ⟨j, j0, j1, rfl, hall⟩ := hrel
    have HA := Lib.hid hall
    clear hall
    by_cases hj : j < s.size
    · have hlt : j.toNat < s.size := by omega
      have hjn : decide (j < (s.size : Int)) = true := decide_eq_true hj
      have HX := fun w => idx_str s j j0 hj w
      have cb := bt_bd s j.toNat
      have HC : idc s j.toNat = true → ∀ k : Nat, (k : Int) < j + 1 → idc s k = true := fun e k hk => by
        by_cases g : (k : Int) < j
        · exact HA.out k g
        · rw [show k = j.toNat by omega]; exact e
      have HN := fun h => idn_bad hlt (idc_no (s := s) (i := j.toNat) h)
      have HY := fun h => HC (idc_iff.2 h)
      have Hn := Lib.hid HN
      have Hy := Lib.hid HY
      have HL := fun (g0 : 0 ≤ j - 1) (w : World) => idx_str s (j - 1) g0 (by omega) w
      have pb := bt_bd s (j.toNat - 1)
      rw [show (j - 1).toNat = j.toNat - 1 by omega] at HL
      clear HN HY HC
      generalize hc : bt s j.toNat = c at *
      generalize hp : bt s (j.toNat - 1) = p at *
      have cases : (97 ≤ c ∧ c ≤ 122) ∨ (122 < c) ∨ (57 < c ∧ c < 97) ∨ (48 ≤ c ∧ c ≤ 57 ∧ 0 < j) ∨ (48 ≤ c ∧ c ≤ 57 ∧ j = 0) ∨ (c < 48 ∧ c ≠ 45) ∨ (c = 45 ∧ j = 0) ∨ (c = 45 ∧ 0 < j ∧ j = s.size - 1) ∨ (c = 45 ∧ 0 < j ∧ j < s.size - 1 ∧ p = 45) ∨ (c = 45 ∧ 0 < j ∧ j < s.size - 1 ∧ p ≠ 45) := by omega
      rcases cases with hh | hh | hh | hh | hh | hh | hh | hh | hh | hh
      · have k0 : decide (97 ≤ c) = true := decide_eq_true (by omega)
        have k1 : decide (c ≤ 122) = true := decide_eq_true (by omega)
        have hy := Lib.hid (Hy.out (by omega))
        clear hh
        go_wp2_with fail
        go_round
        case rel => exact ⟨j + 1, by omega, by omega, by first | (go_num; done) | (go_num; omega), hy.out⟩
        case measure => simp [intOf]; omega
      · have k0 : decide (97 ≤ c) = true := decide_eq_true (by omega)
        have k1 : decide (c ≤ 122) = false := decide_eq_false (by omega)
        have k2 : decide (48 ≤ c) = true := decide_eq_true (by omega)
        have k3 : decide (c ≤ 57) = false := decide_eq_false (by omega)
        have k4 : (c != 45) = true := bne_iff_ne.2 (by omega)
        have hf := Hn.out (by omega)
        clear hh
        go_wp2_with fail
        go_ret
        exact ⟨rfl, rfl⟩
      · have k0 : decide (97 ≤ c) = false := decide_eq_false (by omega)
        have k1 : decide (48 ≤ c) = true := decide_eq_true (by omega)
        have k2 : decide (c ≤ 57) = false := decide_eq_false (by omega)
        have k3 : (c != 45) = true := bne_iff_ne.2 (by omega)
        have hf := Hn.out (by omega)
        clear hh
        go_wp2_with fail
        go_ret
        exact ⟨rfl, rfl⟩
      · have k0 : decide (97 ≤ c) = false := decide_eq_false (by omega)
        have k1 : decide (48 ≤ c) = true := decide_eq_true (by omega)
        have k2 : decide (c ≤ 57) = true := decide_eq_true (by omega)
        have k3 : decide (0 < j) = true := decide_eq_true (by omega)
        have hy := Lib.hid (Hy.out (by omega))
        clear hh
        go_wp2_with fail
        go_round
        case rel => exact ⟨j + 1, by omega, by omega, by first | (go_num; done) | (go_num; omega), hy.out⟩
        case measure => simp [intOf]; omega
      · have k0 : decide (97 ≤ c) = false := decide_eq_false (by omega)
        have k1 : decide (48 ≤ c) = true := decide_eq_true (by omega)
        have k2 : decide (c ≤ 57) = true := decide_eq_true (by omega)
        have k3 : decide (0 < j) = false := decide_eq_false (by omega)
        have k4 : (c != 45) = true := bne_iff_ne.2 (by omega)
        have hf := Hn.out (by omega)
        clear hh
        go_wp2_with fail
        go_ret
        exact ⟨rfl, rfl⟩
      · have k0 : decide (97 ≤ c) = false := decide_eq_false (by omega)
        have k1 : decide (48 ≤ c) = false := decide_eq_false (by omega)
        have k2 : (c != 45) = true := bne_iff_ne.2 (by omega)
        have hf := Hn.out (by omega)
        clear hh
        go_wp2_with fail
        go_ret
        exact ⟨rfl, rfl⟩
      · have k0 : decide (97 ≤ c) = false := decide_eq_false (by omega)
        have k1 : decide (48 ≤ c) = false := decide_eq_false (by omega)
        have k2 : (c != 45) = false := bne_eq_false_iff_eq.2 (by omega)
        have k3 : (j == 0) = true := beq_iff_eq.2 (by omega)
        have hf := Hn.out (by omega)
        clear hh
        go_wp2_with fail
        go_ret
        exact ⟨rfl, rfl⟩
      · have k0 : decide (97 ≤ c) = false := decide_eq_false (by omega)
        have k1 : decide (48 ≤ c) = false := decide_eq_false (by omega)
        have k2 : (c != 45) = false := bne_eq_false_iff_eq.2 (by omega)
        have k3 : (j == 0) = false := beq_eq_false_iff_ne.2 (by omega)
        have k4 : (j == (s.size : Int) - 1) = true := beq_iff_eq.2 (by omega)
        have hf := Hn.out (by omega)
        clear hh
        go_wp2_with fail
        go_ret
        exact ⟨rfl, rfl⟩
      · have k0 : decide (97 ≤ c) = false := decide_eq_false (by omega)
        have k1 : decide (48 ≤ c) = false := decide_eq_false (by omega)
        have k2 : (c != 45) = false := bne_eq_false_iff_eq.2 (by omega)
        have k3 : (j == 0) = false := beq_eq_false_iff_ne.2 (by omega)
        have k4 : (j == (s.size : Int) - 1) = false := beq_eq_false_iff_ne.2 (by omega)
        have k5 : (p == 45) = true := beq_iff_eq.2 (by omega)
        have HZ := HL (by omega)
        have hf := Hn.out (by omega)
        clear hh
        go_wp2_with fail
        go_ret
        exact ⟨rfl, rfl⟩
      · have k0 : decide (97 ≤ c) = false := decide_eq_false (by omega)
        have k1 : decide (48 ≤ c) = false := decide_eq_false (by omega)
        have k2 : (c != 45) = false := bne_eq_false_iff_eq.2 (by omega)
        have k3 : (j == 0) = false := beq_eq_false_iff_ne.2 (by omega)
        have k4 : (j == (s.size : Int) - 1) = false := beq_eq_false_iff_ne.2 (by omega)
        have k5 : (p == 45) = false := beq_eq_false_iff_ne.2 (by omega)
        have HZ := HL (by omega)
        have hy := Lib.hid (Hy.out (by omega))
        clear hh
        go_wp2_with fail
        go_round
        case rel => exact ⟨j + 1, by omega, by omega, by first | (go_num; done) | (go_num; omega), hy.out⟩
        case measure => simp [intOf]; omega
    · obtain rfl : j = s.size := by omega
      have hjn : decide ((s.size : Int) < (s.size : Int)) = false := decide_eq_false (by omega)
      have ht : idn s = true := idn_iff.2 ⟨h1, h2, fun i hi => HA.out i (by omega)⟩
      go_wp2_with fail
      go_ret
      exact ⟨rfl, rfl⟩
theorem r17id_any (s : ByteArray) (w : World) : Calls Tryz.prog 28 #[.string s] w fun e w' => e = .returned (.bool (idn s)) ∧ w = w' := by
  by_cases h1 : 1 ≤ s.size
  · by_cases h2 : s.size ≤ 40
    · exact r17id_ok s h1 h2 w
    · rw [show idn s = false by unfold idn; rw [decide_eq_false h2]; simp]
      exact r17id_len s (.inr ⟨decide_eq_false (by omega), decide_eq_true (by omega)⟩) w
  · rw [show idn s = false by unfold idn; rw [decide_eq_false h1]; rfl]
    exact r17id_len s (.inl (decide_eq_true (by omega))) w

end Go.Proofs.YtkhicgafhbecfaaGreatDoor

namespace Go.Proofs.YtkhicgafhbecfaaGreatDoor
open Go.RowKit

def StrsAt (B : Nat) (v : Value) (xs : List ByteArray) (w : World) : Prop := w.ownsRow B 9 1 v xs.length (xs.map Value.string)
theorem StrsAt.on {B : Nat} {v : Value} {xs : List ByteArray} {w w' : World} (h : StrsAt B v xs w) (hb : Below w.heap.size w w') : StrsAt B v xs w' :=
  World.ownsRow.kept h (grown_of_below hb none) (by cases hv : v.ownBlock <;> simp)
theorem StrsAt.al {B : Nat} {v : Value} {xs : List ByteArray} {w : World} (h : StrsAt B v xs w) (o : Obj) : StrsAt B v xs (w.alloc o) := h.on ((Below.refl _ _).alloc (Nat.le_refl _) o)
theorem StrsAt.emp (B : Nat) (w : World) : StrsAt B (.slice none 0 0) [] w := World.ownsRow_nil w B _ 1
/-- What a walk reads of it. -/
structure StrsIn (g cap : Nat) (xs : List ByteArray) (w : World) : Prop where
  lt : g < w.heap.size
  le : xs.length ≤ cap
  mx : cap ≤ maxLen
  cell : ∀ i, i < xs.length → w.cell? ⟨g, i, none⟩ = some (.string (xs.getD i ByteArray.empty))
theorem StrsIn.on {g cap : Nat} {xs : List ByteArray} {w w' : World} (h : StrsIn g cap xs w) (hb : Below w.heap.size w w') : StrsIn g cap xs w' :=
  ⟨Nat.lt_of_lt_of_le h.lt hb.size, h.le, h.mx, fun i hi => cell_below (h.cell i hi) hb⟩
theorem StrsAt.get {B : Nat} {v : Value} {xs : List ByteArray} {w : World} (h : StrsAt B v xs w) : (v = .slice none 0 0 ∧ xs = []) ∨ ∃ g cap, v = .slice (some ⟨g, 0, none⟩) xs.length cap ∧ StrsIn g cap xs w := by
  rcases h.2 with ⟨rfl, hn⟩ | ⟨g, cap, cur, rfl, hb, hg, hnc, hcm, hcs, htake⟩
  · exact .inl ⟨rfl, List.eq_nil_of_length_eq_zero hn⟩
  · refine .inr ⟨g, cap, rfl, (Array.getElem?_eq_some_iff.1 hg).1, hnc, hcm, fun i hi => ?_⟩
    have := World.ownsRow.cells h (g := g) rfl i (.string (xs.getD i ByteArray.empty)) (by rw [List.getElem?_map, List.getElem?_eq_getElem hi, List.getD_eq_getElem?_getD, List.getElem?_eq_getElem hi]; rfl)
    rwa [show (⟨g, 0, none⟩ : Addr).add i = ⟨g, i, none⟩ by unfold Addr.add; split <;> simp_all] at this
theorem infoStr : (Tryz.prog.info? 9).map (fun i => (i.zero, i.size, i.bytes)) = some (some (.string ⟨#[]⟩), 1, 16) := by kernel_rfl
theorem StrsAt.app {B : Nat} {v v' : Value} {xs : List ByteArray} {a : ByteArray} {w w1 w2 : World} {o : Obj} (hv : StrsAt B v xs w1) (hB : Below B w w1) (hs : B ≤ w1.heap.size)
    (hown : w2.ownsRow B 9 1 v' (xs.length + 1) (xs.map Value.string ++ [.string a])) (hg : (w1.alloc o).grownBy w2 v.ownBlock) : StrsAt B v' (xs ++ [a]) w2 ∧ Below B w w2 := by
  refine ⟨?_, (hB.alloc hs _).grown hg (by simp; omega) (fun k e => (World.ownsRow.lt hv k e).1)⟩
  rw [StrsAt, List.length_append, List.map_append]
  exact hown
/-- The nine cells of an item. -/
theorem ItmAt.nine {W : World} {b p : Nat} {id : ByteArray} {x y k m d o w c : Int} (h : ItmAt W b p ⟨id, x, y, k, m, d, o, w, c⟩) :
    W.cell? ⟨b, p, none⟩ = some (.string id) ∧ W.cell? ⟨b, p + 1, none⟩ = some (.int .i64 x) ∧ W.cell? ⟨b, p + 2, none⟩ = some (.int .i64 y) ∧ W.cell? ⟨b, p + 3, none⟩ = some (.int .i64 k) ∧ W.cell? ⟨b, p + 4, none⟩ = some (.int .i64 m) ∧ W.cell? ⟨b, p + 5, none⟩ = some (.int .i64 d) ∧ W.cell? ⟨b, p + 6, none⟩ = some (.int .i64 o) ∧ W.cell? ⟨b, p + 7, none⟩ = some (.int .i64 w) ∧ W.cell? ⟨b, p + 8, none⟩ = some (.int .i64 c) :=
  ⟨h 0 (by decide), h 1 (by decide), h 2 (by decide), h 3 (by decide), h 4 (by decide), h 5 (by decide), h 6 (by decide), h 7 (by decide), h 8 (by decide)⟩
theorem CatAt.on {W W' : World} {v : Value} {c : Cat} (h : CatAt W v c) (hb : Below W.heap.size W W') : CatAt W' v c := by
  obtain ⟨⟨vs, vf, hv, h1, h2⟩, h3, h4, h5⟩ := h
  exact ⟨⟨vs, vf, hv, h1.on hb, h2.on hb⟩, h3, h4, h5⟩
def Cat.ids (c : Cat) : List ByteArray := c.ss.map Itm.id ++ c.fs.map Itm.id
/-- The identifier at i is none of those ahead of it. -/
def newB (xs : List ByteArray) (i : Nat) : Bool := (List.range i).all fun k => !((xs.getD i ByteArray.empty).toList == (xs.getD k ByteArray.empty).toList)
def nodB (xs : List ByteArray) : Bool := (List.range xs.length).all (newB xs)
def catB (c : Cat) : Bool := decide (0 ≤ c.free ∧ c.free ≤ 9 ∧ 1 ≤ c.ss.length ∧ c.ss.length ≤ 20 ∧ c.fs.length ≤ 400) && (c.ss.all seaB && (c.fs.all feaB && nodB c.ids))
theorem catB_size {c : Cat} (h : ¬ (0 ≤ c.free ∧ c.free ≤ 9 ∧ 1 ≤ c.ss.length ∧ c.ss.length ≤ 20 ∧ c.fs.length ≤ 400)) : catB c = false := by unfold catB; rw [decide_eq_false h]; rfl
theorem catB_sea {c : Cat} {i : Nat} {t : Itm} (hi : c.ss[i]? = some t) (h : seaB t = false) : catB c = false := by
  have : c.ss.all seaB = false := by
    rw [List.all_eq_false]
    exact ⟨t, List.mem_of_getElem? hi, by rw [h]; decide⟩
  unfold catB; rw [this]; simp
theorem catB_fea {c : Cat} {i : Nat} {t : Itm} (hi : c.fs[i]? = some t) (h : feaB t = false) : catB c = false := by
  have : c.fs.all feaB = false := by
    rw [List.all_eq_false]
    exact ⟨t, List.mem_of_getElem? hi, by rw [h]; decide⟩
  unfold catB; rw [this]; simp
theorem catB_dup {c : Cat} {i k : Nat} (hi : i < c.ids.length) (hk : k < i) (h : ((c.ids.getD i ByteArray.empty).toList == (c.ids.getD k ByteArray.empty).toList) = true) : catB c = false := by
  have e1 : newB c.ids i = false := by
    unfold newB; rw [List.all_eq_false]
    exact ⟨k, List.mem_range.2 hk, by rw [h]; decide⟩
  have e2 : nodB c.ids = false := by
    unfold nodB; rw [List.all_eq_false]
    exact ⟨i, List.mem_range.2 hi, by rw [e1]; decide⟩
  unfold catB; rw [e2]; simp
theorem catB_yes {c : Cat} (h : 0 ≤ c.free ∧ c.free ≤ 9 ∧ 1 ≤ c.ss.length ∧ c.ss.length ≤ 20 ∧ c.fs.length ≤ 400) (h1 : ∀ (i : Nat) (t : Itm), c.ss[i]? = some t → seaB t = true) (h2 : ∀ (i : Nat) (t : Itm), c.fs[i]? = some t → feaB t = true) (h3 : ∀ i, i < c.ids.length → newB c.ids i = true) : catB c = true := by
  unfold catB
  rw [decide_eq_true h, Bool.true_and]
  have a1 : c.ss.all seaB = true := List.all_eq_true.2 fun t ht => by
    obtain ⟨i, hi⟩ := List.getElem?_of_mem ht
    exact h1 i t hi
  have a2 : c.fs.all feaB = true := List.all_eq_true.2 fun t ht => by
    obtain ⟨i, hi⟩ := List.getElem?_of_mem ht
    exact h2 i t hi
  have a3 : nodB c.ids = true := List.all_eq_true.2 fun i hi => h3 i (List.mem_range.1 hi)
  rw [a1, a2, a3]; rfl
theorem newB_iff {xs : List ByteArray} {i : Nat} : newB xs i = true ↔ ∀ k, k < i → ((xs.getD i ByteArray.empty).toList == (xs.getD k ByteArray.empty).toList) = false := by
  unfold newB
  rw [List.all_eq_true]
  exact ⟨fun h k hk => by have := h k (List.mem_range.2 hk); simpa using this, fun h k hk => by rw [h k (List.mem_range.1 hk)]; rfl⟩
theorem map_take_succ {ts : List Itm} {k : Nat} {t : Itm} (h : ts[k]? = some t) : (ts.take (k + 1)).map Itm.id = (ts.take k).map Itm.id ++ [t.id] := by
  rw [List.take_add_one, h, List.map_append]; rfl
end Go.Proofs.YtkhicgafhbecfaaGreatDoor

namespace Go.Proofs.YtkhicgafhbecfaaGreatDoor
open Go.RowKit

section
variable (free : Int) (A1 A2 : Option Addr) (n1 n2 c1 c2 : Nat) (W : World)
end
def fewB (c : Cat) : Bool := decide (c.ss.length ≤ 8) && decide (c.fs.length ≤ 30)
end Go.Proofs.YtkhicgafhbecfaaGreatDoor

namespace Go.Proofs.YtkhicgafhbecfaaGreatDoor
open Go.RowKit

/-- The index of the first item with an identifier, or -1. -/
def fndF (ts : List Itm) (s : ByteArray) : Int := match ts.findIdx? (fun t => t.id.toList == s.toList) with | some i => (i : Int) | none => -1
theorem itm_row {w : World} {b t : Nat} {cs : Array Value} (h : w.heap[b]? = some (.cells cs t (0, 0))) (p : Nat) (z : Itm) (hz : ∀ j : Nat, j < 9 → cs[p + j]? = z.vals[j]?) : ItmAt w b p z := fun j hj => by
  rw [cell_of_row w b (p + j) _ _ _ h]; exact hz j hj
theorem row9 {w : World} {b t : Nat} {a0 a1 a2 a3 a4 a5 a6 a7 a8 : Value} (h : w.heap[b]? = some (.cells #[a0, a1, a2, a3, a4, a5, a6, a7, a8] t (0, 0))) :
    w.cell? ⟨b, 0, none⟩ = some a0 ∧ w.cell? ⟨b, 1, none⟩ = some a1 ∧ w.cell? ⟨b, 2, none⟩ = some a2 ∧ w.cell? ⟨b, 3, none⟩ = some a3 ∧ w.cell? ⟨b, 4, none⟩ = some a4 ∧ w.cell? ⟨b, 5, none⟩ = some a5 ∧ w.cell? ⟨b, 6, none⟩ = some a6 ∧ w.cell? ⟨b, 7, none⟩ = some a7 ∧ w.cell? ⟨b, 8, none⟩ = some a8 ∧ b < w.heap.size := by
  have h0 : w.cell? ⟨b, 0, none⟩ = some a0 := by rw [cell_of_row w b 0 _ _ _ h]; rfl
  exact ⟨h0, by rw [cell_of_row w b 1 _ _ _ h]; rfl, by rw [cell_of_row w b 2 _ _ _ h]; rfl, by rw [cell_of_row w b 3 _ _ _ h]; rfl, by rw [cell_of_row w b 4 _ _ _ h]; rfl, by rw [cell_of_row w b 5 _ _ _ h]; rfl, by rw [cell_of_row w b 6 _ _ _ h]; rfl, by rw [cell_of_row w b 7 _ _ _ h]; rfl, by rw [cell_of_row w b 8 _ _ _ h]; rfl, World.block_lt_of_cell? w _ h0⟩
/-- The season of the examples. -/
def zx : Itm := ⟨⟨#[120]⟩, 1, 9, 1, 1, 1, 0, 0, 0⟩
theorem zx_ok : zx.Ok := ⟨by decide, by decide, by decide, by decide, by decide, by decide, by decide, by decide, by decide⟩
def zo : Itm := ⟨⟨#[]⟩, 0, 0, 0, 0, 0, 0, 0, 0⟩
theorem zo_ok : zo.Ok := ⟨by decide, by decide, by decide, by decide, by decide, by decide, by decide, by decide, by decide⟩
theorem sl_one {w : World} {b t : Nat} (h : w.heap[b]? = some (.cells zx.vals t (0, 0))) : CatAt w (.agg #[.int .i64 0, .slice (some ⟨b, 0, none⟩) 1 1, .slice none 0 0]) ⟨0, [zx], []⟩ := by
  have hb := World.block_lt_of_cell? w _ (u := .string zx.id) (by rw [cell_of_row w b 0 _ _ _ h]; rfl)
  refine ⟨⟨_, _, rfl, ⟨_, 1, rfl, Nat.le_refl _, by decide, fun i t hi => ?_⟩, ⟨none, 0, rfl, Nat.le_refl _, by decide, fun i t hi => by simp at hi⟩⟩, by decide, fun t ht => (show t = zx by simpa using ht) ▸ zx_ok, fun t ht => by simp at ht⟩
  match i, hi with
  | 0, hi =>
    obtain rfl : zx = t := by simpa using hi
    exact ⟨b, 0, rfl, hb, itm_row h 0 zx (fun j hj => by rw [Nat.zero_add])⟩
  | i + 1, hi => simp at hi
theorem sl_two {w : World} {b t : Nat} (h : w.heap[b]? = some (.cells (zx.vals ++ zx.vals) t (0, 0))) : CatAt w (.agg #[.int .i64 0, .slice (some ⟨b, 0, none⟩) 2 2, .slice none 0 0]) ⟨0, [zx, zx], []⟩ := by
  have hb := World.block_lt_of_cell? w _ (u := .string zx.id) (by rw [cell_of_row w b 0 _ _ _ h]; rfl)
  refine ⟨⟨_, _, rfl, ⟨_, 2, rfl, Nat.le_refl _, by decide, fun i t hi => ?_⟩, ⟨none, 0, rfl, Nat.le_refl _, by decide, fun i t hi => by simp at hi⟩⟩, by decide, fun t ht => (show t = zx by simpa using ht) ▸ zx_ok, fun t ht => by simp at ht⟩
  have fin : ∀ p : Nat, p = 0 ∨ p = 9 → ∀ j : Nat, j < 9 → (zx.vals ++ zx.vals)[p + j]? = zx.vals[j]? := by
    intro p hp j hj
    have hj' : j = 0 ∨ j = 1 ∨ j = 2 ∨ j = 3 ∨ j = 4 ∨ j = 5 ∨ j = 6 ∨ j = 7 ∨ j = 8 := by omega
    rcases hp with rfl | rfl <;> rcases hj' with rfl | rfl | rfl | rfl | rfl | rfl | rfl | rfl | rfl <;> rfl
  match i, hi with
  | 0, hi =>
    obtain rfl : zx = t := by simpa using hi
    exact ⟨b, 0, rfl, hb, itm_row h 0 zx (fin 0 (.inl rfl))⟩
  | 1, hi =>
    obtain rfl : zx = t := by simpa using hi
    exact ⟨b, 0, rfl, hb, itm_row h (0 + 1 * 9) zx (fin 9 (.inr rfl))⟩
  | i + 2, hi => simp at hi
theorem five (W : World) (o0 o1 o2 o3 o4 : Obj) (U : World) (hU : ((((W.alloc o0).alloc o1).alloc o2).alloc o3).alloc o4 = U) :
    U.heap[W.heap.size]? = some o0 ∧ U.heap[W.heap.size + 1]? = some o1 ∧ U.heap[W.heap.size + 1 + 1]? = some o2 ∧ U.heap[W.heap.size + 1 + 1 + 1]? = some o3 ∧ U.heap[W.heap.size + 1 + 1 + 1 + 1]? = some o4 ∧ Below W.heap.size W U := by
  subst hU
  have b1 := (Below.refl W.heap.size W).alloc (Nat.le_refl _) o0
  have b2 := b1.alloc (by simp) o1
  have b3 := b2.alloc (by simp; omega) o2
  have b4 := b3.alloc (by simp; omega) o3
  have b5 := b4.alloc (by simp; omega) o4
  refine ⟨row_al (row_al (row_al (row_al (heap_alloc_new W o0) _) _) _) _, row_al (row_al (row_al (row_new1 W o0 o1) _) _) _, ?_, ?_, ?_, b5⟩
  · have h := heap_alloc_new ((W.alloc o0).alloc o1) o2
    rw [show ((W.alloc o0).alloc o1).heap.size = W.heap.size + 1 + 1 by simp] at h
    exact row_al (row_al h _) _
  · have h := heap_alloc_new (((W.alloc o0).alloc o1).alloc o2) o3
    rw [show (((W.alloc o0).alloc o1).alloc o2).heap.size = W.heap.size + 1 + 1 + 1 by simp] at h
    exact row_al h _
  · have h := heap_alloc_new ((((W.alloc o0).alloc o1).alloc o2).alloc o3) o4
    rw [show ((((W.alloc o0).alloc o1).alloc o2).alloc o3).heap.size = W.heap.size + 1 + 1 + 1 + 1 by simp] at h
    exact h
theorem cat_nil (w : World) : CatAt w (.agg #[.int .i64 0, .slice none 0 0, .slice none 0 0]) ⟨0, [], []⟩ :=
  ⟨⟨_, _, rfl, ⟨none, 0, rfl, Nat.le_refl _, by decide, fun i t hi => by simp at hi⟩, ⟨none, 0, rfl, Nat.le_refl _, by decide, fun i t hi => by simp at hi⟩⟩, by decide, fun t ht => by simp at ht, fun t ht => by simp at ht⟩
end Go.Proofs.YtkhicgafhbecfaaGreatDoor

namespace Go.Proofs.YtkhicgafhbecfaaGreatDoor
open Go.RowKit

theorem ids_ss {c : Cat} {i : Nat} {t : Itm} (h : c.ss[i]? = some t) : c.ids.getD i ByteArray.empty = t.id := by
  have hl := (List.getElem?_eq_some_iff.1 h).1
  unfold Cat.ids
  rw [List.getD_eq_getElem?_getD, List.getElem?_append_left (by simpa using hl), List.getElem?_map, h]; rfl
theorem ids_fs {c : Cat} {j : Nat} {t : Itm} (h : c.fs[j]? = some t) : c.ids.getD (c.ss.length + j) ByteArray.empty = t.id := by
  unfold Cat.ids
  rw [List.getD_eq_getElem?_getD, List.getElem?_append_right (by simp), List.length_map, Nat.add_sub_cancel_left, List.getElem?_map, h]; rfl
section
variable (free : Int) (A1 A2 : Option Addr) (n1 n2 c1 c2 : Nat) (b p : Nat) (W : World)
end
theorem cat_parts0 {c : Cat} (h : catB c = true) : nodB c.ids = true := by
  unfold catB at h
  simp only [Bool.and_eq_true] at h
  exact h.2.2.2
/-- In a well-formed catalogue no identifier occurs twice. -/
theorem ids_ne {c : Cat} (h : catB c = true) {i k : Nat} (hi : i < c.ids.length) (hk : k < c.ids.length) : ((c.ids.getD i ByteArray.empty).toList == (c.ids.getD k ByteArray.empty).toList) = decide (i = k) := by
  have hn := (cat_parts0 h)
  rcases Nat.lt_trichotomy i k with l | l | l
  · have := newB_iff.1 (List.all_eq_true.1 hn k (List.mem_range.2 hk)) i l
    rw [decide_eq_false (by omega), ← this]
    exact Bool.eq_iff_iff.2 ⟨fun e => by rw [beq_iff_eq] at e ⊢; exact e.symm, fun e => by rw [beq_iff_eq] at e ⊢; exact e.symm⟩
  · subst l; rw [decide_eq_true rfl, beq_iff_eq]
  · have := newB_iff.1 (List.all_eq_true.1 hn i (List.mem_range.2 hi)) k l
    rw [decide_eq_false (by omega), this]
end Go.Proofs.YtkhicgafhbecfaaGreatDoor

namespace Go.Proofs.YtkhicgafhbecfaaGreatDoor
open Go.RowKit

theorem box_on {u u' w3 : World} {b : Nat} {x y z : Value} (h : u.cell? ⟨b, 0, none⟩ = some x ∧ u.cell? ⟨b, 1, none⟩ = some y ∧ u.cell? ⟨b, 2, none⟩ = some z ∧ Below w3.heap.size w3 u) (hb : Below u.heap.size u u') : u'.cell? ⟨b, 0, none⟩ = some x ∧ u'.cell? ⟨b, 1, none⟩ = some y ∧ u'.cell? ⟨b, 2, none⟩ = some z ∧ Below w3.heap.size w3 u' := by
  have hz := World.block_lt_of_cell? u _ h.1
  have e := (bcell hb).1
  exact ⟨by rw [e _ _ hz]; exact h.1, by rw [e _ _ hz]; exact h.2.1, by rw [e _ _ hz]; exact h.2.2.1, below_on h.2.2.2 hb⟩
section
end
section
end
end Go.Proofs.YtkhicgafhbecfaaGreatDoor

namespace Go.Proofs.YtkhicgafhbecfaaGreatDoor
open Go.RowKit

/-- The byte ahead of an index; ahead of the first one as if it were a hyphen. -/
def bfr (s : ByteArray) (i : Nat) : Int := if i = 0 then 45 else bt s (i - 1)
/-- May the byte at an index of an identifier be what it is, as the program asks? -/
def pcB (s : ByteArray) (i : Nat) : Prop := (97 ≤ bt s i ∧ bt s i ≤ 122) ∨ (48 ≤ bt s i ∧ bt s i ≤ 57 ∧ 0 < i) ∨ (bt s i = 45 ∧ bfr s i ≠ 45)
theorem idn_pc {s : ByteArray} : idn s = true ↔ s.size ≤ 40 ∧ (∀ i, i < s.size → pcB s i) ∧ bfr s s.size ≠ 45 := by
  rw [idn_iff]
  constructor
  · rintro ⟨h1, h2, h3⟩
    refine ⟨h2, fun i hi => ?_, ?_⟩
    · rcases idc_iff.1 (h3 i hi) with h | h | ⟨a, b, c, d⟩
      · exact .inl h
      · exact .inr (.inl h)
      · exact .inr (.inr ⟨a, by unfold bfr; rw [if_neg (by omega)]; exact d⟩)
    · unfold bfr
      rw [if_neg (by omega)]
      intro e
      rcases idc_iff.1 (h3 (s.size - 1) (by omega)) with h | h | ⟨a, b, c, d⟩ <;> omega
  · rintro ⟨h2, h3, h4⟩
    have h1 : 1 ≤ s.size := by
      rcases Nat.eq_zero_or_pos s.size with h | h
      · rw [h] at h4; exact absurd rfl h4
      · exact h
    refine ⟨h1, h2, fun i hi => idc_iff.2 ?_⟩
    rcases h3 i hi with h | h | ⟨a, b⟩
    · exact .inl h
    · exact .inr (.inl h)
    · refine .inr (.inr ?_)
      have i0 : 0 < i := by
        rcases Nat.eq_zero_or_pos i with h | h
        · rw [h] at b; exact absurd rfl b
        · exact h
      unfold bfr at b
      rw [if_neg (by omega)] at b
      refine ⟨a, i0, ?_, b⟩
      rcases Nat.lt_or_ge (i + 1) s.size with h | h
      · exact h
      · unfold bfr at h4
        rw [if_neg (by omega), show s.size - 1 = i by omega] at h4
        exact absurd a h4
theorem idn_stop {s : ByteArray} {i : Nat} (hi : i < s.size) (h : ¬ pcB s i) : idn s = false := by
  cases e : idn s
  · rfl
  · exact absurd ((idn_pc.1 e).2.1 i hi) h
theorem bfr_succ (s : ByteArray) (j : Nat) : bfr s (j + 1) = bt s j := by unfold bfr; rw [if_neg (by omega)]; rfl
theorem nx_low (w : World) (s : ByteArray) (j : Nat) (ty : TypeId) (h : j < s.size) (hb : bt s j < 128) : (Instr.next (.pointer (some ⟨w.heap.size, 0, none⟩)) true ty).run Tryz.prog (w.iter s j) = .ok (.tuple #[.bool true, .int .i64 j, .int .i32 (bt s j)]) (w.iter s (j + 1)) := by
  have e := bt_get h
  rw [run_next_ascii w s j ty h (by omega), e]
theorem nx_high (w : World) (s : ByteArray) (j : Nat) (h : j < s.size) (hb : 128 ≤ bt s j) : ∃ (r : Int) (q : Nat), 128 ≤ r ∧ ∀ ty, (Instr.next (.pointer (some ⟨w.heap.size, 0, none⟩)) true ty).run Tryz.prog (w.iter s j) = .ok (.tuple #[.bool true, .int .i64 j, .int .i32 r]) (w.iter s q) := by
  have e := bt_get h
  have hd := decode_high s j h (by omega)
  exact ⟨_, _, by have := hd.1; omega, fun ty => run_next_any w s j ty h⟩
section
variable (r n : Int) (w : World)
theorem p17lt_any : Calls Tryz.prog 128 #[.int .i32 r] w fun e w' => e = .returned (.bool (decide (97 ≤ r) && decide (r ≤ 122))) ∧ w = w' := by
  cases h : decide (97 ≤ r)
  · go_enter Tryz.func128, Tryz.ntmps128
    go_wp2
    go_ret
    exact ⟨rfl, rfl⟩
  · cases h2 : decide (r ≤ 122)
    all_goals
      go_enter Tryz.func128, Tryz.ntmps128
      go_wp2
      go_ret
      exact ⟨rfl, rfl⟩
theorem p17dg_any : Calls Tryz.prog 129 #[.int .i32 r] w fun e w' => e = .returned (.bool (decide (48 ≤ r) && decide (r ≤ 57))) ∧ w = w' := by
  cases h : decide (48 ≤ r)
  · go_enter Tryz.func129, Tryz.ntmps129
    go_wp2
    go_ret
    exact ⟨rfl, rfl⟩
  · cases h2 : decide (r ≤ 57)
    all_goals
      go_enter Tryz.func129, Tryz.ntmps129
      go_wp2
      go_ret
      exact ⟨rfl, rfl⟩
theorem pol_cases : pol n = ((n == 1) || ((n == 2) || (n == 3))) := by
  have h : pol n = true ↔ ((n == 1) || ((n == 2) || (n == 3))) = true := by
    unfold pol; simp; omega
  cases a : pol n <;> cases b : ((n == 1) || ((n == 2) || (n == 3))) <;> simp_all
end
theorem p17lt_is {c : Int} {b : Bool} (h : (decide (97 ≤ c) && decide (c ≤ 122)) = b) (u : World) : Calls Tryz.prog 128 #[.int .i32 c] u fun e w' => e = .returned (.bool b) ∧ u = w' := h ▸ p17lt_any c u
theorem p17dg_is {c : Int} {b : Bool} (h : (decide (48 ≤ c) && decide (c ≤ 57)) = b) (u : World) : Calls Tryz.prog 129 #[.int .i32 c] u fun e w' => e = .returned (.bool b) ∧ u = w' := h ▸ p17dg_any c u
theorem p17id_long (s : ByteArray) (h : 40 < s.size) (w : World) : Calls Tryz.prog 120 #[.string s] w fun e w' => e = .returned (.bool false) ∧ Below w.heap.size w w' := by
  have d2 : decide ((40 : Int) < s.size) = true := decide_eq_true (by omega)
  go_enter Tryz.func120, Tryz.ntmps120
  go_wp2
  go_ret
  exact ⟨rfl, Below.refl _ _⟩
set_option maxHeartbeats 1000000 in
set_option maxRecDepth 100000 in
theorem p17id_ok (s : ByteArray) (h2 : s.size ≤ 40) (w : World) : Calls Tryz.prog 120 #[.string s] w fun e w' => e = .returned (.bool (idn s)) ∧ Below w.heap.size w w' := by
  have d2 : decide ((40 : Int) < s.size) = false := decide_eq_false (by omega)
  go_enter Tryz.func120, Tryz.ntmps120
  go_wp2_with fail
  go_loopw [3] (fun b wr => ∃ j : Nat, j ≤ s.size ∧ b = .int .i32 (bfr s j) ∧ wr = w.iter s j ∧ ∀ k, k < j → pcB s k) (fun _ wr => s.size - wr.iterPos w.heap.size)
  case atStart => exact ⟨0, by omega, rfl, rfl, fun k hk => by omega⟩
  case round =>
    obtain ⟨j, hj, rfl, rfl, hall⟩ := hrel
    have HA := Lib.hid hall
    clear hall
    by_cases hlt : j < s.size
    · have cb := bt_bd s j
      have HB := Lib.hid (bfr_succ s j)
      have HN := Lib.hid (fun h : ¬ ((97 ≤ bt s j ∧ bt s j ≤ 122) ∨ (48 ≤ bt s j ∧ bt s j ≤ 57 ∧ 0 < j) ∨ (bt s j = 45 ∧ bfr s j ≠ 45)) => idn_stop (s := s) hlt h)
      have HY := Lib.hid (fun (h : (97 ≤ bt s j ∧ bt s j ≤ 122) ∨ (48 ≤ bt s j ∧ bt s j ≤ 57 ∧ 0 < j) ∨ (bt s j = 45 ∧ bfr s j ≠ 45)) (k : Nat) (hk : k < j + 1) => show pcB s k by
        by_cases g : k < j
        · exact HA.out k g
        · rw [show k = j by omega]; exact h)
      clear HA
      by_cases hlo : bt s j < 128
      · have hnx := fun ty => nx_low w s j ty hlt hlo
        generalize bt s j = c at *
        generalize bfr s j = p at *
        have cases : (97 ≤ c ∧ c ≤ 122) ∨ (48 ≤ c ∧ c ≤ 57 ∧ 0 < j) ∨ (48 ≤ c ∧ c ≤ 57 ∧ j = 0) ∨ (c = 45 ∧ p ≠ 45) ∨ (c = 45 ∧ p = 45) ∨ (¬ (97 ≤ c ∧ c ≤ 122) ∧ ¬ (48 ≤ c ∧ c ≤ 57) ∧ c ≠ 45) := by omega
        rcases cases with hh | hh | hh | hh | hh | hh
        · have hl := p17lt_is (c := c) (b := true) (by rw [decide_eq_true (by omega), decide_eq_true (by omega)]; rfl)
          have hy := Lib.hid (HY.out (by omega))
          clear hh
          go_wp2_with fail
          refine (hl _).mono ?_
          rintro e wq ⟨rfl, rfl⟩
          go_wp2_with fail
          go_roundw
          case rel => exact ⟨j + 1, by omega, by rw [HB.out], rfl, hy.out⟩
          case measure => simp; omega
        · have hl := p17lt_is (c := c) (b := false) (by rw [Bool.and_eq_false_iff, decide_eq_false_iff_not, decide_eq_false_iff_not]; omega)
          have hd := p17dg_is (c := c) (b := true) (by rw [decide_eq_true (by omega), decide_eq_true (by omega)]; rfl)
          have k1 : 0 < j := by omega
          have hy := Lib.hid (HY.out (by omega))
          clear hh
          go_wp2_with fail
          refine (hl _).mono ?_
          rintro e wq ⟨rfl, rfl⟩
          go_wp2_with fail
          refine (hd _).mono ?_
          rintro e wq ⟨rfl, rfl⟩
          go_wp2_with fail
          go_roundw
          case rel => exact ⟨j + 1, by omega, by rw [HB.out], rfl, hy.out⟩
          case measure => simp; omega
        · have hl := p17lt_is (c := c) (b := false) (by rw [Bool.and_eq_false_iff, decide_eq_false_iff_not, decide_eq_false_iff_not]; omega)
          have hd := p17dg_is (c := c) (b := true) (by rw [decide_eq_true (by omega), decide_eq_true (by omega)]; rfl)
          have k1 : ¬ 0 < j := by omega
          have k2 : (c == 45) = false := beq_eq_false_iff_ne.2 (by omega)
          have hf := HN.out (by omega)
          clear hh
          go_wp2_with fail
          refine (hl _).mono ?_
          rintro e wq ⟨rfl, rfl⟩
          go_wp2_with fail
          refine (hd _).mono ?_
          rintro e wq ⟨rfl, rfl⟩
          go_wp2_with fail
          go_ret
          exact ⟨ret_bool hf.symm, (Below.refl _ _).alloc (Nat.le_refl _) _⟩
        · have hl := p17lt_is (c := c) (b := false) (by rw [Bool.and_eq_false_iff, decide_eq_false_iff_not, decide_eq_false_iff_not]; omega)
          have hd := p17dg_is (c := c) (b := false) (by rw [Bool.and_eq_false_iff, decide_eq_false_iff_not, decide_eq_false_iff_not]; omega)
          have k2 : (c == 45) = true := beq_iff_eq.2 (by omega)
          have k3 : (p != 45) = true := bne_iff_ne.2 (by omega)
          have hy := Lib.hid (HY.out (by omega))
          clear hh
          go_wp2_with fail
          refine (hl _).mono ?_
          rintro e wq ⟨rfl, rfl⟩
          go_wp2_with fail
          refine (hd _).mono ?_
          rintro e wq ⟨rfl, rfl⟩
          go_wp2_with fail
          go_roundw
          case rel => exact ⟨j + 1, by omega, by rw [HB.out], rfl, hy.out⟩
          case measure => simp; omega
        · have hl := p17lt_is (c := c) (b := false) (by rw [Bool.and_eq_false_iff, decide_eq_false_iff_not, decide_eq_false_iff_not]; omega)
          have hd := p17dg_is (c := c) (b := false) (by rw [Bool.and_eq_false_iff, decide_eq_false_iff_not, decide_eq_false_iff_not]; omega)
          have k2 : (c == 45) = true := beq_iff_eq.2 (by omega)
          have k3 : (p != 45) = false := bne_eq_false_iff_eq.2 (by omega)
          have hf := HN.out (by omega)
          clear hh
          go_wp2_with fail
          refine (hl _).mono ?_
          rintro e wq ⟨rfl, rfl⟩
          go_wp2_with fail
          refine (hd _).mono ?_
          rintro e wq ⟨rfl, rfl⟩
          go_wp2_with fail
          go_ret
          exact ⟨ret_bool hf.symm, (Below.refl _ _).alloc (Nat.le_refl _) _⟩
        · have hl := p17lt_is (c := c) (b := false) (by rw [Bool.and_eq_false_iff, decide_eq_false_iff_not, decide_eq_false_iff_not]; omega)
          have hd := p17dg_is (c := c) (b := false) (by rw [Bool.and_eq_false_iff, decide_eq_false_iff_not, decide_eq_false_iff_not]; omega)
          have k2 : (c == 45) = false := beq_eq_false_iff_ne.2 (by omega)
          have hf := HN.out (by omega)
          clear hh
          go_wp2_with fail
          refine (hl _).mono ?_
          rintro e wq ⟨rfl, rfl⟩
          go_wp2_with fail
          refine (hd _).mono ?_
          rintro e wq ⟨rfl, rfl⟩
          go_wp2_with fail
          go_ret
          exact ⟨ret_bool hf.symm, (Below.refl _ _).alloc (Nat.le_refl _) _⟩
      · obtain ⟨c, q, hc, hnx⟩ := nx_high w s j hlt (by omega)
        have hf := HN.out (by omega)
        have hl := p17lt_is (c := c) (b := false) (by rw [Bool.and_eq_false_iff, decide_eq_false_iff_not, decide_eq_false_iff_not]; omega)
        have hd := p17dg_is (c := c) (b := false) (by rw [Bool.and_eq_false_iff, decide_eq_false_iff_not, decide_eq_false_iff_not]; omega)
        have k2 : (c == 45) = false := beq_eq_false_iff_ne.2 (by omega)
        clear hlo cb HB HN HY
        go_wp2_with fail
        refine (hl _).mono ?_
        rintro e wq ⟨rfl, rfl⟩
        go_wp2_with fail
        refine (hd _).mono ?_
        rintro e wq ⟨rfl, rfl⟩
        go_wp2_with fail
        go_ret
        exact ⟨ret_bool hf.symm, (Below.refl _ _).alloc (Nat.le_refl _) _⟩
    · obtain rfl : j = s.size := by omega
      have hnx := fun ty => run_next_end (P := Tryz.prog) w s s.size ty hlt
      have HE := Lib.hid (fun h : bfr s s.size ≠ 45 => idn_pc.2 ⟨h2, HA.out, h⟩)
      have HF := Lib.hid (fun h : bfr s s.size = 45 => show idn s = false by
        cases e : idn s
        · rfl
        · exact absurd h (idn_pc.1 e).2.2)
      clear HA
      generalize bfr s s.size = p at *
      cases k3 : (p != 45)
      · have hf := HF.out (bne_eq_false_iff_eq.1 k3)
        go_wp2_with fail
        go_ret
        exact ⟨ret_bool hf.symm, (Below.refl _ _).alloc (Nat.le_refl _) _⟩
      · have hf := HE.out (bne_iff_ne.1 k3)
        go_wp2_with fail
        go_ret
        exact ⟨ret_bool hf.symm, (Below.refl _ _).alloc (Nat.le_refl _) _⟩
theorem p17id_any (s : ByteArray) (w : World) : Calls Tryz.prog 120 #[.string s] w fun e w' => e = .returned (.bool (idn s)) ∧ Below w.heap.size w w' := by
  by_cases h : s.size ≤ 40
  · exact p17id_ok s h w
  · have e : idn s = false := by
      cases e : idn s
      · rfl
      · exact absurd (idn_pc.1 e).1 h
    rw [e]
    exact p17id_long s (by omega) w
end Go.Proofs.YtkhicgafhbecfaaGreatDoor

namespace Go.Proofs.YtkhicgafhbecfaaGreatDoor
open Go.RowKit

abbrev inbB (free : Int) (n1 n2 : Nat) : Bool := decide (0 ≤ free ∧ free ≤ 9 ∧ 1 ≤ n1 ∧ n1 ≤ 20 ∧ n2 ≤ 400)
section
variable (free : Int) (A1 A2 : Option Addr) (n1 n2 c1 c2 : Nat) (W : World)
end
theorem noseaB (ss fs : List Itm) {i : Nat} {t : Itm} (hi : ss[i]? = some t) (h : seaB t = false) : (ss.all seaB && fs.all feaB) = false := by
  have : ss.all seaB = false := List.all_eq_false.2 ⟨t, List.mem_of_getElem? hi, by rw [h]; decide⟩
  rw [this]; rfl
theorem nofeaB (ss fs : List Itm) {i : Nat} {t : Itm} (hi : fs[i]? = some t) (h : feaB t = false) : (ss.all seaB && fs.all feaB) = false := by
  have : fs.all feaB = false := List.all_eq_false.2 ⟨t, List.mem_of_getElem? hi, by rw [h]; decide⟩
  rw [this]; simp
theorem yesB (ss fs : List Itm) (h1 : ∀ (j : Nat) (t : Itm), ss[j]? = some t → seaB t = true) (h2 : ∀ (j : Nat) (t : Itm), fs[j]? = some t → feaB t = true) : (ss.all seaB && fs.all feaB) = true := by
  have a1 : ss.all seaB = true := List.all_eq_true.2 fun t ht => by
    obtain ⟨i, hi⟩ := List.getElem?_of_mem ht
    exact h1 i t hi
  have a2 : fs.all feaB = true := List.all_eq_true.2 fun t ht => by
    obtain ⟨i, hi⟩ := List.getElem?_of_mem ht
    exact h2 i t hi
  rw [a1, a2]; rfl
end Go.Proofs.YtkhicgafhbecfaaGreatDoor

namespace Go.Proofs.YtkhicgafhbecfaaGreatDoor
open Go.RowKit Go.WideMaps Go.Maps

theorem str_law : Keyed Tryz.prog 9 := string_keyed Tryz.underlying9
theorem zero_bool (w : World) : (zeroValue 4).run Tryz.prog w = .ok (.bool false) w := by kernel_rfl
set_option maxRecDepth 100000 in
theorem bool_inv {v : Value} {b : Bool} {ps : List MemPlace} (h : plainElem (H := Unit) Tryz.prog 4 v = some (.lit (.bool b), ps)) : v = .bool b := by
  unfold plainElem at h
  rw [Tryz.underlying4] at h
  cases v <;> simp at h
  rw [h.1]
theorem bs_beq (a b : ByteArray) : (a.toList == b.toList) = decide (a = b) := by
  rw [ByteArray.toList_eq, ByteArray.toList_eq]
  by_cases h : a = b
  · rw [decide_eq_true h, h]; exact beq_self_eq_true _
  · rw [decide_eq_false h]
    cases e : (a.data.toList == b.data.toList)
    · rfl
    · exact absurd (Go.WideShapes.bytes_inj (beq_iff_eq.1 e)) h
theorem mem_take_at {xs : List ByteArray} {k : Nat} {s : ByteArray} : s ∈ xs.take k ↔ ∃ i, i < k ∧ i < xs.length ∧ xs.getD i ByteArray.empty = s := by
  rw [List.mem_iff_getElem?]
  constructor
  · rintro ⟨i, hi⟩
    rw [List.getElem?_take] at hi
    split at hi
    · rename_i h
      obtain ⟨hl, he⟩ := List.getElem?_eq_some_iff.1 hi
      exact ⟨i, h, hl, by rw [List.getD_eq_getElem?_getD, hi]; rfl⟩
    · cases hi
  · rintro ⟨i, h1, h2, h3⟩
    refine ⟨i, ?_⟩
    rw [List.getElem?_take, if_pos h1, List.getElem?_eq_getElem h2]
    rw [List.getD_eq_getElem?_getD, List.getElem?_eq_getElem h2] at h3
    exact congrArg some h3
theorem mem_take_more {xs : List ByteArray} {k : Nat} {s : ByteArray} (hk : k < xs.length) : s ∈ xs.take (k + 1) ↔ s = xs.getD k ByteArray.empty ∨ s ∈ xs.take k := by
  rw [mem_take_at, mem_take_at]
  constructor
  · rintro ⟨i, h1, h2, h3⟩
    by_cases g : i = k
    · subst g; exact .inl h3.symm
    · exact .inr ⟨i, by omega, h2, h3⟩
  · rintro (h | ⟨i, h1, h2, h3⟩)
    · exact ⟨k, by omega, hk, h.symm⟩
    · exact ⟨i, by omega, h2, h3⟩
theorem nod_no {xs : List ByteArray} {k : Nat} (hk : k < xs.length) (h : xs.getD k ByteArray.empty ∈ xs.take k) : nodB xs = false := by
  obtain ⟨i, h1, h2, h3⟩ := mem_take_at.1 h
  have e1 : newB xs k = false := by
    unfold newB; rw [List.all_eq_false]
    exact ⟨i, List.mem_range.2 h1, by rw [bs_beq, h3, decide_eq_true rfl]; decide⟩
  unfold nodB; rw [List.all_eq_false]
  exact ⟨k, List.mem_range.2 hk, by rw [e1]; decide⟩
theorem new_yes {xs : List ByteArray} {k : Nat} (hk : k < xs.length) (h : ¬ xs.getD k ByteArray.empty ∈ xs.take k) : newB xs k = true := by
  rw [newB_iff]
  intro i hi
  rw [bs_beq]
  exact decide_eq_false fun e => h (mem_take_at.2 ⟨i, hi, by omega, e.symm⟩)
/-- Is a string among the first k? -/
def occB (xs : List ByteArray) (k : Nat) (s : ByteArray) : Bool := (xs.take k).any fun x => decide (x = s)
theorem occ_iff {xs : List ByteArray} {k : Nat} {s : ByteArray} : occB xs k s = true ↔ s ∈ xs.take k := by
  unfold occB
  rw [List.any_eq_true]
  exact ⟨fun ⟨x, hx, e⟩ => of_decide_eq_true e ▸ hx, fun h => ⟨s, h, decide_eq_true rfl⟩⟩
theorem occ_no {xs : List ByteArray} {k : Nat} {s : ByteArray} (h : occB xs k s = false) : ¬ s ∈ xs.take k := fun e => by rw [occ_iff.2 e] at h; cases h
/-- What the map of the strings that have occurred reads as. -/
structure Occ (xs : List ByteArray) (k : Nat) (D : DataW Unit) : Prop where
  m : IsMap D
  a : ∀ s : ByteArray, D.atKey (.string s.data.toList) (.lit (.bool false)) = .lit (.bool (occB xs k s))
theorem Occ.zero (xs : List ByteArray) : Occ xs 0 (.map []) := ⟨isMap_empty, fun s => by unfold occB; rw [List.take_zero]; rfl⟩
theorem Occ.put {xs : List ByteArray} {k : Nat} {D : DataW Unit} (h : Occ xs k D) (hk : k < xs.length) {x : ByteArray} (hx : x = xs.getD k ByteArray.empty) : Occ xs (k + 1) (D.put (.string x.data.toList) (.lit (.bool true))) := by
  refine ⟨h.m.put _ _, fun s => ?_⟩
  by_cases g : s = x
  · have hkl : WideAt.IsKeyLit (.string x.data.toList) := trivial
    rw [g, atKey_put_same h.m hkl, occ_iff.2 ((mem_take_more hk).2 (.inl hx))]
  · have hne : Lit.string s.data.toList ≠ Lit.string x.data.toList := fun e => g (Go.WideShapes.bytes_inj (Lit.string.inj e))
    rw [atKey_put_other hne, h.a s]
    have e : occB xs k s = occB xs (k + 1) s := by
      cases e : occB xs (k + 1) s
      · cases e' : occB xs k s
        · rfl
        · exact absurd ((mem_take_more hk).2 (.inr (occ_iff.1 e'))) (occ_no e)
      · exact occ_iff.2 (((mem_take_more hk).1 (occ_iff.1 e)).resolve_left (fun e' => g (e'.trans hx.symm)))
    rw [e]
theorem fnd_at {ts : List Itm} {s : ByteArray} {k : Nat} {t : Itm} (h : ts[k]? = some t) (hx : (t.id.toList == s.toList) = true) (hno : ∀ (j : Nat) (u : Itm), j < k → ts[j]? = some u → (u.id.toList == s.toList) = false) : fndF ts s = k := by
  have hk := (List.getElem?_eq_some_iff.1 h).1
  have e : ts.findIdx? (fun t => t.id.toList == s.toList) = some k := by
    rw [List.findIdx?_eq_some_iff_getElem]
    refine ⟨hk, by rw [(List.getElem?_eq_some_iff.1 h).2]; exact hx, fun j hj => ?_⟩
    have := hno j _ hj (List.getElem?_eq_getElem (by omega))
    simpa using this
  unfold fndF; rw [e]
theorem fnd_no {ts : List Itm} {s : ByteArray} (hno : ∀ (j : Nat) (u : Itm), ts[j]? = some u → (u.id.toList == s.toList) = false) : fndF ts s = -1 := by
  have e : ts.findIdx? (fun t => t.id.toList == s.toList) = none := by
    rw [List.findIdx?_eq_none_iff]
    intro x hx
    obtain ⟨i, hi⟩ := List.getElem?_of_mem hx
    exact hno i x hi
  unfold fndF; rw [e]
theorem ids_ok {c : Cat} (h4 : ∀ t ∈ c.ss, t.Ok) (h5 : ∀ t ∈ c.fs, t.Ok) : ∀ x ∈ c.ss.map Itm.id ++ c.fs.map Itm.id, x.size ≤ maxLen := by
  intro x hx
  rcases List.mem_append.1 hx with h | h
  · obtain ⟨t, ht, rfl⟩ := List.mem_map.1 h
    exact (h4 t ht).id
  · obtain ⟨t, ht, rfl⟩ := List.mem_map.1 h
    exact (h5 t ht).id
end Go.Proofs.YtkhicgafhbecfaaGreatDoor
