/- Candidates as arguments: a candidate, a slice of candidates opened (frames by Zc's back_all). -/
import Derived.Test.YtomoaolomddidaaBf
import Derived.Test.YtomoaolomddidaaZc
namespace Go.Proofs.Ytomoaolomddidaa
open Go.ChangeShapes Go.WideShapes Go.RowKit Go.Joins Go.Deep

section
variable {H : Type} {enc : TypeId × Value → H} {P : Program} {w : World} {base : Nat} {spare : Nat → Bool} {held : Bool}
theorem trod_cd {t ti ts fuel : Nat} {f0 f1 f2 f3 : Field} {cs : List Value} {x : DataW H × List MemPlace} (hs : P.underlying t = some (.struct #[f0, f1, f2, f3])) (hone : oneCellFields P #[f0, f1, f2, f3] = true) (hC : P.cellsOf t = 4) (hi : P.underlying ti = some (.int .i64)) (hst : P.underlying ts = some .string)
    (h0 : f0.type = ti) (h1 : f1.type = ti) (h2 : f2.type = ti) (h3 : f3.type = ts) (h : DataW.trod enc P w base spare held fuel t cs = some x) : ∃ c : Cd, cs = c.vals.toList := by
  obtain ⟨xs, n, _, _, hlen, hxl, hg⟩ := DataW.trod_struct hs h
  obtain ⟨c0, c1, c2, c3, rfl⟩ := list4 (hlen.trans hC)
  have key : ∀ (j : Nat) (f : Field) (v : Value), #[f0, f1, f2, f3][j]? = some f → ([c0, c1, c2, c3].drop j).take 1 = [v] → ∃ y, DataW.trod enc P w base spare held n f.type [v] = some y := by
    intro j f v hj hd
    have e := hg j f hj
    obtain ⟨o1, o2⟩ := hone_of hone j f hj
    rw [o1, o2, hd] at e
    have hjl : j < xs.length := by
      have := (Array.getElem?_eq_some_iff.1 hj).1
      omega
    exact ⟨_, e.trans (List.getElem?_eq_getElem hjl)⟩
  obtain ⟨y0, e0⟩ := key 0 f0 c0 rfl rfl
  obtain ⟨y1, e1⟩ := key 1 f1 c1 rfl rfl
  obtain ⟨y2, e2⟩ := key 2 f2 c2 rfl rfl
  obtain ⟨y3, e3⟩ := key 3 f3 c3 rfl rfl
  rw [h0] at e0
  rw [h1] at e1
  rw [h2] at e2
  rw [h3] at e3
  obtain ⟨k, rfl, _⟩ := one_int hi e0 rfl
  obtain ⟨i, rfl, _⟩ := one_int hi e1 rfl
  obtain ⟨r, rfl, _⟩ := one_int hi e2 rfl
  obtain ⟨s, es, _, _⟩ := DataW.trod_string hst e3
  obtain rfl : c3 = .string s := by simpa using es
  exact ⟨⟨k, i, r, s⟩, rfl⟩
theorem trod_cds {t e fuel : Nat} {cs : List Value} {x : DataW H × List MemPlace} (ht : P.underlying t = some (.slice e)) (hC : P.cellsOf e = 4)
    (hI : ∀ (n : Nat) (cs' : List Value) (y : DataW H × List MemPlace), DataW.trod enc P w base spare held n e cs' = some y → ∃ c : Cd, cs' = c.vals.toList) (h : DataW.trod enc P w base spare held fuel t cs = some x) :
    ∃ (v : Value) (l : List Cd), cs = [v] ∧ CsAt w v l := by
  rcases open_slice ht h with ⟨rfl, _⟩ | ⟨a, len, cap, m, n, D, Pl, rfl, hb, hl, hm, hmm, _, hall⟩
  · exact ⟨_, [], rfl, ⟨none, 0, rfl, Nat.le_refl _, Nat.zero_le _, fun i t hi => by simp at hi⟩⟩
  · have hle : len ≤ m := by rw [hmm]; split <;> omega
    have one : ∀ i, i < len → ∃ c : Cd, ∀ j, j < 4 → w.cell? ((a.add (i * 4)).add j) = c.vals[j]? := by
      intro i hi
      obtain ⟨cs', h1, h2⟩ := hall i (by omega)
      rw [hC] at h1
      obtain ⟨z, e1⟩ := hI _ _ _ h2
      obtain ⟨_, _, h4⟩ := World.cells?_some h1
      exact ⟨z, fun j hj => by rw [h4 j hj, e1]; simp⟩
    have each : ∀ i, ∃ c : Cd, i < len → ∀ j, j < 4 → w.cell? ((a.add (i * 4)).add j) = c.vals[j]? := fun i => by
      by_cases hi : i < len
      · obtain ⟨z, hz⟩ := one i hi
        exact ⟨z, fun _ => hz⟩
      · exact ⟨zcd, fun h => absurd h hi⟩
    obtain ⟨f, hf⟩ : ∃ f : Nat → Cd, ∀ i, i < len → ∀ j, j < 4 → w.cell? ((a.add (i * 4)).add j) = (f i).vals[j]? := ⟨fun i => (each i).choose, fun i => (each i).choose_spec⟩
    refine ⟨_, (List.range len).map f, rfl, ⟨some a, cap, by simp, by simpa using hl, hm, fun i t hi => ?_⟩⟩
    have hil : i < len := by
      have := (List.getElem?_eq_some_iff.1 hi).1
      simpa using this
    have ht : t = f i := by
      rw [List.getElem?_map, List.getElem?_range hil] at hi
      exact (Option.some.inj hi).symm
    have hs : a.spot = none := by
      have h0 := hf 0 (by omega) 0 (by decide)
      exact cell_spot (v := .int .i64 (f 0).k) h0
    obtain ⟨ab, ao, asp⟩ := a
    obtain rfl : asp = none := hs
    have hcell := fun j hj => hf i hil j hj
    have c0 := hcell 0 (by decide)
    have c1 := hcell 1 (by decide)
    have c2 := hcell 2 (by decide)
    have c3 := hcell 3 (by decide)
    rw [add_none, add_none] at c0 c1 c2 c3
    subst ht
    exact ⟨ab, ao, rfl, ⟨c0, c1, c2, c3⟩⟩
end
section
variable {H : Type} {enc : TypeId × Value → H} {w : World} {base : Nat} {spare : Nat → Bool} {held : Bool}
set_option maxRecDepth 100000 in
theorem trod_cand (n : Nat) (cs' : List Value) (y : DataW H × List MemPlace) (h : DataW.trod enc Try.prog w base spare held n 24 cs' = some y) : ∃ c : Cd, cs' = c.vals.toList :=
  trod_cd Try.underlying24 (by kernel_rfl) (by kernel_rfl) Try.underlying3 Try.underlying9 rfl rfl rfl rfl h
set_option maxRecDepth 100000 in
theorem open_cand {r : Reach} {b0 : Nat} {v : Value} {d : DataW H} {p : List MemPlace} (hv : Value.okWide Try.prog w r b0 24 v) (h : DataW.Trod enc Try.prog w base spare held 24 v d p) : ∃ c : Cd, v = cdv c := by
  obtain ⟨cs, rfl, _⟩ := okWide_struct Try.underlying24 hv
  obtain ⟨n, h⟩ := h
  obtain ⟨c, e⟩ := trod_cand n _ _ h
  exact ⟨c, by rw [show cs = c.vals from Array.toList_inj.1 e]⟩
set_option maxRecDepth 100000 in
theorem open_cands {r : Reach} {b0 : Nat} {v : Value} {d : DataW H} {p : List MemPlace} (hv : Value.okWide Try.prog w r b0 22 v) (h : DataW.Trod enc Try.prog w base spare held 22 v d p) : ∃ l, CsAt w v l := by
  obtain ⟨a, len, cap, rfl⟩ := okWide_slice Try.underlying22 hv
  obtain ⟨n, h⟩ := h
  obtain ⟨v', l, e, h1⟩ := trod_cds Try.underlying22 (by kernel_rfl) trod_cand h
  obtain rfl : .slice a len cap = v' := by simpa [Value.cells] using e
  exact ⟨l, h1⟩
end
end Go.Proofs.Ytomoaolomddidaa
