/- What earlier stages proved: Od. -/
import Derived.Test.YtkhicgafhbecfaaGreatDoorM6
import Derived.Test.YtkhicgafhbecfaaGreatDoorKz
namespace Go.Proofs.YtkhicgafhbecfaaGreatDoor
open Go.ChangeShapes Go.WideShapes Go.RowKit Go.Joins Go.Deep

def fwI (b : Bool) (S : ByteArray) (k : Nat) (ws : List ByteArray) : Int := if b then -1 else wdI S k ws
def fwK (b : Bool) (S : ByteArray) (k : Nat) (ws : List ByteArray) : Nat := if b then k else wdK S k ws
def fwB (b : Bool) (S : ByteArray) (k : Nat) (ws : List ByteArray) : Bool := b || wdB S k ws
def fnV (b : Bool) (S : ByteArray) (k : Nat) : Int := if b then 0 else nuV S k
def fnK (b : Bool) (S : ByteArray) (k : Nat) : Nat := if b then k else nuK S k
def fnB (b : Bool) (S : ByteArray) (k : Nat) : Bool := b || nuB S k
def fiV (b : Bool) (S : ByteArray) (k : Nat) : ByteArray := if b then ⟨#[]⟩ else idV S k
def fiK (b : Bool) (S : ByteArray) (k : Nat) : Nat := if b then k else k + idL S k
def fiB (b : Bool) (S : ByteArray) (k : Nat) : Bool := b || idB S k
def fpV (b : Bool) (S : ByteArray) (k : Nat) : Int := if b then 0 else nxB S k
def feB (b : Bool) (S : ByteArray) (k : Nat) : Bool := b || decide (k < S.size)
theorem fwK_le (b : Bool) {S : ByteArray} {k : Nat} (h : k ≤ S.size) (ws : List ByteArray) : fwK b S k ws ≤ S.size := by cases b; exact (wdK_le h ws).2; exact h
theorem fnK_le (b : Bool) {S : ByteArray} {k : Nat} (h : k ≤ S.size) : fnK b S k ≤ S.size := by cases b; exact (nuK_le S k h).2; exact h
theorem fiK_le (b : Bool) {S : ByteArray} {k : Nat} (h : k ≤ S.size) : fiK b S k ≤ S.size := by cases b; exact (idL_le S k h).2; exact h
section
variable {S : ByteArray} {b k : Nat} {bad : Bool} {w : World}
theorem xw_all {g cap : Nat} {ws : List ByteArray} (h : w.heap[b]? = some (scO S k bad)) (hk : k ≤ S.size) (hs : S.size < big) (hW : StrsIn g cap ws w) (hgb : g ≠ b) (hw : Wds ws) :
    Calls Tryz.prog 43 #[xp b, .slice (some ⟨g, 0, none⟩) ws.length cap] w fun e w' => e = .returned (.int .i64 (fwI bad S k ws)) ∧ w'.heap[b]? = some (scO S (fwK bad S k ws) (fwB bad S k ws)) ∧ Bt b w w' := by
  cases bad
  · exact wo_new h hk hs hW hgb hw
  · exact (wo_bad _ h).mono fun e w' ⟨h1, h2⟩ => ⟨h1, row_kept h h2, .of_below h2⟩
theorem xn_all (h : w.heap[b]? = some (scO S k bad)) (hk : k ≤ S.size) (hs : S.size < big) :
    Calls Tryz.prog 44 #[xp b] w fun e w' => e = .returned (.int .i64 (fnV bad S k)) ∧ w'.heap[b]? = some (scO S (fnK bad S k) (fnB bad S k)) ∧ Bt b w w' := by
  cases bad
  · cases hg : nuB S k
    · show Calls _ _ _ _ fun e w' => e = .returned (.int .i64 (nuV S k)) ∧ w'.heap[b]? = some (scO S (nuK S k) (false || nuB S k)) ∧ Bt b w w'
      rw [hg]; exact nu_ok h hk hs hg
    · obtain ⟨z1, z2⟩ := nuB_yes hg
      show Calls _ _ _ _ fun e w' => e = .returned (.int .i64 (nuV S k)) ∧ w'.heap[b]? = some (scO S (nuK S k) (false || nuB S k)) ∧ Bt b w w'
      rw [hg, (nu_f z1 z2).2.2]; exact nu_no h hk hs hg
  · exact (nu_bad h).mono fun e w' ⟨h1, h2⟩ => ⟨h1, row_kept h h2, .of_below h2⟩
theorem xi_all (h : w.heap[b]? = some (scO S k bad)) (hk : k ≤ S.size) (hs : S.size < big) :
    Calls Tryz.prog 109 #[xp b] w fun e w' => e = .returned (.string (fiV bad S k)) ∧ w'.heap[b]? = some (scO S (fiK bad S k) (fiB bad S k)) ∧ Bt b w w' := by
  cases bad
  · cases hb : idB S k
    · show Calls _ _ _ _ fun e w' => e = .returned (.string (idV S k)) ∧ w'.heap[b]? = some (scO S (k + idL S k) (false || idB S k)) ∧ Bt b w w'
      rw [hb, idB_no hb]; exact id_ok h hk hs hb
    · show Calls _ _ _ _ fun e w' => e = .returned (.string (idV S k)) ∧ w'.heap[b]? = some (scO S (k + idL S k) (false || idB S k)) ∧ Bt b w w'
      rw [hb, idB_yes hb]; exact id_no h hk hs hb
  · exact (id_bad h).mono fun e w' ⟨h1, h2⟩ => ⟨h1, row_kept h h2, .of_below h2⟩
theorem xe_all (h : w.heap[b]? = some (scO S k bad)) :
    Calls Tryz.prog 46 #[xp b] w fun e w' => e = .returned (.tuple #[]) ∧ w'.heap[b]? = some (scO S k (feB bad S k)) ∧ Bt b w w' := by
  cases bad
  · by_cases hq : k < S.size
    · show Calls _ _ _ _ fun e w' => e = .returned (.tuple #[]) ∧ w'.heap[b]? = some (scO S k (false || decide (k < S.size))) ∧ Bt b w w'
      rw [dtrue hq]; exact end_no h hq
    · show Calls _ _ _ _ fun e w' => e = .returned (.tuple #[]) ∧ w'.heap[b]? = some (scO S k (false || decide (k < S.size))) ∧ Bt b w w'
      rw [dfalse hq]; exact (end_ok h (by omega)).mono fun e w' ⟨h1, h2⟩ => ⟨h1, row_kept h h2, .of_below h2⟩
  · exact (end_bad h).mono fun e w' ⟨h1, h2⟩ => ⟨h1, row_kept h h2, .of_below h2⟩
end
section
variable (S : ByteArray) (k : Nat) (bad : Bool) (w : World)
theorem rw_all {g cap : Nat} {ws : List ByteArray} (hk : k ≤ S.size) (hs : S.size < big) (hW : StrsIn g cap ws w) (hw : Wds ws) :
    Calls Tryz.prog 23 #[sv S k bad, .slice (some ⟨g, 0, none⟩) ws.length cap] w fun e w' => e = .returned (.tuple #[sv S (fwK bad S k ws) (fwB bad S k ws), .int .i64 (fwI bad S k ws)]) ∧ Below w.heap.size w w' := by
  cases bad
  · exact rwo_ok hk hs hW hw.sz
  · exact rwo_bad S k _ w
theorem rn_all (hs : S.size < big) :
    Calls Tryz.prog 54 #[sv S k bad] w fun e w' => e = .returned (.tuple #[sv S (fnK bad S k) (fnB bad S k), .int .i64 (fnV bad S k)]) ∧ Below w.heap.size w w' := by
  cases bad
  · exact rnu_ok hs w
  · exact rnu_bad S k w
theorem ri_all (hs : S.size < big) :
    Calls Tryz.prog 59 #[sv S k bad] w fun e w' => e = .returned (.tuple #[sv S (fiK bad S k) (fiB bad S k), .string (fiV bad S k)]) ∧ Below w.heap.size w w' := by
  cases bad
  · exact rid_ok hs w
  · exact rid_bad S k w
theorem re_all :
    Calls Tryz.prog 25 #[sv S k bad] w fun e w' => e = .returned (sv S k (feB bad S k)) ∧ Below w.heap.size w w' := by
  cases bad
  · by_cases hq : k < S.size
    · show Calls _ _ _ _ fun e w' => e = .returned (sv S k (false || decide (k < S.size))) ∧ Below w.heap.size w w'
      rw [dtrue hq]; exact ren_no S k hq w
    · show Calls _ _ _ _ fun e w' => e = .returned (sv S k (false || decide (k < S.size))) ∧ Below w.heap.size w w'
      rw [dfalse hq]; exact ren_ok S k (by omega) w
  · exact ren_bad S k w
end
def StAt (W : World) (v : Value) (l : List (Int × Int)) : Prop :=
  ∃ (A : Option Addr) (cap : Nat), v = .slice A l.length cap ∧ l.length ≤ cap ∧ cap ≤ maxLen ∧ ∀ (i : Nat) (t : Int × Int), l[i]? = some t → ∃ b o, A = some ⟨b, o, none⟩ ∧ W.cell? ⟨b, o + i * 2, none⟩ = some (.int .i64 t.1) ∧ W.cell? ⟨b, o + i * 2 + 1, none⟩ = some (.int .i64 t.2)
section
variable {H : Type} {enc : TypeId × Value → H} {P : Program} {w : World} {base : Nat} {spare : Nat → Bool} {held : Bool}
theorem list2v {l : List Value} (h : l.length = 2) : ∃ a b, l = [a, b] := by
  match l, h with
  | [a, b], _ => exact ⟨a, b, rfl⟩
theorem trod_stp {t ti fuel : Nat} {f0 f1 : Field} {cs : List Value} {x : DataW H × List MemPlace} (hs : P.underlying t = some (.struct #[f0, f1])) (hone : oneCellFields P #[f0, f1] = true) (hC : P.cellsOf t = 2) (hi : P.underlying ti = some (.int .i64))
    (h0 : f0.type = ti) (h1 : f1.type = ti) (h : DataW.trod enc P w base spare held fuel t cs = some x) : ∃ c : Int × Int, cs = [.int .i64 c.1, .int .i64 c.2] := by
  obtain ⟨xs, n, _, _, hlen, hxl, hg⟩ := DataW.trod_struct hs h
  obtain ⟨c0, c1, rfl⟩ := list2v (hlen.trans hC)
  have key : ∀ (j : Nat) (f : Field) (v : Value), #[f0, f1][j]? = some f → ([c0, c1].drop j).take 1 = [v] → ∃ y, DataW.trod enc P w base spare held n f.type [v] = some y := by
    intro j f v hj hd
    have e := hg j f hj
    obtain ⟨o1, o2⟩ := hone_of hone j f hj
    rw [o1, o2, hd] at e
    have hjl : j < xs.length := by
      have := (Array.getElem?_eq_some_iff.1 hj).1
      omega
    exact ⟨_, e.trans (List.getElem?_eq_getElem hjl)⟩
  obtain ⟨y0, e0⟩ := key 0 f0 c0 rfl rfl
  obtain ⟨y1, e1⟩ := key 1 f1 c1 rfl rfl
  rw [h0] at e0
  rw [h1] at e1
  obtain ⟨k, rfl, _⟩ := one_int hi e0 rfl
  obtain ⟨i, rfl, _⟩ := one_int hi e1 rfl
  exact ⟨(k, i), rfl⟩
theorem trod_stps {t e fuel : Nat} {cs : List Value} {x : DataW H × List MemPlace} (ht : P.underlying t = some (.slice e)) (hC : P.cellsOf e = 2)
    (hI : ∀ (n : Nat) (cs' : List Value) (y : DataW H × List MemPlace), DataW.trod enc P w base spare held n e cs' = some y → ∃ c : Int × Int, cs' = [.int .i64 c.1, .int .i64 c.2]) (h : DataW.trod enc P w base spare held fuel t cs = some x) :
    ∃ (v : Value) (l : List (Int × Int)), cs = [v] ∧ StAt w v l := by
  rcases open_slice ht h with ⟨rfl, _⟩ | ⟨a, len, cap, m, n, D, Pl, rfl, hb, hl, hm, hmm, _, hall⟩
  · exact ⟨_, [], rfl, ⟨none, 0, rfl, Nat.le_refl _, Nat.zero_le _, fun i t hi => by simp at hi⟩⟩
  · have hle : len ≤ m := by rw [hmm]; split <;> omega
    have one : ∀ i, i < len → ∃ c : Int × Int, ∀ j, j < 2 → w.cell? ((a.add (i * 2)).add j) = [Value.int .i64 c.1, .int .i64 c.2][j]? := by
      intro i hi
      obtain ⟨cs', h1, h2⟩ := hall i (by omega)
      rw [hC] at h1
      obtain ⟨z, e1⟩ := hI _ _ _ h2
      obtain ⟨_, _, h4⟩ := World.cells?_some h1
      exact ⟨z, fun j hj => by rw [h4 j hj, e1]⟩
    have each : ∀ i, ∃ c : Int × Int, i < len → ∀ j, j < 2 → w.cell? ((a.add (i * 2)).add j) = [Value.int .i64 c.1, .int .i64 c.2][j]? := fun i => by
      by_cases hi : i < len
      · obtain ⟨z, hz⟩ := one i hi
        exact ⟨z, fun _ => hz⟩
      · exact ⟨(0, 0), fun h => absurd h hi⟩
    obtain ⟨f, hf⟩ : ∃ f : Nat → Int × Int, ∀ i, i < len → ∀ j, j < 2 → w.cell? ((a.add (i * 2)).add j) = [Value.int .i64 (f i).1, .int .i64 (f i).2][j]? := ⟨fun i => (each i).choose, fun i => (each i).choose_spec⟩
    refine ⟨_, (List.range len).map f, rfl, ⟨some a, cap, by simp, by simpa using hl, hm, fun i t hi => ?_⟩⟩
    have hil : i < len := by
      have := (List.getElem?_eq_some_iff.1 hi).1
      simpa using this
    have ht : t = f i := by
      rw [List.getElem?_map, List.getElem?_range hil] at hi
      exact (Option.some.inj hi).symm
    have hs : a.spot = none := by
      have h0 := hf 0 (by omega) 0 (by decide)
      exact cell_spot (v := .int .i64 (f 0).1) h0
    obtain ⟨ab, ao, asp⟩ := a
    obtain rfl : asp = none := hs
    have hcell := fun j hj => hf i hil j hj
    have c0 := hcell 0 (by decide)
    have c1 := hcell 1 (by decide)
    rw [add_none, add_none] at c0 c1
    subst ht
    exact ⟨ab, ao, rfl, c0, c1⟩
end
section
variable {H : Type} {enc : TypeId × Value → H} {w : World} {base : Nat} {spare : Nat → Bool} {held : Bool}
end
end Go.Proofs.YtkhicgafhbecfaaGreatDoor
