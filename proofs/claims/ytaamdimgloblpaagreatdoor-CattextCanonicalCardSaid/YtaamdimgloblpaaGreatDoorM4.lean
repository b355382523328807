/- What earlier stages proved: No Nq Nr Ns. -/
import Derived.Test.YtaamdimgloblpaaGreatDoorM3
namespace Go.Proofs.YtaamdimgloblpaaGreatDoor
open Go.RowKit

abbrev sv (S : ByteArray) (k : Nat) (bad : Bool) : Value := .agg #[.string S, .int .i64 k, .bool bad]
theorem st_facts {w : World} {b t : Nat} {a0 a1 a2 : Value} (h : w.heap[b]? = some (.cells #[a0, a1, a2] t (0, 0))) :
    w.cell? ⟨b, 0, none⟩ = some a0 ∧ w.cell? ⟨b, 1, none⟩ = some a1 ∧ w.cell? ⟨b, 2, none⟩ = some a2 ∧ w.frozen? ⟨b, 0, none⟩ = false ∧ w.frozen? ⟨b, 1, none⟩ = false ∧ w.frozen? ⟨b, 2, none⟩ = false ∧ b < w.heap.size :=
  ⟨by rw [cell_of_row w b 0 _ _ _ h]; rfl, by rw [cell_of_row w b 1 _ _ _ h]; rfl, by rw [cell_of_row w b 2 _ _ _ h]; rfl, frozen_of_row w b 0 _ _ h, frozen_of_row w b 1 _ _ h, frozen_of_row w b 2 _ _ h, row_lt h⟩
/-- A state written whole into a row of the call's own. -/
theorem st_put {w v : World} {R : Nat} {a0 a1 a2 : Value} {t : TypeId} (x y z : Value) (h : v.heap[R]? = some (.cells #[a0, a1, a2] t (0, 0))) (hb : Below w.heap.size w v) (hR : w.heap.size ≤ R) {u : World} (hu : u = ((v.setCell ⟨R, 0, none⟩ x).setCell ⟨R, 1, none⟩ y).setCell ⟨R, 2, none⟩ z) :
    u.cell? ⟨R, 0, none⟩ = some x ∧ u.cell? ⟨R, 1, none⟩ = some y ∧ u.cell? ⟨R, 2, none⟩ = some z ∧ Below w.heap.size w u := by
  obtain ⟨k0, k1, k2⟩ := three_set x y z h hu.symm
  exact ⟨k0, k1, k2, below_set3 hb hR x y z hu.symm⟩
end Go.Proofs.YtaamdimgloblpaaGreatDoor

namespace Go.Proofs.YtaamdimgloblpaaGreatDoor
open Go.RowKit

theorem mxW_app (S : ByteArray) (k : Nat) (xs : List ByteArray) (w : ByteArray) : mxW S k (xs ++ [w]) = max (mxW S k xs) (cm S k w) := by
  induction xs with
  | nil => simp [mxW]
  | cons a xs ih => simp only [List.cons_append, mxW, ih]; omega
theorem take_mx (S : ByteArray) (k : Nat) (ws : List ByteArray) {j : Nat} (h : j < ws.length) : mxW S k (ws.take (j + 1)) = max (mxW S k (ws.take j)) (cm S k (ws.getD j ByteArray.empty)) := by
  rw [List.take_succ_eq_append_getElem h, mxW_app, List.getD_eq_getElem?_getD, List.getElem?_eq_getElem h]; rfl
theorem wd_of_some {S : ByteArray} {k i : Nat} {ws : List ByteArray} (h : wdF S k ws = some i) : wdI S k ws = (i : Int) ∧ wdK S k ws = k + (ws.getD i ByteArray.empty).size ∧ wdB S k ws = false := by
  unfold wdI wdK wdB; rw [h]; exact ⟨rfl, rfl, rfl⟩
theorem wd_of_none {S : ByteArray} {k : Nat} {ws : List ByteArray} (h : wdF S k ws = none) : wdI S k ws = -1 ∧ wdK S k ws = k + mxW S k ws ∧ wdB S k ws = true := by
  unfold wdI wdK wdB; rw [h]; exact ⟨rfl, rfl, rfl⟩
end Go.Proofs.YtaamdimgloblpaaGreatDoor

namespace Go.Proofs.YtaamdimgloblpaaGreatDoor
open Go.RowKit

theorem idx_at25 {S : ByteArray} {i : Nat} {x : Int} (h : x = (i : Int)) (hi : i < S.size) (w : World) : (Instr.index 9 (.string S) (.int .i64 x)).run Tryz.prog w = .ok (.int .u8 (bt S i)) w := by
  subst h
  have := idx_str S i (by omega) (by omega) w
  rwa [Int.toNat_natCast] at this
theorem nu_z {S : ByteArray} {k : Nat} (h : nuZ S k = true) : nuK S k = k + 1 ∧ nuB S k = false ∧ nuV S k = 0 := by
  unfold nuK nuB nuV; rw [h]; exact ⟨rfl, rfl, rfl⟩
theorem nu_f {S : ByteArray} {k : Nat} (h : nuZ S k = false) (hd : nuD S k = false) : nuK S k = nuI S k ∧ nuB S k = true ∧ nuV S k = 0 := by
  unfold nuK nuB nuV; rw [h, hd]; exact ⟨rfl, rfl, rfl⟩
theorem nu_d {S : ByteArray} {k : Nat} (h : nuZ S k = false) (hd : nuD S k = true) : nuK S k = nuI S k + dgs S (nuI S k) 10 ∧ nuB S k = false ∧ nuV S k = (if nuN S k then - vl S (nuI S k) (dgs S (nuI S k) 10) else vl S (nuI S k) (dgs S (nuI S k) 10)) := by
  unfold nuK nuB nuV; rw [h, hd]; exact ⟨rfl, rfl, rfl⟩
theorem vl_word {S : ByteArray} {i j : Nat} (h : ∀ p, p < j → dg S (i + p) = true) (hj : j ≤ 10) : 0 ≤ vl S i j ∧ vl S i j < 10000000000 := vl_lt h hj
end Go.Proofs.YtaamdimgloblpaaGreatDoor

namespace Go.Proofs.YtaamdimgloblpaaGreatDoor
open Go.RowKit

theorem id_none {S : ByteArray} {k : Nat} (h : lt S k = false) : idL S k = 0 ∧ idB S k = true ∧ idV S k = ⟨#[]⟩ := by
  have e : idL S k = 0 := idL_eq (fun j hj => absurd hj (by omega)) (fun hp => by
    obtain ⟨p1, p2, p3⟩ := hp
    rw [Nat.add_zero] at p1 p3
    rcases p3 with h1 | ⟨_, _, h1⟩ | ⟨_, h1, _⟩
    · rw [lt_iff.2 ⟨p1, h1⟩] at h; cases h
    · omega
    · exact h1 rfl)
  have b : idB S k = true := by unfold idB; rw [e]; rfl
  exact ⟨e, b, by unfold idV; rw [b]; rfl⟩
theorem id_end {S : ByteArray} {k j : Nat} (h1 : ∀ p, p < j → idP S k p) (h2 : ¬ idP S k j) (h3 : bfo S k j ≠ 45) : idL S k = j ∧ idB S k = false ∧ idV S k = S.extract k (k + j) := by
  have e := idL_eq h1 h2
  have b : idB S k = false := by unfold idB; rw [e]; exact decide_eq_false h3
  exact ⟨e, b, by unfold idV; rw [b, e]; rfl⟩
theorem id_hyp {S : ByteArray} {k j : Nat} (h1 : ∀ p, p < j → idP S k p) (h2 : ¬ idP S k j) (h3 : bfo S k j = 45) : idL S k = j ∧ idB S k = true ∧ idV S k = ⟨#[]⟩ := by
  have e := idL_eq h1 h2
  have b : idB S k = true := by unfold idB; rw [e]; exact decide_eq_true h3
  exact ⟨e, b, by unfold idV; rw [b]; rfl⟩
theorem idP_letter {S : ByteArray} {k j : Nat} (h : lt S (k + j) = true) (hj : j < 40) : idP S k j := by
  obtain ⟨a, b⟩ := lt_iff.1 h
  exact ⟨a, hj, .inl b⟩
theorem idP_digit {S : ByteArray} {k j : Nat} (h : dg S (k + j) = true) (hj : j < 40) (h0 : 0 < j) : idP S k j := by
  obtain ⟨a, b, c⟩ := dg_iff.1 h
  exact ⟨a, hj, .inr (.inl ⟨b, c, h0⟩)⟩
theorem idP_no {S : ByteArray} {k j : Nat} (h1 : lt S (k + j) = false) (h2 : dg S (k + j) = false) (h3 : bt S (k + j) = 45 → bfo S k j ≠ 45 → j = 39) : ¬ idP S k j := by
  rintro ⟨a, b, c | ⟨c, d, _⟩ | ⟨c, d, f⟩⟩
  · rw [lt_iff.2 ⟨a, c⟩] at h1; cases h1
  · rw [dg_iff.2 ⟨a, c, d⟩] at h2; cases h2
  · exact f (h3 c d)
theorem bfo_let {S : ByteArray} {k j : Nat} (h : lt S (k + j) = true) : bfo S k (j + 1) ≠ 45 := by
  rw [bfo_succ]; have := (lt_iff.1 h).2; omega
theorem bfo_dig {S : ByteArray} {k j : Nat} (h : dg S (k + j) = true) : bfo S k (j + 1) ≠ 45 := by
  rw [bfo_succ]; have := (dg_iff.1 h).2; omega
theorem all_succ {S : ByteArray} {k j : Nat} (h1 : ∀ p, p < j → idP S k p) (h2 : idP S k j) : ∀ p, p < j + 1 → idP S k p := fun p hp => by
  by_cases q : p < j
  · exact h1 p q
  · rw [show p = j by omega]; exact h2
end Go.Proofs.YtaamdimgloblpaaGreatDoor
