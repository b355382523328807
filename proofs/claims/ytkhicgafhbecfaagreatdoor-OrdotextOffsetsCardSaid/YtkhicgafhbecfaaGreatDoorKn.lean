/- What earlier stages proved: Lb Lc Ld Le. -/
import Derived.Test.YtkhicgafhbecfaaGreatDoorKa
import Derived.Laws.AppendOwn
import Derived.Test.YtkhicgafhbecfaaGreatDoorKl
namespace Go.Proofs.YtkhicgafhbecfaaGreatDoor
open Go.RowKit

theorem grown_of_below {w w' : World} (h : Below w.heap.size w w') (row : Option Nat) : w.grownBy w' row := ⟨h.os, h.tape, h.output, h.size, fun k hk _ => h.block k hk⟩
def IntsAt (B : Nat) (v : Value) (xs : List Int) (w : World) : Prop := w.ownsRow B 3 1 v xs.length (xs.map (Value.int .i64))
theorem IntsAt.on {B : Nat} {v : Value} {xs : List Int} {w w' : World} (h : IntsAt B v xs w) (hb : Below w.heap.size w w') : IntsAt B v xs w' :=
  World.ownsRow.kept h (grown_of_below hb none) (by cases hv : v.ownBlock <;> simp)
theorem IntsAt.al {B : Nat} {v : Value} {xs : List Int} {w : World} (h : IntsAt B v xs w) (o : Obj) : IntsAt B v xs (w.alloc o) := h.on ((Below.refl _ _).alloc (Nat.le_refl _) o)
theorem IntsAt.nil (B : Nat) (w : World) : IntsAt B (.slice none 0 0) [] w := World.ownsRow_nil w B _ 1
theorem IntsAt.lower {B B' : Nat} {v : Value} {xs : List Int} {w : World} (h : IntsAt B v xs w) (hB : B' ≤ B) : IntsAt B' v xs w := by
  refine ⟨h.1, ?_⟩
  rcases h.2 with hn | ⟨g, cap, cur, e, hb, rest⟩
  · exact .inl hn
  · exact .inr ⟨g, cap, cur, e, Nat.le_trans hB hb, rest⟩
theorem IntsAt.made1 (w : World) (a : Int) : IntsAt w.heap.size (.slice (some ⟨w.heap.size, 0, none⟩) 1 1) [a] (w.alloc (.cells #[.int .i64 a] 3)) :=
  ⟨by simp, .inr ⟨w.heap.size, 1, #[.int .i64 a], rfl, Nat.le_refl _, heap_alloc_new w _, Nat.le_refl _, by unfold maxLen; omega, rfl, rfl⟩⟩
theorem IntsAt.made2 (w : World) (a b : Int) : IntsAt w.heap.size (.slice (some ⟨w.heap.size, 0, none⟩) 2 2) [a, b] (w.alloc (.cells #[.int .i64 a, .int .i64 b] 3)) :=
  ⟨by simp, .inr ⟨w.heap.size, 2, #[.int .i64 a, .int .i64 b], rfl, Nat.le_refl _, heap_alloc_new w _, Nat.le_refl _, by unfold maxLen; omega, rfl, rfl⟩⟩
/-- What a walk reads of it. -/
structure IntsIn (g cap : Nat) (xs : List Int) (w : World) : Prop where
  lt : g < w.heap.size
  le : xs.length ≤ cap
  mx : cap ≤ maxLen
  cell : ∀ i, i < xs.length → w.cell? ⟨g, i, none⟩ = some (.int .i64 (xs.getD i 0))
theorem IntsIn.on {g cap : Nat} {xs : List Int} {w w' : World} (h : IntsIn g cap xs w) (hb : Below w.heap.size w w') : IntsIn g cap xs w' :=
  ⟨Nat.lt_of_lt_of_le h.lt hb.size, h.le, h.mx, fun i hi => cell_below (h.cell i hi) hb⟩
theorem IntsAt.get {B : Nat} {v : Value} {xs : List Int} {w : World} (h : IntsAt B v xs w) : (v = .slice none 0 0 ∧ xs = []) ∨ ∃ g cap, v = .slice (some ⟨g, 0, none⟩) xs.length cap ∧ IntsIn g cap xs w := by
  rcases h.2 with ⟨rfl, hn⟩ | ⟨g, cap, cur, rfl, hb, hg, hnc, hcm, hcs, htake⟩
  · exact .inl ⟨rfl, List.eq_nil_of_length_eq_zero hn⟩
  · refine .inr ⟨g, cap, rfl, (Array.getElem?_eq_some_iff.1 hg).1, hnc, hcm, fun i hi => ?_⟩
    have := World.ownsRow.cells h (g := g) rfl i (.int .i64 (xs.getD i 0)) (by rw [List.getElem?_map, List.getElem?_eq_getElem hi, List.getD_eq_getElem?_getD, List.getElem?_eq_getElem hi]; rfl)
    rwa [show (⟨g, 0, none⟩ : Addr).add i = ⟨g, i, none⟩ by unfold Addr.add; split <;> simp_all] at this
end Go.Proofs.YtkhicgafhbecfaaGreatDoor

namespace Go.Proofs.YtkhicgafhbecfaaGreatDoor
open Go.RowKit

def bgs : Array Value := #[.int .i64 1, .int .i64 1, .int .i64 1, .int .i64 31, .int .i64 3, .int .i64 1, .int .i64 3, .int .i64 31, .int .i64 4, .int .i64 29, .int .i64 5, .int .i64 29, .int .i64 6, .int .i64 27, .int .i64 7, .int .i64 27, .int .i64 8, .int .i64 25, .int .i64 9, .int .i64 24, .int .i64 10, .int .i64 23, .int .i64 11, .int .i64 22, .int .i64 12, .int .i64 21]
theorem lt_of_row {w : World} {g : Nat} {o : Obj} (h : w.heap[g]? = some o) : g < w.heap.size := by
  rcases Nat.lt_or_ge g w.heap.size with k | k
  · exact k
  · rw [Array.getElem?_eq_none k] at h; cases h
theorem lens_dim (m : Int) (h1 : 1 ≤ m) (h2 : m ≤ 12) : lens.getD (m - 1).toNat 0 = dim false m := by
  have h : m = 1 ∨ m = 2 ∨ m = 3 ∨ m = 4 ∨ m = 5 ∨ m = 6 ∨ m = 7 ∨ m = 8 ∨ m = 9 ∨ m = 10 ∨ m = 11 ∨ m = 12 := by omega
  rcases h with rfl | rfl | rfl | rfl | rfl | rfl | rfl | rfl | rfl | rfl | rfl | rfl
  all_goals rfl

theorem aft_m {k m d : Int} (h : decide (m < begM k) = true) : aftB k m d = true := by simp [aftB, h]
theorem aft_e {k m d : Int} (h : decide (m < begM k) = false) (g : (begM k == m) = false) : aftB k m d = false := by
  rw [beq_eq_false_iff_ne] at g; simp [aftB, h, g]
theorem aft_d {k m d : Int} (b : Bool) (g : (begM k == m) = true) (e : decide (d < begD k) = b) : aftB k m d = b := by
  rw [beq_iff_eq] at g; simp [aftB, g, e]
theorem lun_yes {k m d : Int} (h : lunM m d < k) (k1 : 0 ≤ k) (k2 : k ≤ 12) (hd : okD m d = true) : aftB k m d = true := by
  rw [aft_lun k m d k1 k2 hd]; simpa using h
theorem lun_no {k m d : Int} (h : k ≤ lunM m d) (k1 : 0 ≤ k) (k2 : k ≤ 12) (hd : okD m d = true) : aftB k m d = false := by
  rw [aft_lun k m d k1 k2 hd]; simp; omega
end Go.Proofs.YtkhicgafhbecfaaGreatDoor

namespace Go.Proofs.YtkhicgafhbecfaaGreatDoor
open Go.RowKit

theorem ret_iib {a b a' b' : Int} {c c' : Bool} (h : a = a') (g : b = b') (k : c = c') : Ending.returned (.tuple #[.int .i64 a, .int .i64 b, .bool c]) = .returned (.tuple #[.int .i64 a', .int .i64 b', .bool c']) := by rw [h, g, k]
/-- A slice of integers of the call's own is handed back; what lay in memory lies there. -/
def RetInts (xs : List Int) (w : World) (e : Ending) (w' : World) : Prop := ∃ v, e = .returned v ∧ IntsAt w.heap.size v xs w' ∧ Below w.heap.size w w'
theorem RetInts.as {xs ys : List Int} {w : World} {e : Ending} {w' : World} (h : RetInts xs w e w') (g : xs = ys) : RetInts ys w e w' := g ▸ h
theorem ret_made1 (w : World) (a : Int) : RetInts [a] w (.returned (.slice (some ⟨w.heap.size, 0, none⟩) 1 1)) (w.alloc (.cells #[.int .i64 a] 3)) := ⟨_, rfl, IntsAt.made1 w a, (Below.refl _ _).alloc (Nat.le_refl _) _⟩
theorem ret_made2 (w : World) (a b : Int) : RetInts [a, b] w (.returned (.slice (some ⟨w.heap.size, 0, none⟩) 2 2)) (w.alloc (.cells #[.int .i64 a, .int .i64 b] 3)) := ⟨_, rfl, IntsAt.made2 w a b, (Below.refl _ _).alloc (Nat.le_refl _) _⟩
theorem ret_nil (w w' : World) (hb : Below w.heap.size w w') : RetInts [] w (.returned (.slice none 0 0)) w' := ⟨_, rfl, IntsAt.nil _ _, hb⟩
theorem RetInts.after {xs : List Int} {w w1 : World} {e : Ending} {w' : World} (h : RetInts xs w1 e w') (hb : Below w.heap.size w w1) : RetInts xs w e w' := by
  obtain ⟨v, rfl, hv, hb1⟩ := h
  exact ⟨v, rfl, hv.lower hb.size, below_on hb hb1⟩
end Go.Proofs.YtkhicgafhbecfaaGreatDoor

namespace Go.Proofs.YtkhicgafhbecfaaGreatDoor
open Go.RowKit

def idx (xs : List Int) (l : Int) : Int := if xs.contains l = true then (xs.idxOf l : Int) else -1
theorem idx_lt {xs : List Int} {l : Int} (h : xs.contains l = false) : idx xs l = -1 := by rw [idx, if_neg (by rw [h]; decide)]
theorem idx_at {xs : List Int} {l : Int} (k : Nat) (h : (xs.take k).contains l = false) (hk : k < xs.length) (hl : xs.getD k 0 = l) : idx xs l = k := by
  have hl' : xs[k] = l := by rw [← hl, List.getD_eq_getElem?_getD, List.getElem?_eq_getElem hk]; rfl
  have hm : l ∈ xs := by rw [← hl']; exact List.getElem_mem hk
  rw [idx, if_pos (by simpa using hm)]
  have e := List.take_append_drop k xs
  have hn : l ∉ xs.take k := by simpa using h
  have h2 : xs.drop k = l :: xs.drop (k + 1) := by rw [← hl', List.drop_eq_getElem_cons hk]
  have h3 : xs.idxOf l = k := by
    conv => lhs; rw [← e]
    rw [List.idxOf_append, if_neg hn, h2, List.idxOf_cons_self, List.length_take]
    omega
  rw [h3]
theorem idx_nonneg (xs : List Int) (l : Int) : decide (0 ≤ idx xs l) = xs.contains l := by
  unfold idx
  cases h : xs.contains l
  · simp
  · rw [if_pos rfl]; simp
theorem take_snoc_no {xs : List Int} {l : Int} {k : Nat} (h : (xs.take k).contains l = false) (hk : k < xs.length) (hl : (l == xs.getD k 0) = false) : (xs.take (k + 1)).contains l = false := by
  rw [List.take_succ_eq_append_getElem hk]
  rw [List.getD_eq_getElem?_getD, List.getElem?_eq_getElem hk, Option.getD_some, beq_eq_false_iff_ne] at hl
  have hn : l ∉ xs.take k := by simpa using h
  cases g : (xs.take k ++ [xs[k]]).contains l
  · rfl
  · rw [List.contains_iff_mem, List.mem_append, List.mem_singleton] at g
    exact absurd g (fun g => g.elim hn hl)
theorem take_all_no {xs : List Int} {l : Int} {k : Nat} (h : (xs.take k).contains l = false) (hk : xs.length ≤ k) : xs.contains l = false := by
  rwa [List.take_of_length_le hk] at h
end Go.Proofs.YtkhicgafhbecfaaGreatDoor
