/- What earlier stages proved: Lf Lg Lh. -/
import Derived.Test.YtkhicgafhbecfaaGreatDoorKn
import Derived.Test.YtkhicgafhbecfaaGreatDoorKa
import Derived.LoopTactic
import Derived.OwnWalk
import Derived.Maps.AppendAt
namespace Go.Proofs.YtkhicgafhbecfaaGreatDoor
open Go.RowKit

def stL : List Int := [101, 131, 301, 331, 429, 529, 627, 727, 825, 924, 1023, 1122, 1221]
def stC : Array Value := #[.int .i64 101, .int .i64 131, .int .i64 301, .int .i64 331, .int .i64 429, .int .i64 529, .int .i64 627, .int .i64 727, .int .i64 825, .int .i64 924, .int .i64 1023, .int .i64 1122, .int .i64 1221]
theorem st_cell (w : World) (k : Nat) (hk : k < 13) : (w.alloc (.cells stC 3)).cell? ⟨w.heap.size, k, none⟩ = some (.int .i64 (stL.getD k 0)) := by
  rw [cell_of_row _ _ k _ _ _ (heap_alloc_new w (.cells stC 3))]
  have h : k = 0 ∨ k = 1 ∨ k = 2 ∨ k = 3 ∨ k = 4 ∨ k = 5 ∨ k = 6 ∨ k = 7 ∨ k = 8 ∨ k = 9 ∨ k = 10 ∨ k = 11 ∨ k = 12 := by omega
  rcases h with rfl | rfl | rfl | rfl | rfl | rfl | rfl | rfl | rfl | rfl | rfl | rfl | rfl
  all_goals rfl

/-- how many lunations have begun when n days are over; the position then -/
def lunS (n : Int) : Nat := if n ≤ 0 then 0 else (lun n + 1).toNat
def posS (n : Int) : Int := if n ≤ 0 then 0 else pos n
theorem lunS_bd (n : Int) : lunS n ≤ 13 := by unfold lunS; have := lun_bd n; split <;> omega
theorem posS_bd (n : Int) (h : n ≤ 365) : 0 ≤ posS n ∧ posS n ≤ 29 := by
  unfold posS; split
  · omega
  · have := all_lt 366 (fun n => n == 0 || (decide (0 ≤ pos n) && decide (pos n ≤ 29))) (by kernel_rfl) n.toNat (by omega)
    rw [show ((n.toNat : Nat) : Int) = n by omega, show (n.toNat == 0) = false by rw [beq_eq_false_iff_ne]; omega] at this
    simpa using this
def stepB (m d : Int) : Bool :=
  let k := lunS (doy m d - 1)
  if decide (k < 13) && (stL.getD k 0 == 100 * m + d) then lunS (doy m d) == k + 1 && posS (doy m d) == 0
  else lunS (doy m d) == k && posS (doy m d) == posS (doy m d - 1) + 1
theorem step_day {m d : Int} (h : okD m d = true) : stepB m d = true := by
  obtain ⟨m1, m2, d1, d2⟩ := okD_bd h
  have := all_md (fun m d => !okD m d || stepB m d) (by kernel_rfl) m d m1 m2 d1 d2
  simpa [h] using this
theorem step_in {m d : Int} {k : Nat} (h : okD m d = true) (hk : lunS (doy m d - 1) = k) (h1 : k < 13) (h2 : (stL.getD k 0 == 100 * m + d) = true) : lunS (doy m d) = k + 1 ∧ posS (doy m d) = 0 := by
  have := step_day h
  unfold stepB at this
  simp only [hk, h2, decide_eq_true h1, Bool.and_self, if_pos] at this
  simpa using this
theorem step_out {m d : Int} {k : Nat} (h : okD m d = true) (hk : lunS (doy m d - 1) = k) (h1 : ¬ k < 13 ∨ (stL.getD k 0 == 100 * m + d) = false) : lunS (doy m d) = k ∧ posS (doy m d) = posS (doy m d - 1) + 1 := by
  have := step_day h
  unfold stepB at this
  rw [hk] at this
  rw [if_neg] at this
  · simpa using this
  · rcases h1 with h1 | h1
    · simp [decide_eq_false h1]
    · rw [h1]; simp
theorem lunS_at {m d : Int} (h : okD m d = true) : (lunS (doy m d) : Int) - 1 = lunM m d ∧ posS (doy m d) = posM m d := by
  have hd := doy_bd h
  have hl := lun_bd (doy m d)
  rw [lunM, if_pos h, posM, if_pos h, lunS, if_neg (by omega), posS, if_neg (by omega)]
  exact ⟨by omega, rfl⟩
theorem doy_inj {m d m' d' : Int} (h : okD m d = true) (h' : okD m' d' = true) (e : doy m d = doy m' d') : m = m' ∧ d = d' := by
  obtain ⟨m1, m2, d1, d2⟩ := okD_bd h
  obtain ⟨n1, n2, e1, e2⟩ := okD_bd h'
  rw [okD_iff] at h h'
  unfold doy at e
  rcases Int.lt_trichotomy m m' with g | g | g
  · have := cum_next false m m' m1 g (by omega); omega
  · subst g; exact ⟨rfl, by omega⟩
  · have := cum_next false m' m n1 g (by omega); omega

end Go.Proofs.YtkhicgafhbecfaaGreatDoor

namespace Go.Proofs.YtkhicgafhbecfaaGreatDoor
open Go.RowKit

theorem rb_full {k p l : Int} (h : (k % 2 == 0) = true) (b : Bool) (e : ((l == 30 - p) || ((l == 31) && (p == 5))) = b) : (onL k p).contains l = b := by
  rw [← e, onL, if_pos (beq_iff_eq.1 h), fullL]
  split
  · rename_i g; subst g; rw [Bool.eq_iff_iff]; simp; omega
  · rename_i g; rw [Bool.eq_iff_iff]; simp; omega
theorem rb_low {k p l : Int} (h : (k % 2 == 0) = false) (g : p ≤ 4) (b : Bool) (e : ((l == 30 - p) || ((l == 31) && (p == 4))) = b) : (onL k p).contains l = b := by
  rw [← e, onL, if_neg (by simpa using h), hollowL]
  split
  · rw [Bool.eq_iff_iff]; simp; omega
  · rw [if_pos (by omega)]; rw [Bool.eq_iff_iff]; simp; omega
theorem rb_five {k p l : Int} (h : (k % 2 == 0) = false) (g : p = 5) (b : Bool) (e : ((l == 25) || (l == 24)) = b) : (onL k p).contains l = b := by
  rw [← e, onL, if_neg (by simpa using h), hollowL, if_neg (by omega), if_neg (by omega), if_pos g]
  rw [Bool.eq_iff_iff]; simp
theorem rb_high {k p l : Int} (h : (k % 2 == 0) = false) (g : 6 ≤ p) (b : Bool) (e : (l == 29 - p) = b) : (onL k p).contains l = b := by
  rw [← e, onL, if_neg (by simpa using h), hollowL, if_neg (by omega), if_neg (by omega), if_neg (by omega)]
  rw [Bool.eq_iff_iff]; simp
theorem infoInt : (Tryz.prog.info? 3).map (fun i => (i.zero, i.size, i.bytes)) = some (some (.int .i64 0), 1, 8) := by kernel_rfl
theorem IntsAt.app {B : Nat} {v v' : Value} {xs : List Int} {a : Int} {w w1 w2 : World} {o : Obj} (hv : IntsAt B v xs w1) (hB : Below B w w1) (hs : B ≤ w1.heap.size)
    (hown : w2.ownsRow B 3 1 v' (xs.length + 1) (xs.map (Value.int .i64) ++ [.int .i64 a])) (hg : (w1.alloc o).grownBy w2 v.ownBlock) : IntsAt B v' (xs ++ [a]) w2 ∧ Below B w w2 := by
  refine ⟨?_, (hB.alloc hs _).grown hg (by simp; omega) (fun k e => (World.ownsRow.lt hv k e).1)⟩
  rw [IntsAt, List.length_append, List.map_append]
  exact hown
def all31 : List Int := [31, 30, 29, 28, 27, 26, 25, 24, 23, 22, 21, 20, 19, 18, 17, 16, 15, 14, 13, 12, 11, 10, 9, 8, 7, 6, 5, 4, 3, 2, 1]
def onP (m d : Int) (k : Nat) : List Int := (all31.take k).filter fun l => bears m d l
theorem all31_at (k : Nat) (hk : k < 31) : all31.take (k + 1) = all31.take k ++ [31 - (k : Int)] := by
  have := all_lt 31 (fun k => all31.take (k + 1) == all31.take k ++ [31 - (k : Int)]) (by kernel_rfl) k hk
  simpa using this
theorem onP_yes {m d : Int} {k : Nat} (hk : k < 31) (h : bears m d (31 - (k : Int)) = true) : onP m d (k + 1) = onP m d k ++ [31 - (k : Int)] := by
  rw [onP, all31_at k hk, List.filter_append, onP]; simp [h]
theorem onP_no {m d : Int} {k : Nat} (hk : k < 31) (h : bears m d (31 - (k : Int)) = false) : onP m d (k + 1) = onP m d k := by
  rw [onP, all31_at k hk, List.filter_append, onP]; simp [h]
theorem onP_le (m d : Int) (k : Nat) : (onP m d k).length ≤ 31 := by
  refine Nat.le_trans (List.length_filter_le _ _) ?_
  rw [List.length_take]; exact Nat.min_le_right _ _
theorem onP_end (m d : Int) : onP m d 31 = onD m d := by
  cases h : okD m d
  · rw [onD_no h, onP]
    have : ∀ l, bears m d l = false := fun l => by rw [bears, onD_no h]; rfl
    simp [this]
  · obtain ⟨m1, m2, d1, d2⟩ := okD_bd h
    have := all_md (fun m d => onP m d 31 == onD m d) (by kernel_rfl) m d m1 m2 d1 d2
    simpa using this
end Go.Proofs.YtkhicgafhbecfaaGreatDoor

namespace Go.Proofs.YtkhicgafhbecfaaGreatDoor
open Go.RowKit

def numsB (xs ys : List Int) : Bool := decide (xs = ys)
theorem nums_len {xs ys : List Int} (h : ¬ xs.length = ys.length) : numsB xs ys = false := by
  rw [numsB, decide_eq_false_iff_not]; intro e; exact h (by rw [e])
theorem nums_diff {xs ys : List Int} {k : Nat} (h : (xs.getD k 0 != ys.getD k 0) = true) : numsB xs ys = false := by
  rw [numsB, decide_eq_false_iff_not]; intro e; subst e; simp at h
theorem nums_all {xs ys : List Int} (h : xs.length = ys.length) (g : xs.take xs.length = ys.take xs.length) : numsB xs ys = true := by
  rw [numsB, decide_eq_true_iff]
  rwa [List.take_length, h, List.take_length] at g
theorem take_same {xs ys : List Int} {k : Nat} (hx : k < xs.length) (hy : k < ys.length) (h : (xs.getD k 0 != ys.getD k 0) = false) (g : xs.take k = ys.take k) : xs.take (k + 1) = ys.take (k + 1) := by
  rw [List.take_succ_eq_append_getElem hx, List.take_succ_eq_append_getElem hy, g]
  simp [List.getElem?_eq_getElem hx, List.getElem?_eq_getElem hy] at h
  rw [h]
end Go.Proofs.YtkhicgafhbecfaaGreatDoor
