/- Plain facts for the laws of stage 8. -/
import Derived.Test.YtadapffmcdkfiaaDoorLa
namespace Go.Proofs.YtadapffmcdkfiaaDoor

theorem bears_out {m d l : Int} (h : l < 1 ∨ 31 < l) : bears m d l = false := by
  cases ho : okD m d
  · rw [bears, onD_no ho]; rfl
  · obtain ⟨m1, m2, d1, d2⟩ := okD_bd ho
    have := all_md (fun m d => (onD m d).all fun l => decide (1 ≤ l) && decide (l ≤ 31)) (by kernel_rfl) m d m1 m2 d1 d2
    cases hb : bears m d l
    · rfl
    · rw [bears, List.contains_iff_mem] at hb
      have := List.all_eq_true.1 this l hb
      simp at this
      omega
theorem all_l (P : Int → Bool) (h : ((List.range 31).all fun a => P (1 + Int.ofNat a)) = true) (l : Int) (l1 : 1 ≤ l) (l2 : l ≤ 31) : P l = true := by
  rw [List.all_eq_true] at h
  have ha := h (l - 1).toNat (by rw [List.mem_range]; omega)
  rwa [show 1 + Int.ofNat (l - 1).toNat = l by rw [Int.ofNat_eq_natCast]; omega] at ha
/-- how many of k days from a day on bear a label -/
def cnt (m d l : Int) (k : Nat) : Nat := ((List.range k).filter fun i => bears m (d + Int.ofNat i) l).length
theorem cnt_yes {m d l : Int} {k : Nat} (h : bears m (d + k) l = true) : cnt m d l (k + 1) = cnt m d l k + 1 := by
  rw [cnt, List.range_succ, List.filter_append]; simp [h, cnt]
theorem cnt_no {m d l : Int} {k : Nat} (h : bears m (d + k) l = false) : cnt m d l (k + 1) = cnt m d l k := by
  rw [cnt, List.range_succ, List.filter_append]; simp [h, cnt]
theorem cnt_le (m d l : Int) (k : Nat) : cnt m d l k ≤ k := by
  rw [cnt]; exact Nat.le_trans (List.length_filter_le _ _) (by simp)
def cntI (m s l j : Int) : Nat := cnt m s l (j - s).toNat
theorem cnt_y {m s j l : Int} (hj : s ≤ j) (h : bears m j l = true) : cntI m s l (j + 1) = cntI m s l j + 1 := by
  rw [cntI, cntI, show (j + 1 - s).toNat = (j - s).toNat + 1 by omega]
  exact cnt_yes (by rwa [show s + ((j - s).toNat : Int) = j by omega])
theorem cnt_n {m s j l : Int} (hj : s ≤ j) (h : bears m j l = false) : cntI m s l (j + 1) = cntI m s l j := by
  rw [cntI, cntI, show (j + 1 - s).toNat = (j - s).toNat + 1 by omega]
  exact cnt_no (by rwa [show s + ((j - s).toNat : Int) = j by omega])
theorem cntI_le (m s l j : Int) (h : s ≤ j) : (cntI m s l j : Int) ≤ j - s := by
  have := cnt_le m s l (j - s).toNat
  rw [cntI]; omega
theorem cnt_one {l : Int} (l1 : 1 ≤ l) (l2 : l ≤ 31) : cntI 3 8 l 32 + cntI 4 1 l 6 = 1 := by
  have := all_l (fun l => cntI 3 8 l 32 + cntI 4 1 l 6 == 1) (by kernel_rfl) l l1 l2
  simpa using this

/-! the day after a day -/
def nxM (m d : Int) : Int := if okD m (d + 1) = true then m else m + 1
def nxD (m d : Int) : Int := if okD m (d + 1) = true then d + 1 else 1
def lastOf (xs : List Int) : Int := xs.getD (xs.length - 1) 0
def everyB (m d : Int) : Bool :=
  let x := nxM m d; let y := nxD m d
  (decide ((onD m d).length = 1) || decide ((onD m d).length = 2)) &&
  (if okD x y = true then
    (decide ((onD x y).length = 1) || decide ((onD x y).length = 2)) &&
    (if lunM x y = lunM m d then decide (posM x y = posM m d + 1) && decide (lastOf (onD x y) < lastOf (onD m d))
     else decide (lunM x y = lunM m d + 1) && decide (posM x y = 0) && decide ((onD x y).getD 0 0 = 30) && decide (lastOf (onD m d) = 1))
   else decide (lunM m d = 12) && !okD m (d + 1))
theorem every_day {m d : Int} (h : okD m d = true) : everyB m d = true := by
  obtain ⟨m1, m2, d1, d2⟩ := okD_bd h
  have := all_md (fun m d => !okD m d || everyB m d) (by kernel_rfl) m d m1 m2 d1 d2
  simpa [h] using this
theorem every_len {m d : Int} (h : okD m d = true) : (onD m d).length = 1 ∨ (onD m d).length = 2 := by
  have := every_day h
  unfold everyB at this
  simp only [Bool.and_eq_true, Bool.or_eq_true, decide_eq_true_eq] at this
  exact this.1
theorem every_no {m d : Int} (h : okD m d = true) (g : okD (nxM m d) (nxD m d) = false) : lunM m d = 12 ∧ okD m (d + 1) = false := by
  have := every_day h
  unfold everyB at this
  simp only [g, Bool.and_eq_true] at this
  simpa using this.2
theorem every_same {m d : Int} (h : okD m d = true) (g : okD (nxM m d) (nxD m d) = true) (e : lunM (nxM m d) (nxD m d) = lunM m d) : posM (nxM m d) (nxD m d) = posM m d + 1 ∧ lastOf (onD (nxM m d) (nxD m d)) < lastOf (onD m d) := by
  have := every_day h
  unfold everyB at this
  simp only [g, if_true, if_pos e, Bool.and_eq_true, decide_eq_true_eq] at this
  exact this.2.2
theorem every_next {m d : Int} (h : okD m d = true) (g : okD (nxM m d) (nxD m d) = true) (e : ¬ lunM (nxM m d) (nxD m d) = lunM m d) : lunM (nxM m d) (nxD m d) = lunM m d + 1 ∧ posM (nxM m d) (nxD m d) = 0 ∧ (onD (nxM m d) (nxD m d)).getD 0 0 = 30 ∧ lastOf (onD m d) = 1 := by
  have := every_day h
  unfold everyB at this
  simp only [g, if_true, if_neg e, Bool.and_eq_true, decide_eq_true_eq] at this
  obtain ⟨_, _, ⟨⟨a, b⟩, c⟩, d⟩ := this
  exact ⟨a, b, c, d⟩
end Go.Proofs.YtadapffmcdkfiaaDoor
