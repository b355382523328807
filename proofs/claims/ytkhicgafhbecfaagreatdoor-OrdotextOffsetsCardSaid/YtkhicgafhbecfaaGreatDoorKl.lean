/- What earlier stages proved: La Ll. -/
import Derived.Test.YtkhicgafhbecfaaGreatDoorKa
import Derived.KernelRfl
namespace Go.Proofs.YtkhicgafhbecfaaGreatDoor

def okD (m d : Int) : Bool := decide (1 ≤ d) && decide (d ≤ dim false m)
theorem okD_iff {m d : Int} : okD m d = true ↔ 1 ≤ d ∧ d ≤ dim false m := by simp [okD]
theorem okD_bd {m d : Int} (h : okD m d = true) : 1 ≤ m ∧ m ≤ 12 ∧ 1 ≤ d ∧ d ≤ 31 := by
  rw [okD_iff] at h
  obtain ⟨a, b⟩ := month_of_dim false m (by omega)
  have := dim_bd false m a b
  omega
theorem okD_false {m d : Int} (h : ¬ (1 ≤ d ∧ d ≤ dim false m)) : okD m d = false := by
  cases g : okD m d with
  | false => rfl
  | true => exact absurd (okD_iff.1 g) h

def doy (m d : Int) : Int := cum false m + d
def stt (k : Int) : Int := [1, 31, 60, 90, 119, 149, 178, 208, 237, 267, 296, 326, 355].getD k.toNat 0
def begM (k : Int) : Int := [1, 1, 3, 3, 4, 5, 6, 7, 8, 9, 10, 11, 12].getD k.toNat 0
def begD (k : Int) : Int := [1, 31, 1, 31, 29, 29, 27, 27, 25, 24, 23, 22, 21].getD k.toNat 0
def lun (n : Int) : Int := if n < 31 then 0 else if n < 60 then 1 else if n < 90 then 2 else if n < 119 then 3 else if n < 149 then 4 else if n < 178 then 5 else if n < 208 then 6 else if n < 237 then 7 else if n < 267 then 8 else if n < 296 then 9 else if n < 326 then 10 else if n < 355 then 11 else 12
def pos (n : Int) : Int := n - stt (lun n)
def lunM (m d : Int) : Int := if okD m d = true then lun (doy m d) else 0
def posM (m d : Int) : Int := if okD m d = true then pos (doy m d) else 0
def fullL (p : Int) : List Int := if p = 5 then [31, 25] else [30 - p]
def hollowL (p : Int) : List Int := if p < 4 then [30 - p] else if p = 4 then [31, 26] else if p = 5 then [25, 24] else [29 - p]
def onL (k p : Int) : List Int := if k % 2 = 0 then fullL p else hollowL p
def onD (m d : Int) : List Int := if okD m d = true then onL (lunM m d) (posM m d) else []
def bears (m d l : Int) : Bool := (onD m d).contains l
def year : List (Int × Int) := (List.range 12).flatMap fun a => (List.range (dim false (Int.ofNat a + 1)).toNat).map fun b => (Int.ofNat a + 1, Int.ofNat b + 1)
def sel (l : Int) (xs : List (Int × Int)) : List (Int × Int) := xs.filter fun x => bears x.1 x.2 l
def days (l : Int) : List (Int × Int) := sel l year

theorem lun_bd (n : Int) : 0 ≤ lun n ∧ lun n ≤ 12 := by unfold lun; repeat' split
                                                        all_goals omega

/-- Day by day. -/
theorem all_md (P : Int → Int → Bool) (h : ((List.range 12).all fun a => (List.range 31).all fun b => P (Int.ofNat a + 1) (Int.ofNat b + 1)) = true) (m d : Int) (m1 : 1 ≤ m) (m2 : m ≤ 12) (d1 : 1 ≤ d) (d2 : d ≤ 31) : P m d = true := by
  rw [List.all_eq_true] at h
  have ha := h (m - 1).toNat (by rw [List.mem_range]; omega)
  rw [List.all_eq_true] at ha
  have hb := ha (d - 1).toNat (by rw [List.mem_range]; omega)
  rwa [show Int.ofNat (m - 1).toNat + 1 = m by rw [Int.ofNat_eq_natCast]; omega, show Int.ofNat (d - 1).toNat + 1 = d by rw [Int.ofNat_eq_natCast]; omega] at hb
theorem all_lt (n : Nat) (P : Nat → Bool) (h : ((List.range n).all P) = true) (i : Nat) (hi : i < n) : P i = true := by
  rw [List.all_eq_true] at h
  exact h i (by rw [List.mem_range]; exact hi)
theorem all_kmd (P : Int → Int → Int → Bool) (h : ((List.range 13).all fun k => (List.range 12).all fun a => (List.range 31).all fun b => P (Int.ofNat k) (Int.ofNat a + 1) (Int.ofNat b + 1)) = true) (k m d : Int) (k1 : 0 ≤ k) (k2 : k ≤ 12) (m1 : 1 ≤ m) (m2 : m ≤ 12) (d1 : 1 ≤ d) (d2 : d ≤ 31) : P k m d = true := by
  have hk := all_lt 13 _ h k.toNat (by omega)
  rw [show Int.ofNat k.toNat = k by rw [Int.ofNat_eq_natCast]; omega] at hk
  exact all_md (P k) hk m d m1 m2 d1 d2

/-- A lunation begins after a day. -/
def aftB (k m d : Int) : Bool := decide (m < begM k) || (decide (begM k = m) && decide (d < begD k))
theorem aft_eq (k m d : Int) (k1 : 0 ≤ k) (k2 : k ≤ 12) (h : okD m d = true) : aftB k m d = decide (doy m d < stt k) := by
  obtain ⟨m1, m2, d1, d2⟩ := okD_bd h
  have := all_kmd (fun k m d => !okD m d || (aftB k m d == decide (doy m d < stt k))) (by kernel_rfl) k m d k1 k2 m1 m2 d1 d2
  simpa [h] using this
theorem doy_bd {m d : Int} (h : okD m d = true) : 1 ≤ doy m d ∧ doy m d ≤ 365 := by
  obtain ⟨m1, m2, d1, d2⟩ := okD_bd h
  have := all_md (fun m d => !okD m d || (decide (1 ≤ doy m d) && decide (doy m d ≤ 365))) (by kernel_rfl) m d m1 m2 d1 d2
  simpa [h] using this
theorem lun_at (n k : Int) (h1 : 1 ≤ n) (h2 : n ≤ 365) (k1 : 0 ≤ k) (k2 : k ≤ 12) : decide (lun n < k) = decide (n < stt k) := by
  have := all_lt 13 (fun k => (List.range 366).all fun n => n == 0 || (decide (lun (Int.ofNat n) < Int.ofNat k) == decide (Int.ofNat n < stt (Int.ofNat k)))) (by kernel_rfl) k.toNat (by omega)
  have := all_lt 366 _ this n.toNat (by omega)
  rw [show Int.ofNat n.toNat = n by rw [Int.ofNat_eq_natCast]; omega, show Int.ofNat k.toNat = k by rw [Int.ofNat_eq_natCast]; omega, show (n.toNat == 0) = false by rw [beq_eq_false_iff_ne]; omega] at this
  simpa using this
theorem aft_lun (k m d : Int) (k1 : 0 ≤ k) (k2 : k ≤ 12) (h : okD m d = true) : aftB k m d = decide (lunM m d < k) := by
  have hd := doy_bd h
  rw [aft_eq k m d k1 k2 h, lunM, if_pos h]
  exact (lun_at _ _ hd.1 hd.2 k1 k2).symm
theorem lunM_bd (m d : Int) : 0 ≤ lunM m d ∧ lunM m d ≤ 12 := by
  unfold lunM; split
  · exact lun_bd _
  · omega
theorem posM_bd (m d : Int) : 0 ≤ posM m d ∧ posM m d ≤ 29 := by
  unfold posM; split
  · rename_i h
    obtain ⟨m1, m2, d1, d2⟩ := okD_bd h
    have := all_md (fun m d => !okD m d || (decide (0 ≤ pos (doy m d)) && decide (pos (doy m d) ≤ 29))) (by kernel_rfl) m d m1 m2 d1 d2
    simpa [h] using this
  · omega
/-- The day on which a lunation begins. -/
theorem beg_doy (k : Int) (k1 : 0 ≤ k) (k2 : k ≤ 12) : okD (begM k) (begD k) = true ∧ doy (begM k) (begD k) = stt k := by
  have := all_lt 13 (fun k => okD (begM k) (begD k) && (doy (begM k) (begD k) == stt k)) (by kernel_rfl) k.toNat (by omega)
  rw [show ((k.toNat : Nat) : Int) = k by omega] at this
  simpa using this
theorem posM_eq {m d : Int} (h : okD m d = true) : posM m d = doy m d - doy (begM (lunM m d)) (begD (lunM m d)) := by
  have hl := lunM_bd m d
  rw [(beg_doy _ hl.1 hl.2).2, posM, if_pos h, lunM, if_pos h]; rfl
theorem lunM_no {m d : Int} (h : okD m d = false) : lunM m d = 0 := by simp [lunM, h]
theorem posM_no {m d : Int} (h : okD m d = false) : posM m d = 0 := by simp [posM, h]
theorem onD_no {m d : Int} (h : okD m d = false) : onD m d = [] := by simp [onD, h]
theorem onD_at {m d : Int} (h : okD m d = true) : onD m d = onL (lunM m d) (posM m d) := by simp [onD, h]
theorem sel_hit (l : Int) (xs : List (Int × Int)) {x : Int × Int} (h : bears x.1 x.2 l = true) : sel l (xs ++ [x]) = sel l xs ++ [x] := by simp [sel, h]
theorem sel_miss (l : Int) (xs : List (Int × Int)) {x : Int × Int} (h : bears x.1 x.2 l = false) : sel l (xs ++ [x]) = sel l xs := by simp [sel, h]
theorem sel_le (l : Int) (xs : List (Int × Int)) : (sel l xs).length ≤ xs.length := List.length_filter_le _ _
theorem year_len : year.length = 365 := by kernel_rfl
end Go.Proofs.YtkhicgafhbecfaaGreatDoor

namespace Go.Proofs.YtkhicgafhbecfaaGreatDoor

theorem bears_out {m d l : Int} (h : l < 1 ∨ 31 < l) : bears m d l = false := by
  cases ho : okD m d
  · rw [bears, onD_no ho]; rfl
  · obtain ⟨m1, m2, d1, d2⟩ := okD_bd ho
    have := all_md (fun m d => (onD m d).all fun l => decide (1 ≤ l) && decide (l ≤ 31)) (by kernel_rfl) m d m1 m2 d1 d2
    cases hb : bears m d l
    · rfl
    · rw [bears, List.contains_iff_mem] at hb
      have := List.all_eq_true.1 this l hb
      simp at this
      omega
theorem all_l (P : Int → Bool) (h : ((List.range 31).all fun a => P (1 + Int.ofNat a)) = true) (l : Int) (l1 : 1 ≤ l) (l2 : l ≤ 31) : P l = true := by
  rw [List.all_eq_true] at h
  have ha := h (l - 1).toNat (by rw [List.mem_range]; omega)
  rwa [show 1 + Int.ofNat (l - 1).toNat = l by rw [Int.ofNat_eq_natCast]; omega] at ha
/-- how many of k days from a day on bear a label -/
def cnt (m d l : Int) (k : Nat) : Nat := ((List.range k).filter fun i => bears m (d + Int.ofNat i) l).length
theorem cnt_yes {m d l : Int} {k : Nat} (h : bears m (d + k) l = true) : cnt m d l (k + 1) = cnt m d l k + 1 := by
  rw [cnt, List.range_succ, List.filter_append]; simp [h, cnt]
theorem cnt_no {m d l : Int} {k : Nat} (h : bears m (d + k) l = false) : cnt m d l (k + 1) = cnt m d l k := by
  rw [cnt, List.range_succ, List.filter_append]; simp [h, cnt]
theorem cnt_le (m d l : Int) (k : Nat) : cnt m d l k ≤ k := by
  rw [cnt]; exact Nat.le_trans (List.length_filter_le _ _) (by simp)
def cntI (m s l j : Int) : Nat := cnt m s l (j - s).toNat
theorem cnt_y {m s j l : Int} (hj : s ≤ j) (h : bears m j l = true) : cntI m s l (j + 1) = cntI m s l j + 1 := by
  rw [cntI, cntI, show (j + 1 - s).toNat = (j - s).toNat + 1 by omega]
  exact cnt_yes (by rwa [show s + ((j - s).toNat : Int) = j by omega])
theorem cnt_n {m s j l : Int} (hj : s ≤ j) (h : bears m j l = false) : cntI m s l (j + 1) = cntI m s l j := by
  rw [cntI, cntI, show (j + 1 - s).toNat = (j - s).toNat + 1 by omega]
  exact cnt_no (by rwa [show s + ((j - s).toNat : Int) = j by omega])
theorem cntI_le (m s l j : Int) (h : s ≤ j) : (cntI m s l j : Int) ≤ j - s := by
  have := cnt_le m s l (j - s).toNat
  rw [cntI]; omega
theorem cnt_one {l : Int} (l1 : 1 ≤ l) (l2 : l ≤ 31) : cntI 3 8 l 32 + cntI 4 1 l 6 = 1 := by
  have := all_l (fun l => cntI 3 8 l 32 + cntI 4 1 l 6 == 1) (by kernel_rfl) l l1 l2
  simpa using this

def nxM (m d : Int) : Int := if okD m (d + 1) = true then m else m + 1
def nxD (m d : Int) : Int := if okD m (d + 1) = true then d + 1 else 1
def lastOf (xs : List Int) : Int := xs.getD (xs.length - 1) 0
def everyB (m d : Int) : Bool :=
  let x := nxM m d; let y := nxD m d
  (decide ((onD m d).length = 1) || decide ((onD m d).length = 2)) &&
  (if okD x y = true then
    (decide ((onD x y).length = 1) || decide ((onD x y).length = 2)) &&
    (if lunM x y = lunM m d then decide (posM x y = posM m d + 1) && decide (lastOf (onD x y) < lastOf (onD m d))
     else decide (lunM x y = lunM m d + 1) && decide (posM x y = 0) && decide ((onD x y).getD 0 0 = 30) && decide (lastOf (onD m d) = 1))
   else decide (lunM m d = 12) && !okD m (d + 1))
theorem every_day {m d : Int} (h : okD m d = true) : everyB m d = true := by
  obtain ⟨m1, m2, d1, d2⟩ := okD_bd h
  have := all_md (fun m d => !okD m d || everyB m d) (by kernel_rfl) m d m1 m2 d1 d2
  simpa [h] using this
theorem every_len {m d : Int} (h : okD m d = true) : (onD m d).length = 1 ∨ (onD m d).length = 2 := by
  have := every_day h
  unfold everyB at this
  simp only [Bool.and_eq_true, Bool.or_eq_true, decide_eq_true_eq] at this
  exact this.1
theorem every_no {m d : Int} (h : okD m d = true) (g : okD (nxM m d) (nxD m d) = false) : lunM m d = 12 ∧ okD m (d + 1) = false := by
  have := every_day h
  unfold everyB at this
  simp only [g, Bool.and_eq_true] at this
  simpa using this.2
theorem every_same {m d : Int} (h : okD m d = true) (g : okD (nxM m d) (nxD m d) = true) (e : lunM (nxM m d) (nxD m d) = lunM m d) : posM (nxM m d) (nxD m d) = posM m d + 1 ∧ lastOf (onD (nxM m d) (nxD m d)) < lastOf (onD m d) := by
  have := every_day h
  unfold everyB at this
  simp only [g, if_true, if_pos e, Bool.and_eq_true, decide_eq_true_eq] at this
  exact this.2.2
theorem every_next {m d : Int} (h : okD m d = true) (g : okD (nxM m d) (nxD m d) = true) (e : ¬ lunM (nxM m d) (nxD m d) = lunM m d) : lunM (nxM m d) (nxD m d) = lunM m d + 1 ∧ posM (nxM m d) (nxD m d) = 0 ∧ (onD (nxM m d) (nxD m d)).getD 0 0 = 30 ∧ lastOf (onD m d) = 1 := by
  have := every_day h
  unfold everyB at this
  simp only [g, if_true, if_neg e, Bool.and_eq_true, decide_eq_true_eq] at this
  obtain ⟨_, _, ⟨⟨a, b⟩, c⟩, d⟩ := this
  exact ⟨a, b, c, d⟩
end Go.Proofs.YtkhicgafhbecfaaGreatDoor
