/- What earlier stages proved: La. -/
import Derived.Test.YtiegddohgjofbaaKa
import Derived.KernelRfl
namespace Go.Proofs.Ytiegddohgjofbaa

def okD (m d : Int) : Bool := decide (1 ≤ d) && decide (d ≤ dim false m)
theorem okD_iff {m d : Int} : okD m d = true ↔ 1 ≤ d ∧ d ≤ dim false m := by simp [okD]
theorem okD_bd {m d : Int} (h : okD m d = true) : 1 ≤ m ∧ m ≤ 12 ∧ 1 ≤ d ∧ d ≤ 31 := by
  rw [okD_iff] at h
  obtain ⟨a, b⟩ := month_of_dim false m (by omega)
  have := dim_bd false m a b
  omega
theorem okD_false {m d : Int} (h : ¬ (1 ≤ d ∧ d ≤ dim false m)) : okD m d = false := by
  cases g : okD m d with
  | false => rfl
  | true => exact absurd (okD_iff.1 g) h

def doy (m d : Int) : Int := cum false m + d
def stt (k : Int) : Int := [1, 31, 60, 90, 119, 149, 178, 208, 237, 267, 296, 326, 355].getD k.toNat 0
def lun (n : Int) : Int := if n < 31 then 0 else if n < 60 then 1 else if n < 90 then 2 else if n < 119 then 3 else if n < 149 then 4 else if n < 178 then 5 else if n < 208 then 6 else if n < 237 then 7 else if n < 267 then 8 else if n < 296 then 9 else if n < 326 then 10 else if n < 355 then 11 else 12
def pos (n : Int) : Int := n - stt (lun n)
def lunM (m d : Int) : Int := if okD m d = true then lun (doy m d) else 0
def posM (m d : Int) : Int := if okD m d = true then pos (doy m d) else 0
def fullL (p : Int) : List Int := if p = 5 then [31, 25] else [30 - p]
def hollowL (p : Int) : List Int := if p < 4 then [30 - p] else if p = 4 then [31, 26] else if p = 5 then [25, 24] else [29 - p]
def onL (k p : Int) : List Int := if k % 2 = 0 then fullL p else hollowL p
def onD (m d : Int) : List Int := if okD m d = true then onL (lunM m d) (posM m d) else []
def bears (m d l : Int) : Bool := (onD m d).contains l
/-- Day by day. -/
theorem all_md (P : Int → Int → Bool) (h : ((List.range 12).all fun a => (List.range 31).all fun b => P (Int.ofNat a + 1) (Int.ofNat b + 1)) = true) (m d : Int) (m1 : 1 ≤ m) (m2 : m ≤ 12) (d1 : 1 ≤ d) (d2 : d ≤ 31) : P m d = true := by
  rw [List.all_eq_true] at h
  have ha := h (m - 1).toNat (by rw [List.mem_range]; omega)
  rw [List.all_eq_true] at ha
  have hb := ha (d - 1).toNat (by rw [List.mem_range]; omega)
  rwa [show Int.ofNat (m - 1).toNat + 1 = m by rw [Int.ofNat_eq_natCast]; omega, show Int.ofNat (d - 1).toNat + 1 = d by rw [Int.ofNat_eq_natCast]; omega] at hb
theorem doy_bd {m d : Int} (h : okD m d = true) : 1 ≤ doy m d ∧ doy m d ≤ 365 := by
  obtain ⟨m1, m2, d1, d2⟩ := okD_bd h
  have := all_md (fun m d => !okD m d || (decide (1 ≤ doy m d) && decide (doy m d ≤ 365))) (by kernel_rfl) m d m1 m2 d1 d2
  simpa [h] using this
end Go.Proofs.Ytiegddohgjofbaa
