/- Epacts and labels, plain: what the functions of package epact and of its reference answer. No program in it. -/
import Derived.Test.YtoockmlobpegcaaDoorKd
import Derived.Test.YtoockmlobpegcaaDoorKw
namespace Go.Proofs.YtoockmlobpegcaaDoor

/-- The number from 1 to 30 that is congruent to n. -/
def ep30 (n : Int) : Int := if n % 30 = 0 then 30 else n % 30
def epJ (y : Int) : Int := 11 * gold y - 3
def epG (y : Int) : Int := 11 * gold y + 20 + lunr y - solr y
def epF (c y : Int) : Int := if c = 1 then epJ y else epG y
def epIn (c y : Int) : Bool := if c = 1 then inY y else inG y
/-- The error of a calendar and a year. -/
def epE (c y : Int) : Int := if okC c = true then eB (epIn c y) else 3
def epc (c y : Int) : Int := ep30 (epF c y)
def lbl (e g : Int) : Int := if e = 25 ∧ 11 < g then 31 else e
def lab (c y : Int) : Int := lbl (epc c y) (gold y)
def epN (c y : Int) : Int := if epE c y = 0 then epc c y else 0
def epL (c y : Int) : Int := if epE c y = 0 then lab c y else 0

theorem ep30_bd (n : Int) : 1 ≤ ep30 n ∧ ep30 n ≤ 30 := by unfold ep30; split <;> omega
theorem ep30_mod (n : Int) : ep30 n % 30 = n % 30 := by unfold ep30; split <;> omega
theorem ep30_eq {m n : Int} : ep30 m = ep30 n ↔ (m - n) % 30 = 0 := by unfold ep30; split <;> split <;> omega
theorem epJ_bd (y : Int) : 8 ≤ epJ y ∧ epJ y ≤ 206 := by have := gold_bd y; unfold epJ; omega
theorem epG_bd {y : Int} (h1 : 1583 ≤ y) (h2 : y ≤ 1000000000) : -10000000 ≤ epG y ∧ epG y ≤ 10000229 := by
  have a := gold_bd y
  have b := solr_bd h1 h2
  have c := lunr_bd h1 h2
  unfold epG; omega
theorem lbl_bd {e g : Int} (h : 1 ≤ e ∧ e ≤ 30) : 1 ≤ lbl e g ∧ lbl e g ≤ 31 := by unfold lbl; split <;> omega
theorem epE_zero {c y : Int} (h : epE c y = 0) : (c = 1 ∨ c = 2) ∧ epIn c y = true := by
  unfold epE at h
  cases hc : okC c
  · rw [hc] at h; simp at h
  · rw [hc, if_pos rfl] at h
    refine ⟨okC_iff.1 hc, ?_⟩
    cases hi : epIn c y
    · rw [hi] at h; simp [eB] at h
    · rfl
theorem epE_ok {c y : Int} (hc : okC c = true) (h : epIn c y = true) : epE c y = 0 := by unfold epE; rw [if_pos hc, h]; rfl
theorem epIn_one (y : Int) : epIn 1 y = inY y := rfl
theorem epIn_two (y : Int) : epIn 2 y = inG y := rfl
theorem epIn_inY {c y : Int} (h : epIn c y = true) : 1 ≤ y ∧ y ≤ 1000000000 := by
  unfold epIn at h
  split at h
  · exact inY_iff.1 h
  · have := inG_iff.1 h; omega
theorem epE_inY {c y : Int} (h : epE c y = 0) : 1 ≤ y ∧ y ≤ 1000000000 := epIn_inY (epE_zero h).2

/-! names -/
def dig (n : Int) : UInt8 := UInt8.ofNat (48 + n.toNat)
def lnm (l : Int) : ByteArray :=
  if l < 1 ∨ 31 < l then ⟨#[]⟩ else if l = 30 then ⟨#[42]⟩ else if l = 31 then ⟨#[50, 53, 39]⟩ else if l < 10 then ⟨#[dig l]⟩ else ⟨#[dig (l / 10), dig (l % 10)]⟩
theorem lnm_out {l : Int} (h : l < 1 ∨ 31 < l) : lnm l = ⟨#[]⟩ := by unfold lnm; rw [if_pos h]
theorem lnm_inj_nat : ∀ a b : Fin 32, 1 ≤ a.val → 1 ≤ b.val → (lnm a.val).data.toList = (lnm b.val).data.toList → a = b := by decide +kernel
theorem lnm_some_nat : ∀ a : Fin 32, 1 ≤ a.val → (lnm a.val).data.toList.isEmpty = false := by decide +kernel
theorem lnm_inj {a b : Int} (h1 : 1 ≤ a) (h2 : a ≤ 31) (h3 : 1 ≤ b) (h4 : b ≤ 31) (h : lnm a = lnm b) : a = b := by
  have e1 : ((a.toNat : Nat) : Int) = a := Int.toNat_of_nonneg (by omega)
  have e2 : ((b.toNat : Nat) : Int) = b := Int.toNat_of_nonneg (by omega)
  have := lnm_inj_nat ⟨a.toNat, by omega⟩ ⟨b.toNat, by omega⟩ (by show 1 ≤ a.toNat; omega) (by show 1 ≤ b.toNat; omega) (by show (lnm ((a.toNat : Nat) : Int)).data.toList = (lnm ((b.toNat : Nat) : Int)).data.toList; rw [e1, e2, h])
  have := congrArg Fin.val this
  simp at this
  omega
theorem lnm_some {a : Int} (h1 : 1 ≤ a) (h2 : a ≤ 31) : (lnm a).toList.isEmpty = false := by
  have e1 : ((a.toNat : Nat) : Int) = a := Int.toNat_of_nonneg (by omega)
  have := lnm_some_nat ⟨a.toNat, by omega⟩ (by show 1 ≤ a.toNat; omega)
  rw [ByteArray.toList_eq]
  change (lnm ((a.toNat : Nat) : Int)).data.toList.isEmpty = false at this
  rwa [e1] at this
theorem lnm_beq {a b : Int} (h1 : 1 ≤ a) (h2 : a ≤ 31) (h3 : 1 ≤ b) (h4 : b ≤ 31) : ((lnm a).toList == (lnm b).toList) = decide (a = b) := by
  rw [Bool.eq_iff_iff, decide_eq_true_iff]
  refine ⟨fun h => lnm_inj h1 h2 h3 h4 (bytes_ext h), fun h => by rw [h]; exact beq_self_eq_true _⟩
end Go.Proofs.YtoockmlobpegcaaDoor
