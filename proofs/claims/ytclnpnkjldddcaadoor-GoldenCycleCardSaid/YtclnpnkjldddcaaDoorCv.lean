/- Both calendars by their number, plain: what the functions on dates of a calendar answer. No program in it. -/
import Derived.Test.YtclnpnkjldddcaaDoorJa
import Derived.Test.YtclnpnkjldddcaaDoorGa
namespace Go.Proofs.YtclnpnkjldddcaaDoor

/-! a calendar, with errors: 0 none, 1 range, 2 date, 3 no such calendar -/
def dE (C : Cal) (y m d : Int) : Int := if inY y = true then (if C.vld y m d = true then 0 else 2) else 1
def dN (C : Cal) (y m d : Int) : Int := if C.vld y m d = true then C.num y m d else 0
def InD (C : Cal) (n : Int) : Prop := C.fst 1 ≤ n ∧ n < C.fst 1000000001
instance (C : Cal) (n : Int) : Decidable (InD C n) := inferInstanceAs (Decidable (_ ∧ _))
theorem dt_ex (C : Cal) (n : Int) (h : InD C n) : ∃ p : Int × Int × Int, C.vld p.1 p.2.1 p.2.2 = true ∧ C.num p.1 p.2.1 p.2.2 = n := by
  obtain ⟨y, m, d, h1, h2⟩ := C.date_exists n h.1 h.2
  exact ⟨(y, m, d), h1, h2⟩
noncomputable def dt (C : Cal) (n : Int) : Int × Int × Int := if h : InD C n then Classical.choose (dt_ex C n h) else (0, 0, 0)
theorem dt_in {C : Cal} {n : Int} (h : InD C n) : C.vld (dt C n).1 (dt C n).2.1 (dt C n).2.2 = true ∧ C.num (dt C n).1 (dt C n).2.1 (dt C n).2.2 = n := by
  unfold dt; rw [dif_pos h]; exact Classical.choose_spec (dt_ex C n h)
theorem dt_out {C : Cal} {n : Int} (h : ¬ InD C n) : dt C n = (0, 0, 0) := by unfold dt; rw [dif_neg h]
theorem dt_at {C : Cal} {n y m d : Int} (hv : C.vld y m d = true) (hn : C.num y m d = n) : dt C n = (y, m, d) ∧ InD C n := by
  have hi : InD C n := by have := C.num_range hv; rw [hn] at this; exact this
  obtain ⟨h1, h2⟩ := dt_in hi
  obtain ⟨a, b, c⟩ := C.num_inj h1 hv (h2.trans hn.symm)
  exact ⟨by rw [show dt C n = ((dt C n).1, (dt C n).2.1, (dt C n).2.2) from rfl, a, b, c], hi⟩
theorem dE_at {C : Cal} {y m d : Int} (h : C.vld y m d = true) : dE C y m d = 0 ∧ dN C y m d = C.num y m d := by
  have := C.vld_iff.1 h
  unfold dE dN; rw [if_pos (inY_iff.2 ⟨this.1, this.2.1⟩), if_pos h, if_pos h]; exact ⟨rfl, rfl⟩
theorem dE_zero {C : Cal} {y m d : Int} (h : dE C y m d = 0) : C.vld y m d = true := by
  unfold dE at h; split at h
  · split at h
    · assumption
    · cases h
  · cases h
theorem dE_bad {C : Cal} {y m d : Int} (h1 : inY y = true) (h : C.vld y m d = false) : dE C y m d = 2 ∧ dN C y m d = 0 := by
  unfold dE dN; rw [if_pos h1, h]; exact ⟨rfl, rfl⟩
theorem dE_out {C : Cal} {y m d : Int} (h1 : inY y = false) : dE C y m d = 1 ∧ dN C y m d = 0 := by
  have hv : C.vld y m d = false := by
    cases g : C.vld y m d with
    | false => rfl
    | true =>
      have := C.vld_iff.1 g
      rw [inY_iff.2 ⟨this.1, this.2.1⟩] at h1; cases h1
  unfold dE dN; rw [h1, hv]; exact ⟨rfl, rfl⟩

def okC (c : Int) : Bool := decide (c = 1) || decide (c = 2)
theorem okC_iff {c : Int} : okC c = true ↔ c = 1 ∨ c = 2 := by simp [okC]
theorem okC_not {c : Int} (h1 : ¬ c = 1) (h2 : ¬ c = 2) : okC c = false := by simp [okC, h1, h2]
def calOf (c : Int) : Cal := if c = 1 then jul else greg
theorem calOf1 : calOf 1 = jul := rfl
theorem calOf2 : calOf 2 = greg := rfl

/-! the functions' answers -/
def tE (c y m d : Int) : Int := if okC c = true then dE (calOf c) y m d else 3
def tN (c y m d : Int) : Int := if okC c = true then dN (calOf c) y m d else 0
def fE (c n : Int) : Int := if okC c = true then (if InD (calOf c) n then 0 else 1) else 3
noncomputable def fY (c n : Int) : Int := if okC c = true then (dt (calOf c) n).1 else 0
noncomputable def fM (c n : Int) : Int := if okC c = true then (dt (calOf c) n).2.1 else 0
noncomputable def fD (c n : Int) : Int := if okC c = true then (dt (calOf c) n).2.2 else 0
def vE (y m d a b : Int) : Int := if okC b = true then (if tE a y m d = 0 then fE b (tN a y m d) else tE a y m d) else 3
noncomputable def vY (y m d a b : Int) : Int := if vE y m d a b = 0 then fY b (tN a y m d) else 0
noncomputable def vM (y m d a b : Int) : Int := if vE y m d a b = 0 then fM b (tN a y m d) else 0
noncomputable def vD (y m d a b : Int) : Int := if vE y m d a b = 0 then fD b (tN a y m d) else 0
def oN (c y m d : Int) : Int := if tE c y m d = 0 then cum ((calOf c).lp y) m + d else 0
def yE (c y : Int) : Int := if okC c = true then (if inY y = true then 0 else 1) else 3
def yN (c y : Int) : Int := if yE c y = 0 then 365 + l01 ((calOf c).lp y) else 0
def xE (c y k : Int) : Int := if yE c y = 0 then (if 1 ≤ k ∧ k ≤ yN c y then 0 else 2) else yE c y
noncomputable def xY (c y k : Int) : Int := if xE c y k = 0 then fY c ((calOf c).fst y + k - 1) else 0
noncomputable def xM (c y k : Int) : Int := if xE c y k = 0 then fM c ((calOf c).fst y + k - 1) else 0
noncomputable def xD (c y k : Int) : Int := if xE c y k = 0 then fD c ((calOf c).fst y + k - 1) else 0
def sE (c y m d k : Int) : Int := if tE c y m d = 0 then fE c (tN c y m d + k) else tE c y m d
noncomputable def sY (c y m d k : Int) : Int := if sE c y m d k = 0 then fY c (tN c y m d + k) else 0
noncomputable def sM (c y m d k : Int) : Int := if sE c y m d k = 0 then fM c (tN c y m d + k) else 0
noncomputable def sD (c y m d k : Int) : Int := if sE c y m d k = 0 then fD c (tN c y m d + k) else 0
def wN (c y m d : Int) : Int := if tE c y m d = 0 then tN c y m d % 7 else 0

/-! facts -/
theorem tE_zero {c y m d : Int} (h : tE c y m d = 0) : okC c = true ∧ (calOf c).vld y m d = true ∧ tN c y m d = (calOf c).num y m d := by
  unfold tE at h; split at h
  · rename_i g
    have hv := dE_zero h
    exact ⟨g, hv, by unfold tN; rw [if_pos g, (dE_at hv).2]⟩
  · cases h
theorem tE_at {c y m d : Int} (hc : okC c = true) (hv : (calOf c).vld y m d = true) : tE c y m d = 0 ∧ tN c y m d = (calOf c).num y m d := by
  unfold tE tN; rw [if_pos hc, if_pos hc]; exact dE_at hv
theorem tE_no {c : Int} (y m d : Int) (hc : okC c = false) : tE c y m d = 3 ∧ tN c y m d = 0 := by unfold tE tN; rw [hc]; exact ⟨rfl, rfl⟩
theorem tN_no {c y m d : Int} (h : ¬ tE c y m d = 0) : tN c y m d = 0 := by
  unfold tE at h; unfold tN; split
  · rename_i g
    rw [if_pos g] at h
    unfold dN; split
    · rename_i hv; exact absurd (dE_at hv).1 h
    · rfl
  · rfl
theorem fE_zero {c n : Int} (h : fE c n = 0) : okC c = true ∧ InD (calOf c) n := by
  unfold fE at h; split at h
  · rename_i g
    split at h
    · rename_i g2; exact ⟨g, g2⟩
    · cases h
  · cases h
theorem fE_in {c n : Int} (h : fE c n = 0) : (calOf c).vld (fY c n) (fM c n) (fD c n) = true ∧ (calOf c).num (fY c n) (fM c n) (fD c n) = n := by
  obtain ⟨a, b⟩ := fE_zero h
  unfold fY fM fD; rw [if_pos a, if_pos a, if_pos a]; exact dt_in b
theorem fE_at {c y m d n : Int} (hc : okC c = true) (hv : (calOf c).vld y m d = true) (hn : (calOf c).num y m d = n) : fE c n = 0 ∧ fY c n = y ∧ fM c n = m ∧ fD c n = d := by
  obtain ⟨a, b⟩ := dt_at hv hn
  unfold fE fY fM fD; rw [if_pos hc, if_pos hc, if_pos hc, if_pos hc, if_pos b, a]; exact ⟨rfl, rfl, rfl, rfl⟩
theorem fE_no {c n : Int} (h : ¬ fE c n = 0) : fY c n = 0 ∧ fM c n = 0 ∧ fD c n = 0 := by
  unfold fE at h; unfold fY fM fD; split
  · rename_i g
    rw [if_pos g] at h
    have : ¬ InD (calOf c) n := fun g2 => h (by rw [if_pos g2])
    rw [dt_out this]; exact ⟨rfl, rfl, rfl⟩
  · exact ⟨rfl, rfl, rfl⟩
theorem f_bad {c : Int} (n : Int) (hc : okC c = false) : fY c n = 0 ∧ fM c n = 0 ∧ fD c n = 0 ∧ fE c n = 3 := by unfold fY fM fD fE; rw [hc]; exact ⟨rfl, rfl, rfl, rfl⟩
theorem fst_ends (c : Int) : -1 ≤ (calOf c).fst 1 ∧ (calOf c).fst 1 ≤ 1 ∧ 365242500001 ≤ (calOf c).fst 1000000001 ∧ (calOf c).fst 1000000001 ≤ 365249999999 := by
  unfold calOf; split
  · exact ⟨by decide, by decide, by decide, by decide⟩
  · exact ⟨by decide, by decide, by decide, by decide⟩
theorem tN_bd (c y m d : Int) : -1 ≤ tN c y m d ∧ tN c y m d ≤ 365249999998 := by
  by_cases h : tE c y m d = 0
  · obtain ⟨_, hv, e⟩ := tE_zero h
    have := (calOf c).num_range hv
    have := fst_ends c
    rw [e]; omega
  · rw [tN_no h]; omega
theorem InD_bd {c n : Int} (h : InD (calOf c) n) : -1 ≤ n ∧ n ≤ 365249999998 := by
  have := fst_ends c
  obtain ⟨a, b⟩ := h
  omega
/-- Where no date is, it does not matter by which number. -/
theorem f_far {c n n' : Int} (h : ¬ (-1 ≤ n ∧ n ≤ 365249999998)) (h' : ¬ (-1 ≤ n' ∧ n' ≤ 365249999998)) : fE c n = fE c n' ∧ fY c n = fY c n' ∧ fM c n = fM c n' ∧ fD c n = fD c n' := by
  have a : ¬ InD (calOf c) n := fun g => h (InD_bd g)
  have a' : ¬ InD (calOf c) n' := fun g => h' (InD_bd g)
  unfold fE fY fM fD; rw [if_neg a, if_neg a', dt_out a, dt_out a']; exact ⟨rfl, rfl, rfl, rfl⟩
end Go.Proofs.YtclnpnkjldddcaaDoor
