/- Both calendars' ToDay and FromDay and their references', whatever the date or the number; package civil's choose; the tables of both. -/
import Derived.Test.YtclnpnkjldddcaaDoorCv
import Derived.Test.YtclnpnkjldddcaaDoorJf
import Derived.Test.YtclnpnkjldddcaaDoorGf
namespace Go.Proofs.YtclnpnkjldddcaaDoor
open Go.RowKit

structure CTab (w : World) : Prop where
  j : Tab w
  g : GTab w
theorem CTab.on {w w' : World} (h : CTab w) (hb : Below w.heap.size w w') : CTab w' := ⟨h.j.on hb, h.g.on hb⟩
theorem CTab.al {w : World} (h : CTab w) (o : Obj) : CTab (w.alloc o) := ⟨h.j.al o, h.g.al o⟩

abbrev dtv (y m d : Int) : Value := .agg #[.int .i64 y, .int .i64 m, .int .i64 d]
abbrev numv (n e : Int) : Value := .tuple #[.int .i64 n, .int .i64 e]
abbrev datv (y m d e : Int) : Value := .tuple #[.agg #[.int .i64 y, .int .i64 m, .int .i64 d], .int .i64 e]

section
variable (y m d : Int) (w : World)
theorem jday_all (ht : Tab w) : Calls Tryd.prog 61 #[dtv y m d] w fun e w' => e = .returned (numv (dN jul y m d) (dE jul y m d)) ∧ Below w.heap.size w w' := by
  cases h : inY y
  · obtain ⟨a, b⟩ := dE_out (C := jul) (m := m) (d := d) h
    rw [a, b]; exact jday_out y m d w (fun g => by rw [inY_iff.2 g] at h; cases h)
  · have g := inY_iff.1 h
    cases hv : jul.vld y m d
    · obtain ⟨a, b⟩ := dE_bad h hv
      rw [a, b]; exact jday_bad y m d w ht g.1 g.2 hv
    · obtain ⟨a, b⟩ := dE_at hv
      rw [a, b]; exact jday_at y m d w ht hv
theorem gday_all (ht : GTab w) : Calls Tryd.prog 63 #[dtv y m d] w fun e w' => e = .returned (numv (dN greg y m d) (dE greg y m d)) ∧ Below w.heap.size w w' := by
  cases h : inY y
  · obtain ⟨a, b⟩ := dE_out (C := greg) (m := m) (d := d) h
    rw [a, b]; exact gday_out y m d w (fun g => by rw [inY_iff.2 g] at h; cases h)
  · have g := inY_iff.1 h
    cases hv : greg.vld y m d
    · obtain ⟨a, b⟩ := dE_bad h hv
      rw [a, b]; exact gday_bad y m d w ht g.1 g.2 hv
    · obtain ⟨a, b⟩ := dE_at hv
      rw [a, b]; exact gday_at y m d w ht hv
theorem rday_all : Calls Tryd.prog 38 #[dtv y m d] w fun e w' => e = .returned (numv (dN jul y m d) (dE jul y m d)) ∧ Below w.heap.size w w' := by
  cases h : inY y
  · obtain ⟨a, b⟩ := dE_out (C := jul) (m := m) (d := d) h
    rw [a, b]; exact rday_out y m d w (fun g => by rw [inY_iff.2 g] at h; cases h)
  · have g := inY_iff.1 h
    cases hv : jul.vld y m d
    · obtain ⟨a, b⟩ := dE_bad h hv
      rw [a, b]; exact rday_bad y m d w g.1 g.2 hv
    · obtain ⟨a, b⟩ := dE_at hv
      rw [a, b]; exact rday_at y m d w hv
theorem sday_all : Calls Tryd.prog 39 #[dtv y m d] w fun e w' => e = .returned (numv (dN greg y m d) (dE greg y m d)) ∧ Below w.heap.size w w' := by
  cases h : inY y
  · obtain ⟨a, b⟩ := dE_out (C := greg) (m := m) (d := d) h
    rw [a, b]; exact sday_out y m d w (fun g => by rw [inY_iff.2 g] at h; cases h)
  · have g := inY_iff.1 h
    cases hv : greg.vld y m d
    · obtain ⟨a, b⟩ := dE_bad h hv
      rw [a, b]; exact sday_bad y m d w g.1 g.2 hv
    · obtain ⟨a, b⟩ := dE_at hv
      rw [a, b]; exact sday_at y m d w hv
end
def dF (C : Cal) (n : Int) : Int := if InD C n then 0 else 1
theorem jul_out {n : Int} (h : ¬ InD jul n) : n < -1 ∨ 365249999998 < n := by
  have a : jul.fst 1 = -1 := by decide
  have b : jul.fst 1000000001 = 365249999999 := by decide
  unfold InD at h; omega
theorem greg_out {n : Int} (h : ¬ InD greg n) : n < 1 ∨ 365242500000 < n := by
  have a : greg.fst 1 = 1 := by decide
  have b : greg.fst 1000000001 = 365242500001 := by decide
  unfold InD at h; omega
section
variable (n : Int) (w : World)
theorem jfrom_all (ht : Tab w) : Calls Tryd.prog 62 #[.int .i64 n] w fun e w' => e = .returned (datv (dt jul n).1 (dt jul n).2.1 (dt jul n).2.2 (dF jul n)) ∧ Below w.heap.size w w' := by
  by_cases h : InD jul n
  · obtain ⟨a, b⟩ := dt_in h
    rw [dF, if_pos h]; exact jfrom_at n _ _ _ w ht a b
  · rw [dF, if_neg h, dt_out h]; exact jfrom_no n w (jul_out h)
theorem gfrom_all (ht : GTab w) : Calls Tryd.prog 64 #[.int .i64 n] w fun e w' => e = .returned (datv (dt greg n).1 (dt greg n).2.1 (dt greg n).2.2 (dF greg n)) ∧ Below w.heap.size w w' := by
  by_cases h : InD greg n
  · obtain ⟨a, b⟩ := dt_in h
    rw [dF, if_pos h]; exact gfrom_at n _ _ _ w ht a b
  · rw [dF, if_neg h, dt_out h]; exact gfrom_no n w (greg_out h)
end

/-! the calendars as values -/
abbrev jrec : Value := .agg #[.func (Fn.func 61) #[] #[], .func (Fn.func 62) #[] #[]]
abbrev grec : Value := .agg #[.func (Fn.func 63) #[] #[], .func (Fn.func 64) #[] #[]]
abbrev nrec : Value := .agg #[.nilFunc, .nilFunc]
theorem hst (a : Addr) (f : Fn) (x y : Array Value) (m : Mode) (w : World) : (store a (.func f x y) m).run Tryd.prog w = stored Tryd.prog w a (.func f x y) m := run_store _ _ _ _ _ rfl
theorem hsn (a : Addr) (m : Mode) (w : World) : (store a .nilFunc m).run Tryd.prog w = stored Tryd.prog w a .nilFunc m := run_store _ _ _ _ _ rfl
theorem choose1 (w : World) : Calls Tryd.prog 57 #[.int .i64 1] w fun e w' => e = .returned (.tuple #[jrec, .int .i64 0]) ∧ Below w.heap.size w w' := by
  have h1 := hst
  have h2 := hsn
  go_enter Tryd.func57, Tryd.ntmps57
  go_wp2
  exact bodyPost_ret (v := .tuple #[jrec, .int .i64 0]) (by simp [results, Tryd.results57, go_sem]) rfl ⟨rfl, (Below.refl _ _).alloc (Nat.le_refl _) _⟩
theorem choose2 (w : World) : Calls Tryd.prog 57 #[.int .i64 2] w fun e w' => e = .returned (.tuple #[grec, .int .i64 0]) ∧ Below w.heap.size w w' := by
  have h1 := hst
  have h2 := hsn
  go_enter Tryd.func57, Tryd.ntmps57
  go_wp2
  exact bodyPost_ret (v := .tuple #[grec, .int .i64 0]) (by simp [results, Tryd.results57, go_sem]) rfl ⟨rfl, (Below.refl _ _).alloc (Nat.le_refl _) _⟩
theorem choose0 (c : Int) (w : World) (hc : okC c = false) : Calls Tryd.prog 57 #[.int .i64 c] w fun e w' => e = .returned (.tuple #[nrec, .int .i64 3]) ∧ Below w.heap.size w w' := by
  have h1 : (c == 1) = false := by cases g : c == 1 <;> simp_all [okC]
  have h2 : (c == 2) = false := by cases g : c == 2 <;> simp_all [okC]
  clear hc
  have h3 := hst
  have h4 := hsn
  go_enter Tryd.func57, Tryd.ntmps57
  go_wp2
  exact bodyPost_ret (v := .tuple #[nrec, .int .i64 3]) (by simp [results, Tryd.results57, go_sem]) rfl ⟨rfl, (Below.refl _ _).alloc (Nat.le_refl _) _⟩
end Go.Proofs.YtclnpnkjldddcaaDoor
