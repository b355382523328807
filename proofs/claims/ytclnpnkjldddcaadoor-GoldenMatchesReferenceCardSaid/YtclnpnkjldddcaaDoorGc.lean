/- The contracts of Valid of package gregorian and of its reference. -/
import Derived.Test.YtclnpnkjldddcaaDoorGb
namespace Go.Proofs.YtclnpnkjldddcaaDoor
open Go.RowKit

theorem gvld_not1 {y m d : Int} (h : inY y = false) : greg.vld y m d = false := by
  cases g : greg.vld y m d with
  | false => rfl
  | true => have := greg.vld_iff.1 g; rw [inY_iff.2 ⟨this.1, this.2.1⟩] at h; cases h
theorem gvld_not2 {y m d : Int} (h : ¬ 1 ≤ d) : greg.vld y m d = false := by
  cases g : greg.vld y m d with
  | false => rfl
  | true => have := greg.vld_iff.1 g; omega
theorem gvld_is {y m d : Int} (h : inY y = true) (h1 : 1 ≤ d) : decide (d ≤ dim (glp y) m) = greg.vld y m d := by
  rw [inY_iff] at h
  rw [Bool.eq_iff_iff, decide_eq_true_iff, greg.vld_iff]
  exact ⟨fun g => ⟨h.1, h.2, h1, g⟩, fun g => g.2.2.2⟩

theorem gvalid_any (y m d : Int) (w : World) (ht : GTab w) :
    Calls Tryd.prog 71 #[.agg #[.int .i64 y, .int .i64 m, .int .i64 d]] w fun e w' => e = .returned (.bool (greg.vld y m d)) ∧ Below w.heap.size w w' := by
  have Hi := fun w => gin_any y w
  cases h : inY y
  · simp only [h] at Hi
    have hv := Lib.hid (gvld_not1 (m := m) (d := d) h)
    clear h
    go_enter Tryd.func71, Tryd.ntmps71
    go_wp2_with fail
    go_quiet ((go_at_call 77; exact quiet_same (Hi _)))
    go_wp2
    go_ret
    exact ⟨ret_bool hv.out.symm, below_dn ((Below.refl _ _).alloc (Nat.le_refl _) _) _⟩
  · simp only [h] at Hi
    by_cases hd : 1 ≤ d
    · have hv := Lib.hid (gvld_is (m := m) h hd)
      have Hl := fun n => glen_any y m _ ((ht.al (Obj.cells #[Value.int IntKind.i64 y, Value.int IntKind.i64 m, Value.int IntKind.i64 d] 35)).dn n)
      clear h ht
      go_enter Tryd.func71, Tryd.ntmps71
      go_wp2_with fail
      go_quiet ((first | (go_at_call 77; exact quiet_same (Hi _)) | (go_at_call 72; exact quiet_same (Hl _))))
      go_wp2
      go_ret
      exact ⟨ret_bool hv.out, below_dn ((Below.refl _ _).alloc (Nat.le_refl _) _) _⟩
    · have hv := Lib.hid (gvld_not2 (y := y) (m := m) hd)
      have hd : decide (1 ≤ d) = false := by simpa using hd
      clear h ht
      go_enter Tryd.func71, Tryd.ntmps71
      go_wp2_with fail
      go_quiet ((go_at_call 77; exact quiet_same (Hi _)))
      go_wp2
      go_ret
      exact ⟨ret_bool hv.out.symm, below_dn ((Below.refl _ _).alloc (Nat.le_refl _) _) _⟩

theorem svalid_any (y m d : Int) (w : World) (hy : inR y = true) :
    Calls Tryd.prog 49 #[.agg #[.int .i64 y, .int .i64 m, .int .i64 d]] w fun e w' => e = .returned (.bool (greg.vld y m d)) ∧ Below w.heap.size w w' := by
  have Hi := fun w => rin_any y w
  have Hp := fun w => sleap_any y w hy
  have Hl := fun w => rlen_any (glp y) m w
  clear hy
  cases h : inY y
  · simp only [h] at Hi
    have hv := Lib.hid (gvld_not1 (m := m) (d := d) h)
    clear h
    go_enter Tryd.func49, Tryd.ntmps49
    go_wp2_with fail
    go_quiet ((go_at_call 15; exact quiet_same (Hi _)))
    go_wp2
    go_ret
    exact ⟨ret_bool hv.out.symm, below_dn ((Below.refl _ _).alloc (Nat.le_refl _) _) _⟩
  · simp only [h] at Hi
    by_cases hd : 1 ≤ d
    · have hv := Lib.hid (gvld_is (m := m) h hd)
      clear h
      go_enter Tryd.func49, Tryd.ntmps49
      go_wp2_with fail
      go_quiet ((first | (go_at_call 15; exact quiet_same (Hi _)) | (go_at_call 37; exact quiet_same (Hp _)) | (go_at_call 40; exact quiet_same (Hl _))))
      go_wp2
      go_ret
      exact ⟨ret_bool hv.out, below_dn ((Below.refl _ _).alloc (Nat.le_refl _) _) _⟩
    · have hv := Lib.hid (gvld_not2 (y := y) (m := m) hd)
      have hd : decide (1 ≤ d) = false := by simpa using hd
      clear h
      go_enter Tryd.func49, Tryd.ntmps49
      go_wp2_with fail
      go_quiet ((go_at_call 15; exact quiet_same (Hi _)))
      go_wp2
      go_ret
      exact ⟨ret_bool hv.out.symm, below_dn ((Below.refl _ _).alloc (Nat.le_refl _) _) _⟩
end Go.Proofs.YtclnpnkjldddcaaDoor
