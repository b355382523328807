/- The contracts of Valid of package julian and of its reference. -/
import Derived.Test.YtclnpnkjldddcaaDoorJb
namespace Go.Proofs.YtclnpnkjldddcaaDoor
open Go.RowKit

theorem Tab.dn {w : World} (h : Tab w) (n : Nat) : Tab (w.drewN n) := h.below (below_dn (Below.refl w.heap.size w) n) h.heap
theorem Tab.al {w : World} (h : Tab w) (o : Obj) : Tab (w.alloc o) := h.below ((Below.refl w.heap.size w).alloc (Nat.le_refl _) o) h.heap

theorem vld_not1 {y m d : Int} (h : inY y = false) : jul.vld y m d = false := by
  cases g : jul.vld y m d with
  | false => rfl
  | true => have := jul.vld_iff.1 g; rw [inY_iff.2 ⟨this.1, this.2.1⟩] at h; cases h
theorem vld_not2 {y m d : Int} (h : ¬ 1 ≤ d) : jul.vld y m d = false := by
  cases g : jul.vld y m d with
  | false => rfl
  | true => have := jul.vld_iff.1 g; omega
theorem vld_is {y m d : Int} (h : inY y = true) (h1 : 1 ≤ d) : decide (d ≤ dim (jlp y) m) = jul.vld y m d := by
  rw [inY_iff] at h
  rw [Bool.eq_iff_iff, decide_eq_true_iff, jul.vld_iff]
  exact ⟨fun g => ⟨h.1, h.2, h1, g⟩, fun g => g.2.2.2⟩

theorem jvalid_any (y m d : Int) (w : World) (ht : Tab w) :
    Calls Tryd.prog 67 #[.agg #[.int .i64 y, .int .i64 m, .int .i64 d]] w fun e w' => e = .returned (.bool (jul.vld y m d)) ∧ Below w.heap.size w w' := by
  have Hi := fun w => jin_any y w
  cases h : inY y
  · simp only [h] at Hi
    have hv := Lib.hid (vld_not1 (m := m) (d := d) h)
    clear h
    go_enter Tryd.func67, Tryd.ntmps67
    go_wp2_with fail
    go_quiet ((go_at_call 74; exact quiet_same (Hi _)))
    go_wp2
    go_ret
    exact ⟨ret_bool hv.out.symm, below_dn ((Below.refl _ _).alloc (Nat.le_refl _) _) _⟩
  · simp only [h] at Hi
    by_cases hd : 1 ≤ d
    · have hv := Lib.hid (vld_is (m := m) h hd)
      have Hl := fun n => jlen_any y m _ ((ht.al (Obj.cells #[Value.int IntKind.i64 y, Value.int IntKind.i64 m, Value.int IntKind.i64 d] 35)).dn n)
      clear h ht
      go_enter Tryd.func67, Tryd.ntmps67
      go_wp2_with fail
      go_quiet ((first | (go_at_call 74; exact quiet_same (Hi _)) | (go_at_call 68; exact quiet_same (Hl _))))
      go_wp2
      go_ret
      exact ⟨ret_bool hv.out, below_dn ((Below.refl _ _).alloc (Nat.le_refl _) _) _⟩
    · have hv := Lib.hid (vld_not2 (y := y) (m := m) hd)
      have hd : decide (1 ≤ d) = false := by simpa using hd
      clear h ht
      go_enter Tryd.func67, Tryd.ntmps67
      go_wp2_with fail
      go_quiet ((go_at_call 74; exact quiet_same (Hi _)))
      go_wp2
      go_ret
      exact ⟨ret_bool hv.out.symm, below_dn ((Below.refl _ _).alloc (Nat.le_refl _) _) _⟩

theorem rvalid_any (y m d : Int) (w : World) (hy : inR y = true) :
    Calls Tryd.prog 47 #[.agg #[.int .i64 y, .int .i64 m, .int .i64 d]] w fun e w' => e = .returned (.bool (jul.vld y m d)) ∧ Below w.heap.size w w' := by
  have Hi := fun w => rin_any y w
  have Hp := fun w => rleap_any y w hy
  have Hl := fun w => rlen_any (jlp y) m w
  clear hy
  cases h : inY y
  · simp only [h] at Hi
    have hv := Lib.hid (vld_not1 (m := m) (d := d) h)
    clear h
    go_enter Tryd.func47, Tryd.ntmps47
    go_wp2_with fail
    go_quiet ((go_at_call 15; exact quiet_same (Hi _)))
    go_wp2
    go_ret
    exact ⟨ret_bool hv.out.symm, below_dn ((Below.refl _ _).alloc (Nat.le_refl _) _) _⟩
  · simp only [h] at Hi
    by_cases hd : 1 ≤ d
    · have hv := Lib.hid (vld_is (m := m) h hd)
      clear h
      go_enter Tryd.func47, Tryd.ntmps47
      go_wp2_with fail
      go_quiet ((first | (go_at_call 15; exact quiet_same (Hi _)) | (go_at_call 36; exact quiet_same (Hp _)) | (go_at_call 40; exact quiet_same (Hl _))))
      go_wp2
      go_ret
      exact ⟨ret_bool hv.out, below_dn ((Below.refl _ _).alloc (Nat.le_refl _) _) _⟩
    · have hv := Lib.hid (vld_not2 (y := y) (m := m) hd)
      have hd : decide (1 ≤ d) = false := by simpa using hd
      clear h
      go_enter Tryd.func47, Tryd.ntmps47
      go_wp2_with fail
      go_quiet ((go_at_call 15; exact quiet_same (Hi _)))
      go_wp2
      go_ret
      exact ⟨ret_bool hv.out.symm, below_dn ((Below.refl _ _).alloc (Nat.le_refl _) _) _⟩
end Go.Proofs.YtclnpnkjldddcaaDoor
