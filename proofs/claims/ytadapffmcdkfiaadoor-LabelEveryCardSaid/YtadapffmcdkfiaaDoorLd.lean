/- The contracts of package label's Position, On, Bears; and of the library's Contains. -/
import Derived.Test.YtadapffmcdkfiaaDoorLc
namespace Go.Proofs.YtadapffmcdkfiaaDoor
open Go.RowKit

theorem ret_iib {a b a' b' : Int} {c c' : Bool} (h : a = a') (g : b = b') (k : c = c') : Ending.returned (.tuple #[.int .i64 a, .int .i64 b, .bool c]) = .returned (.tuple #[.int .i64 a', .int .i64 b', .bool c']) := by rw [h, g, k]
theorem lpos_no (m d : Int) (w : World) (ht : LTab w) (hd : okD m d = false) :
    Calls Tryd.prog 9 #[.int .i64 m, .int .i64 d] w fun e w' => e = .returned (.tuple #[.int .i64 0, .int .i64 0, .bool false]) ∧ Below w.heap.size w w' := by
  have H := Lib.hid (fun w ht => by have := lis_any m d w ht; rwa [hd] at this : ∀ w, LTab w → Calls Tryd.prog 20 #[.int .i64 m, .int .i64 d] w fun e w' => e = .returned (.bool false) ∧ w = w')
  have HT := Lib.hid ht
  clear hd ht
  go_enter Tryd.func9, Tryd.ntmps9
  go_wp2_with fail
  refine (H.out _ HT.out).mono ?_
  rintro e w1 ⟨rfl, rfl⟩
  go_wp2_with fail
  go_ret3
  exact ⟨rfl, Below.refl _ _⟩
theorem lpos_yes (m d : Int) (w : World) (ht : LTab w) (hd : okD m d = true) :
    Calls Tryd.prog 9 #[.int .i64 m, .int .i64 d] w fun e w' => e = .returned (.tuple #[.int .i64 (lunM m d), .int .i64 (posM m d), .bool true]) ∧ Below w.heap.size w w' := by
  have H := Lib.hid (fun w ht => by have := lis_any m d w ht; rwa [hd] at this : ∀ w, LTab w → Calls Tryd.prog 20 #[.int .i64 m, .int .i64 d] w fun e w' => e = .returned (.bool true) ∧ w = w')
  have HL := Lib.hid (fun w ht => llun_any m d w ht hd)
  obtain ⟨k, hk, hk2⟩ : ∃ k : Nat, lunM m d = k ∧ k < 13 := by
    have := lunM_bd m d
    exact ⟨(lunM m d).toNat, by omega, by omega⟩
  have HK := Lib.hid hk
  have hp := Lib.hid (posM_eq hd)
  obtain ⟨m1, m2, d1, d2⟩ := okD_bd hd
  have hb := beg_doy k (by omega) (by omega)
  obtain ⟨n1, n2, e1, e2⟩ := okD_bd hb.1
  have q0 := doy_bd hd
  have q1 := doy_bd hb.1
  have HT := Lib.hid ht
  clear hd ht hb hk
  go_enter Tryd.func9, Tryd.ntmps9
  go_wp2_with fail
  refine (H.out _ HT.out).mono ?_
  rintro e w1 ⟨rfl, rfl⟩
  go_wp2_with fail
  refine (HL.out _ HT.out).mono ?_
  rw [HK.out]
  rintro e w1 ⟨rfl, hb1⟩
  have T1 := Lib.hid (HT.out.on hb1)
  have c1 := T1.out.cellM k hk2
  have c2 := T1.out.cellD k hk2
  have HB1 := Lib.hid hb1
  clear hb1
  go_wp2_with fail
  have T2 := Lib.hid (fun n o => (T1.out.al o).dn n)
  go_quiet ((go_at_call 22; exact quiet_same (ldoy_any _ _ _ (T2.out _ _) (by assumption) (by assumption) (by assumption) (by assumption))))
  go_wp2_with fail
  go_ret3
  exact ⟨ret_iib HK.out.symm (by rw [hp.out, HK.out]) rfl, below_dn (HB1.out.alloc HB1.out.size _) _⟩
theorem lpos_any (m d : Int) (w : World) (ht : LTab w) :
    Calls Tryd.prog 9 #[.int .i64 m, .int .i64 d] w fun e w' => e = .returned (.tuple #[.int .i64 (lunM m d), .int .i64 (posM m d), .bool (okD m d)]) ∧ Below w.heap.size w w' := by
  cases h : okD m d
  · rw [lunM_no h, posM_no h]; exact lpos_no m d w ht h
  · exact lpos_yes m d w ht h

/-! On -/
theorem lfull_any (k : Int) (w : World) (h : 0 ≤ k) :
    Calls Tryd.prog 24 #[.int .i64 k] w fun e w' => e = .returned (.bool (decide (k % 2 = 0))) ∧ w = w' := by
  go_enter Tryd.func24, Tryd.ntmps24
  go_wp2
  go_ret
  exact ⟨ret_bool (by rw [Bool.eq_iff_iff, beq_iff_eq, decide_eq_true_iff]), rfl⟩
/-- A slice of integers of the call's own is handed back; what lay in memory lies there. -/
def RetInts (xs : List Int) (w : World) (e : Ending) (w' : World) : Prop := ∃ v, e = .returned v ∧ IntsAt w.heap.size v xs w' ∧ Below w.heap.size w w'
theorem RetInts.as {xs ys : List Int} {w : World} {e : Ending} {w' : World} (h : RetInts xs w e w') (g : xs = ys) : RetInts ys w e w' := g ▸ h
theorem ret_made1 (w : World) (a : Int) : RetInts [a] w (.returned (.slice (some ⟨w.heap.size, 0, none⟩) 1 1)) (w.alloc (.cells #[.int .i64 a] 3)) := ⟨_, rfl, IntsAt.made1 w a, (Below.refl _ _).alloc (Nat.le_refl _) _⟩
theorem ret_made2 (w : World) (a b : Int) : RetInts [a, b] w (.returned (.slice (some ⟨w.heap.size, 0, none⟩) 2 2)) (w.alloc (.cells #[.int .i64 a, .int .i64 b] 3)) := ⟨_, rfl, IntsAt.made2 w a b, (Below.refl _ _).alloc (Nat.le_refl _) _⟩
theorem lfl_any (p : Int) (w : World) (h1 : 0 ≤ p) (h2 : p ≤ 29) :
    Calls Tryd.prog 25 #[.int .i64 p] w (RetInts (fullL p) w) := by
  cases h : (p == 5)
  · have hv := Lib.hid (show fullL p = [30 - p] by rw [fullL, if_neg (by simpa using h)])
    go_enter Tryd.func25, Tryd.ntmps25
    go_wp2
    go_ret
    exact (ret_made1 _ _).as hv.out.symm
  · have hv := Lib.hid (show fullL p = [31, 25] by rw [fullL, if_pos (by simpa using h)])
    go_enter Tryd.func25, Tryd.ntmps25
    go_wp2
    go_ret
    exact (ret_made2 _ _ _).as hv.out.symm
theorem lhl_any (p : Int) (w : World) (h1 : 0 ≤ p) (h2 : p ≤ 29) :
    Calls Tryd.prog 26 #[.int .i64 p] w (RetInts (hollowL p) w) := by
  have h' : p < 4 ∨ p = 4 ∨ p = 5 ∨ 6 ≤ p := by omega
  rcases h' with h | rfl | rfl | h
  · have hv := Lib.hid (show hollowL p = [30 - p] by rw [hollowL, if_pos h])
    go_enter Tryd.func26, Tryd.ntmps26
    go_wp2
    go_ret
    exact (ret_made1 _ _).as hv.out.symm
  · go_enter Tryd.func26, Tryd.ntmps26
    go_wp2
    go_ret
    exact (ret_made2 _ _ _).as rfl
  · go_enter Tryd.func26, Tryd.ntmps26
    go_wp2
    go_ret
    exact (ret_made2 _ _ _).as rfl
  · have hv := Lib.hid (show hollowL p = [29 - p] by rw [hollowL, if_neg (by omega), if_neg (by omega), if_neg (by omega)])
    have e4 : (p == 4) = false := by rw [beq_eq_false_iff_ne]; omega
    have e5 : (p == 5) = false := by rw [beq_eq_false_iff_ne]; omega
    go_enter Tryd.func26, Tryd.ntmps26
    go_wp2
    go_ret
    exact (ret_made1 _ _).as hv.out.symm
theorem ret_nil (w w' : World) (hb : Below w.heap.size w w') : RetInts [] w (.returned (.slice none 0 0)) w' := ⟨_, rfl, IntsAt.nil _ _, hb⟩
theorem RetInts.after {xs : List Int} {w w1 : World} {e : Ending} {w' : World} (h : RetInts xs w1 e w') (hb : Below w.heap.size w w1) : RetInts xs w e w' := by
  obtain ⟨v, rfl, hv, hb1⟩ := h
  exact ⟨v, rfl, hv.lower hb.size, below_on hb hb1⟩
theorem lon_any (m d : Int) (w : World) (ht : LTab w) :
    Calls Tryd.prog 12 #[.int .i64 m, .int .i64 d] w (RetInts (onD m d) w) := by
  have H := Lib.hid (fun w ht => lpos_any m d w ht)
  have HT := Lib.hid ht
  have hl := lunM_bd m d
  have hp := posM_bd m d
  clear ht
  cases hd : okD m d
  · have hv := Lib.hid (onD_no hd)
    rw [hd] at H
    clear hd
    go_enter Tryd.func12, Tryd.ntmps12
    go_wp2_with fail
    refine (H.out _ HT.out).mono ?_
    rintro e w1 ⟨rfl, hb1⟩
    have HB := Lib.hid hb1
    clear hb1
    go_wp2_with fail
    go_ret
    exact (ret_nil _ _ HB.out).as hv.out.symm
  · have hv := Lib.hid (onD_at hd)
    rw [hd] at H
    clear hd
    cases h2 : decide (lunM m d % 2 = 0)
    · have hw := Lib.hid (show onD m d = hollowL (posM m d) by rw [hv.out, onL, if_neg (by simpa using h2)])
      have HF := Lib.hid (fun w => by have := lfull_any (lunM m d) w hl.1; rwa [h2] at this : ∀ w, Calls Tryd.prog 24 #[.int .i64 (lunM m d)] w fun e w' => e = .returned (.bool false) ∧ w = w')
      clear h2 hv
      go_enter Tryd.func12, Tryd.ntmps12
      go_wp2_with fail
      refine (H.out _ HT.out).mono ?_
      rintro e w1 ⟨rfl, hb1⟩
      have HB := Lib.hid hb1
      clear hb1
      go_wp2_with fail
      refine (HF.out _).mono ?_
      rintro e wq ⟨rfl, rfl⟩
      go_wp2_with fail
      refine (lhl_any _ _ hp.1 hp.2).mono ?_
      rintro e w2 ⟨v, rfl, hv1, hb2⟩
      have HR := Lib.hid (RetInts.after ⟨v, rfl, hv1, hb2⟩ HB.out)
      clear hv1 hb2
      go_wp2_with fail
      go_ret
      exact HR.out.as hw.out.symm
    · have hw := Lib.hid (show onD m d = fullL (posM m d) by rw [hv.out, onL, if_pos (by simpa using h2)])
      have HF := Lib.hid (fun w => by have := lfull_any (lunM m d) w hl.1; rwa [h2] at this : ∀ w, Calls Tryd.prog 24 #[.int .i64 (lunM m d)] w fun e w' => e = .returned (.bool true) ∧ w = w')
      clear h2 hv
      go_enter Tryd.func12, Tryd.ntmps12
      go_wp2_with fail
      refine (H.out _ HT.out).mono ?_
      rintro e w1 ⟨rfl, hb1⟩
      have HB := Lib.hid hb1
      clear hb1
      go_wp2_with fail
      refine (HF.out _).mono ?_
      rintro e wq ⟨rfl, rfl⟩
      go_wp2_with fail
      refine (lfl_any _ _ hp.1 hp.2).mono ?_
      rintro e w2 ⟨v, rfl, hv1, hb2⟩
      have HR := Lib.hid (RetInts.after ⟨v, rfl, hv1, hb2⟩ HB.out)
      clear hv1 hb2
      go_wp2_with fail
      go_ret
      exact HR.out.as hw.out.symm
end Go.Proofs.YtadapffmcdkfiaaDoor
