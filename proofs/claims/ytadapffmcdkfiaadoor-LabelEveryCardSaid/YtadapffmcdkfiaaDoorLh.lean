/- The reference's Numbers (computusref08): two slices of integers compared. -/
import Derived.Test.YtadapffmcdkfiaaDoorLg
namespace Go.Proofs.YtadapffmcdkfiaaDoor
open Go.RowKit

def numsB (xs ys : List Int) : Bool := decide (xs = ys)
theorem nums_len {xs ys : List Int} (h : ¬ xs.length = ys.length) : numsB xs ys = false := by
  rw [numsB, decide_eq_false_iff_not]; intro e; exact h (by rw [e])
theorem nums_diff {xs ys : List Int} {k : Nat} (h : (xs.getD k 0 != ys.getD k 0) = true) : numsB xs ys = false := by
  rw [numsB, decide_eq_false_iff_not]; intro e; subst e; simp at h
theorem nums_all {xs ys : List Int} (h : xs.length = ys.length) (g : xs.take xs.length = ys.take xs.length) : numsB xs ys = true := by
  rw [numsB, decide_eq_true_iff]
  rwa [List.take_length, h, List.take_length] at g
theorem take_same {xs ys : List Int} {k : Nat} (hx : k < xs.length) (hy : k < ys.length) (h : (xs.getD k 0 != ys.getD k 0) = false) (g : xs.take k = ys.take k) : xs.take (k + 1) = ys.take (k + 1) := by
  rw [List.take_succ_eq_append_getElem hx, List.take_succ_eq_append_getElem hy, g]
  simp [List.getElem?_eq_getElem hx, List.getElem?_eq_getElem hy] at h
  rw [h]
theorem nums_any (va vb : Value) (xs ys : List Int) (w : World) {A B : Nat} (ha : IntsAt A va xs w) (hb : IntsAt B vb ys w) :
    Calls Tryd.prog 11 #[va, vb] w fun e w' => e = .returned (.bool (numsB xs ys)) ∧ Below w.heap.size w w' := by
  rcases ha.get with ⟨rfl, rfl⟩ | ⟨g, ca, rfl, hi⟩
  · rcases hb.get with ⟨rfl, rfl⟩ | ⟨g, cb, rfl, hi⟩
    · clear ha hb
      go_enter Tryd.func11, Tryd.ntmps11
      go_wp2
      refine wp_loop_rounds 1 ?_
      rw [rounds_succ]
      go_wp2
      go_ret
      exact ⟨rfl, Below.refl _ _⟩
    · cases ys with
      | nil =>
        clear ha hb hi
        go_enter Tryd.func11, Tryd.ntmps11
        go_wp2
        refine wp_loop_rounds 1 ?_
        rw [rounds_succ]
        go_wp2
        go_ret
        exact ⟨rfl, Below.refl _ _⟩
      | cons y ys =>
        have hlen : (y :: ys).length ≤ 9223372036854775807 := by have := hi.le; have := hi.mx; unfold maxLen at this; omega
        have hp : 0 < (y :: ys).length := by simp
        clear ha hb hi
        have hv := Lib.hid (show numsB [] (y :: ys) = false by rw [numsB, decide_eq_false_iff_not]; intro h; cases h)
        generalize (y :: ys).length = n at *
        have hq : ((0 : Int) != (n : Int)) = true := by rw [bne_iff_ne]; omega
        go_enter Tryd.func11, Tryd.ntmps11
        go_wp2
        go_ret
        exact ⟨ret_bool hv.out.symm, Below.refl _ _⟩
  · have hla : xs.length ≤ 9223372036854775807 := by have := hi.le; have := hi.mx; unfold maxLen at this; omega
    rcases hb.get with ⟨rfl, rfl⟩ | ⟨g', cb, rfl, hj⟩
    · cases xs with
      | nil =>
        clear ha hb hi
        go_enter Tryd.func11, Tryd.ntmps11
        go_wp2
        refine wp_loop_rounds 1 ?_
        rw [rounds_succ]
        go_wp2
        go_ret
        exact ⟨rfl, Below.refl _ _⟩
      | cons x xs =>
        have hp : 0 < (x :: xs).length := by simp
        clear ha hb hi
        have hv := Lib.hid (show numsB (x :: xs) [] = false by rw [numsB, decide_eq_false_iff_not]; intro h; cases h)
        generalize (x :: xs).length = n at *
        have hq : ((n : Int) != 0) = true := by rw [bne_iff_ne]; omega
        go_enter Tryd.func11, Tryd.ntmps11
        go_wp2
        go_ret
        exact ⟨ret_bool hv.out.symm, Below.refl _ _⟩
    · have hlb : ys.length ≤ 9223372036854775807 := by have := hj.le; have := hj.mx; unfold maxLen at this; omega
      by_cases hab : xs.length = ys.length
      · have HAB := Lib.hid hab
        have HI := Lib.hid hi
        have HJ := Lib.hid hj
        have hq : ((xs.length : Int) != (ys.length : Int)) = false := by rw [bne_eq_false_iff_eq, hab]
        rw [← hab] at hq ⊢
        clear ha hb hi hj hlb hab
        generalize hn : xs.length = n at *
        have HN := Lib.hid hn
        clear hn
        go_enter Tryd.func11, Tryd.ntmps11
        go_wp2
        go_loopw [5] (fun i wr => ∃ k : Nat, k ≤ n ∧ i = .int .i64 k ∧ xs.take k = ys.take k ∧ Below w.heap.size w wr) (fun i _ => n - (intOf i).toNat)
        case atStart => exact ⟨0, Nat.zero_le _, rfl, rfl, Below.refl _ _⟩
        case round =>
          obtain ⟨k, hk, rfl, htk, hbw⟩ := hrel
          have HT := Lib.hid htk
          have HW := Lib.hid hbw
          clear htk hbw
          by_cases hlt : k < n
          · have c1 := (HI.out.on HW.out).cell k (by rw [HN.out]; exact hlt)
            have c2 := (HJ.out.on HW.out).cell k (by rw [← HAB.out]; exact hlt)
            have hx := Lib.hid (fun h : (xs.getD k 0 != ys.getD k 0) = true => nums_diff h)
            have hy := Lib.hid (fun h : (xs.getD k 0 != ys.getD k 0) = false => take_same (by rw [HN.out]; exact hlt) (by rw [← HAB.out]; exact hlt) h HT.out)
            generalize xs.getD k 0 = x at *
            generalize ys.getD k 0 = y at *
            cases hxy : (x != y)
            · go_wp2_with fail
              go_quiet (fail)
              go_wp2_with fail
              go_roundw
              case rel => exact ⟨k + 1, by omega, by go_num, hy.out hxy, below_dn HW.out _⟩
              case measure => simp [intOf]; omega
            · go_wp2_with fail
              go_quiet (fail)
              go_wp2_with fail
              go_ret
              exact ⟨ret_bool (hx.out hxy).symm, below_dn HW.out _⟩
          · have hv := Lib.hid (nums_all (xs := xs) (ys := ys) (HN.out.trans HAB.out) (by rw [HN.out, ← show k = n by omega]; exact HT.out))
            go_wp2_with fail
            go_ret
            exact ⟨ret_bool hv.out.symm, HW.out⟩
      · have hv := Lib.hid (nums_len hab)
        have hq : ((xs.length : Int) != (ys.length : Int)) = true := by rw [bne_iff_ne]; omega
        clear ha hb hi hj hab
        generalize xs.length = n at *
        generalize ys.length = n' at *
        go_enter Tryd.func11, Tryd.ntmps11
        go_wp2
        go_ret
        exact ⟨ret_bool hv.out.symm, Below.refl _ _⟩
end Go.Proofs.YtadapffmcdkfiaaDoor
