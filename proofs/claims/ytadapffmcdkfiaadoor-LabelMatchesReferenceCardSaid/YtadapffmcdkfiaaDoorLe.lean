/- The library's Index and Contains over integers; package label's Bears. -/
import Derived.Test.YtadapffmcdkfiaaDoorLd
namespace Go.Proofs.YtadapffmcdkfiaaDoor
open Go.RowKit

def idx (xs : List Int) (l : Int) : Int := if xs.contains l = true then (xs.idxOf l : Int) else -1
theorem idx_lt {xs : List Int} {l : Int} (h : xs.contains l = false) : idx xs l = -1 := by rw [idx, if_neg (by rw [h]; decide)]
theorem idx_at {xs : List Int} {l : Int} (k : Nat) (h : (xs.take k).contains l = false) (hk : k < xs.length) (hl : xs.getD k 0 = l) : idx xs l = k := by
  have hl' : xs[k] = l := by rw [← hl, List.getD_eq_getElem?_getD, List.getElem?_eq_getElem hk]; rfl
  have hm : l ∈ xs := by rw [← hl']; exact List.getElem_mem hk
  rw [idx, if_pos (by simpa using hm)]
  have e := List.take_append_drop k xs
  have hn : l ∉ xs.take k := by simpa using h
  have h2 : xs.drop k = l :: xs.drop (k + 1) := by rw [← hl', List.drop_eq_getElem_cons hk]
  have h3 : xs.idxOf l = k := by
    conv => lhs; rw [← e]
    rw [List.idxOf_append, if_neg hn, h2, List.idxOf_cons_self, List.length_take]
    omega
  rw [h3]
theorem idx_nonneg (xs : List Int) (l : Int) : decide (0 ≤ idx xs l) = xs.contains l := by
  unfold idx
  cases h : xs.contains l
  · simp
  · rw [if_pos rfl]; simp
theorem take_snoc_no {xs : List Int} {l : Int} {k : Nat} (h : (xs.take k).contains l = false) (hk : k < xs.length) (hl : (l == xs.getD k 0) = false) : (xs.take (k + 1)).contains l = false := by
  rw [List.take_succ_eq_append_getElem hk]
  rw [List.getD_eq_getElem?_getD, List.getElem?_eq_getElem hk, Option.getD_some, beq_eq_false_iff_ne] at hl
  have hn : l ∉ xs.take k := by simpa using h
  cases g : (xs.take k ++ [xs[k]]).contains l
  · rfl
  · rw [List.contains_iff_mem, List.mem_append, List.mem_singleton] at g
    exact absurd g (fun g => g.elim hn hl)
theorem take_all_no {xs : List Int} {l : Int} {k : Nat} (h : (xs.take k).contains l = false) (hk : xs.length ≤ k) : xs.contains l = false := by
  rwa [List.take_of_length_le hk] at h
theorem idx_any (v : Value) (xs : List Int) (l : Int) (w : World) {B : Nat} (hs : IntsAt B v xs w) :
    Calls Tryd.prog 30 #[v, .int .i64 l] w fun e w' => e = .returned (.int .i64 (idx xs l)) ∧ w = w' := by
  rcases hs.get with ⟨rfl, rfl⟩ | ⟨g, cap, rfl, hi⟩
  · clear hs
    go_enter Tryd.func30, Tryd.ntmps30
    go_wp2
    refine wp_loop_rounds 1 ?_
    rw [rounds_succ]
    go_wp2
    go_ret
    exact ⟨rfl, rfl⟩
  · clear hs
    have HI := Lib.hid hi
    have hlen : xs.length ≤ 9223372036854775807 := by have := hi.le; have := hi.mx; unfold maxLen at this; omega
    generalize hn : xs.length = n at *
    have HN := Lib.hid hn
    clear hi hn
    go_enter Tryd.func30, Tryd.ntmps30
    go_wp2
    go_loop [8] (fun i => ∃ k : Nat, k ≤ n ∧ i = .int .i64 k ∧ (xs.take k).contains l = false) (fun i => n - (intOf i).toNat)
    case atStart => exact ⟨0, Nat.zero_le _, rfl, rfl⟩
    case round =>
      obtain ⟨k, hk, rfl, hno⟩ := hrel
      have HO := Lib.hid hno
      clear hno
      by_cases hlt : k < n
      · have hc := HI.out.cell k (by rw [HN.out]; exact hlt)
        have hx := Lib.hid (fun h : (l == xs.getD k 0) = false => take_snoc_no HO.out (by rw [HN.out]; exact hlt) h)
        have hy := Lib.hid (fun h : xs.getD k 0 = l => idx_at k HO.out (by rw [HN.out]; exact hlt) h)
        generalize xs.getD k 0 = x at *
        cases hb : (l == x)
        · go_wp2
          go_round
          case rel => exact ⟨k + 1, by omega, by go_num, hx.out hb⟩
          case measure => simp [intOf]; omega
        · go_wp2
          go_ret
          exact ⟨ret_int (hy.out (by simpa using (beq_iff_eq.1 hb).symm)).symm, rfl⟩
      · have hz := Lib.hid (idx_lt (take_all_no HO.out (by rw [HN.out]; omega)))
        go_wp2
        go_ret
        exact ⟨ret_int hz.out.symm, rfl⟩
theorem cont_any (v : Value) (xs : List Int) (l : Int) (w : World) {B : Nat} (hs : IntsAt B v xs w) :
    Calls Tryd.prog 27 #[v, .int .i64 l] w fun e w' => e = .returned (.bool (xs.contains l)) ∧ w = w' := by
  have H := Lib.hid hs
  have hz := idx_nonneg xs l
  have HX := Lib.hid (idx_any v xs l w hs)
  clear hs
  generalize idx xs l = i at *
  have HZ := Lib.hid hz
  clear hz
  go_enter Tryd.func27, Tryd.ntmps27
  go_wp2_with fail
  refine HX.out.mono ?_
  rintro e w1 ⟨rfl, rfl⟩
  go_wp2_with fail
  go_ret
  exact ⟨ret_bool HZ.out, rfl⟩
theorem lbears_any (m d l : Int) (w : World) (ht : LTab w) :
    Calls Tryd.prog 14 #[.int .i64 m, .int .i64 d, .int .i64 l] w fun e w' => e = .returned (.bool (bears m d l)) ∧ Below w.heap.size w w' := by
  have HT := Lib.hid ht
  clear ht
  go_enter Tryd.func14, Tryd.ntmps14
  go_wp2_with fail
  refine (lon_any m d _ HT.out).mono ?_
  rintro e w1 ⟨v, rfl, hv, hb1⟩
  have HV := Lib.hid hv
  have HB := Lib.hid hb1
  clear hv hb1
  go_wp2_with fail
  refine (show Calls Tryd.prog 27 #[v, .int .i64 l] w1 fun e w' => e = .returned (.bool (bears m d l)) ∧ w1 = w' from cont_any v _ l _ HV.out).mono ?_
  rintro e wq ⟨rfl, rfl⟩
  go_wp2_with fail
  go_ret
  exact ⟨rfl, HB.out⟩
end Go.Proofs.YtadapffmcdkfiaaDoor
