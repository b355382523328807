/- The contracts of Sum and of the reference's Sum, for a row of 64-bit integers: the sum and true if each sum of a prefix is in range, else 0 and false. -/
import Derived.Test.YtphiidmcfagemaaD
import Derived.Test.YtphiidmcfagemaaF
import Derived.WalkSpells
namespace Go.Proofs.Ytphiidmcfagemaa
open Go.RowKit

/-- The sum of a list, begun at s, while each sum of a prefix is in range; else 0 and false. -/
def sm (s : Int) : List Int → Int × Bool
  | [] => (s, true)
  | n :: l => if inR (s + n) then sm (s + n) l else (0, false)

theorem sm_nil (s : Int) : sm s [] = (s, true) := rfl
theorem sm_yes {s n : Int} {l : List Int} (h : inR (s + n) = true) : sm s (n :: l) = sm (s + n) l := by rw [sm, if_pos h]
theorem sm_no {s n : Int} {l : List Int} (h : inR (s + n) = false) : sm s (n :: l) = (0, false) := by rw [sm, if_neg (by rw [h]; decide)]

theorem val_in {x : Int} (h : inR x = true) : Value.int .i64 (wrap64 x) = .int .i64 x := by rw [wrap64_of _ h]
def SumIs (e : Ending) (r : Int × Bool) : Prop := e = .returned (.tuple #[.int .i64 r.1, .bool r.2])
def SumAt (s0 : Int) (zs : List Int) (k : Nat) : Prop := sm 0 zs = sm s0 (zs.drop k)

theorem drop_at (zs : List Int) (k : Nat) (h : k < zs.length) : zs.drop k = zs.getD k 0 :: zs.drop (k + 1) := by
  rw [List.drop_eq_getElem_cons h]; simp [List.getD_eq_getElem?_getD, List.getElem?_eq_getElem h]

theorem sum_step {s0 n : Int} {l : List Int} {k : Nat} (h : SumAt s0 l k) (hk : k < l.length) (hn : l.getD k 0 = n) (hi : inR (s0 + n) = true) : SumAt (s0 + n) l (k + 1) := by
  unfold SumAt at h ⊢
  rw [h, drop_at l k hk, hn, sm_yes hi]
theorem sum_fail {s0 n : Int} {l : List Int} {k : Nat} (h : SumAt s0 l k) (hk : k < l.length) (hn : l.getD k 0 = n) (hi : inR (s0 + n) = false) : sm 0 l = (0, false) := by
  unfold SumAt at h
  rw [h, drop_at l k hk, hn, sm_no hi]
theorem sum_end {s0 : Int} {l : List Int} {k : Nat} (h : SumAt s0 l k) (hk : l.length ≤ k) : sm 0 l = (s0, true) := by
  unfold SumAt at h
  rw [h, List.drop_eq_nil_of_le hk, sm_nil]
theorem take_getD (zs : List Int) (len k : Nat) (h : k < len) : (zs.take len).getD k 0 = zs.getD k 0 := by
  simp [List.getD_eq_getElem?_getD, h]
theorem sum_is {r : Int × Bool} {a : Int} {c : Bool} (h : r = (a, c)) : SumIs (.returned (.tuple #[.int .i64 a, .bool c])) r := by rw [SumIs, h]

set_option maxRecDepth 100000 in
theorem sum_row (b off len cap : Nat) (zs : List Int) (w : World) (hm : len ≤ 9223372036854775807) (hl : len ≤ zs.length) (hb : b < w.heap.size)
    (hin : ∀ n ∈ zs, inR n = true) (hc : ∀ j, j < zs.length → w.cell? ⟨b, off + j, none⟩ = some (.int .i64 (zs.getD j 0))) :
    Calls Try.prog 20 #[.slice (some ⟨b, off, none⟩) len cap] w fun e w' => SumIs e (sm 0 (zs.take len)) ∧ Below w.heap.size w w' := by
  go_enter Try.func20, Try.ntmps20
  go_wp2
  go_loopw [4, 11] (fun s i wr => ∃ (k : Nat) (s0 : Int), k ≤ len ∧ i = .int .i64 k ∧ s = .int .i64 s0 ∧ inR s0 = true ∧ SumAt s0 (zs.take len) k ∧ Below w.heap.size w wr) (fun _ i _ => len - (intOf i).toNat)
  case atStart => exact ⟨0, 0, Nat.zero_le _, rfl, rfl, rfl, rfl, Below.refl _ _⟩
  case round =>
    obtain ⟨k, s0, hk, rfl, rfl, hs0, hat, hbel⟩ := hrel
    by_cases hlt : k < len
    · have hcell : wr.cell? ⟨b, off + k, none⟩ = some (.int .i64 (zs.getD k 0)) := (hbel.cell (p := ⟨b, off + k, none⟩) hb).trans (hc k (by omega))
      have hkin : Hid (inR (zs.getD k 0) = true) := hide (hin _ (by rw [List.getD_eq_getElem?_getD, List.getElem?_eq_getElem (by omega)]; exact List.getElem_mem _))
      have hs1 := hide hs0
      have hat1 := hide hat
      have hbel1 := hide hbel
      have hbel2 : ∀ wx, Below wr.heap.size wr wx → Hid (Below w.heap.size w wx) := fun wx h => hide (hbel.trans (h.mono hbel.size))
      clear hs0 hat hbel hc hin
      cases hin : inR (s0 + zs.getD k 0)
      · have HA := add_any s0 (zs.getD k 0) wr hs1.out hkin.out
        rw [hin, ifb_false] at HA
        go_wp2_with (go_at_call 14; refine HA.mono ?_; rintro e w1 ⟨rfl, hb1⟩)
        go_ret2
        exact ⟨sum_is (sum_fail hat1.out (by simp; omega) (take_getD zs len k hlt) hin), (hbel2 _ hb1).out⟩
      · have HA := add_any s0 (zs.getD k 0) wr hs1.out hkin.out
        rw [hin, ifb_true] at HA
        go_wp2_with (go_at_call 14; refine HA.mono ?_; rintro e w1 ⟨rfl, hb1⟩)
        go_roundw
        case rel => exact ⟨k + 1, s0 + zs.getD k 0, by omega, by go_num, rfl, hin, sum_step hat1.out (by simp; omega) (take_getD zs len k hlt) hin, (hbel2 _ hb1).out⟩
        case measure => simp [intOf]; omega
    · have hat1 := hide hat
      clear hat hs0 hc hin
      go_wp2
      go_ret2
      exact ⟨sum_is (sum_end hat1.out (by simp; omega)), hbel⟩

theorem sum_empty (a : Option Addr) (cap : Nat) (w : World) : Calls Try.prog 20 #[.slice a 0 cap] w fun e w' => SumIs e (sm 0 []) ∧ Below w.heap.size w w' := by
  go_enter Try.func20, Try.ntmps20
  go_wp2
  refine wp_loop_rounds 1 ?_
  rw [rounds_succ]
  go_wp2
  go_ret2
  exact ⟨rfl, Below.refl _ _⟩

set_option maxRecDepth 100000 in
theorem rsum_row (b off len cap : Nat) (zs : List Int) (w : World) (hm : len ≤ 9223372036854775807) (hl : len ≤ zs.length)
    (hin : ∀ n ∈ zs, inR n = true) (hc : ∀ j, j < zs.length → w.cell? ⟨b, off + j, none⟩ = some (.int .i64 (zs.getD j 0))) :
    Calls Try.prog 21 #[.slice (some ⟨b, off, none⟩) len cap] w fun e w' => SumIs e (sm 0 (zs.take len)) ∧ w = w' := by
  go_enter Try.func21, Try.ntmps21
  go_wp2
  go_loop [4, 5] (fun s i => ∃ (k : Nat) (s0 : Int), k ≤ len ∧ i = .int .i64 k ∧ s = .int .i64 s0 ∧ inR s0 = true ∧ SumAt s0 (zs.take len) k) (fun _ i => len - (intOf i).toNat)
  case atStart => exact ⟨0, 0, Nat.zero_le _, rfl, rfl, rfl, rfl⟩
  case round =>
    obtain ⟨k, s0, hk, rfl, rfl, hs0, hat⟩ := hrel
    by_cases hlt : k < len
    · have hcell : w.cell? ⟨b, off + k, none⟩ = some (.int .i64 (zs.getD k 0)) := hc k (by omega)
      have hkin : Hid (inR (zs.getD k 0) = true) := hide (hin _ (by rw [List.getD_eq_getElem?_getD, List.getElem?_eq_getElem (by omega)]; exact List.getElem_mem _))
      have hs1 := hide hs0
      have hat1 := hide hat
      clear hs0 hat hc hin
      cases hin : inR (s0 + zs.getD k 0)
      · have HA := adds_any s0 (zs.getD k 0) w hs1.out hkin.out
        rw [hin] at HA
        go_wp2_with (go_at_call 17; refine HA.mono ?_; rintro e w1 ⟨rfl, rfl⟩)
        go_ret2
        exact ⟨sum_is (sum_fail hat1.out (by simp; omega) (take_getD zs len k hlt) hin), rfl⟩
      · have HA := adds_any s0 (zs.getD k 0) w hs1.out hkin.out
        rw [hin] at HA
        go_wp2_with (go_at_call 17; refine HA.mono ?_; rintro e w1 ⟨rfl, rfl⟩)
        go_round
        case rel => exact ⟨k + 1, s0 + zs.getD k 0, by omega, by go_num, val_in hin, hin, sum_step hat1.out (by simp; omega) (take_getD zs len k hlt) hin⟩
        case measure => simp [intOf]; omega
    · have hat1 := hide hat
      clear hat hs0 hc hin
      go_wp2
      go_ret2
      exact ⟨sum_is (sum_end hat1.out (by simp; omega)), rfl⟩

theorem rsum_empty (a : Option Addr) (cap : Nat) (w : World) : Calls Try.prog 21 #[.slice a 0 cap] w fun e w' => SumIs e (sm 0 []) ∧ w = w' := by
  go_enter Try.func21, Try.ntmps21
  go_wp2
  refine wp_loop_rounds 1 ?_
  rw [rounds_succ]
  go_wp2
  go_ret2
  exact ⟨rfl, rfl⟩
end Go.Proofs.Ytphiidmcfagemaa
