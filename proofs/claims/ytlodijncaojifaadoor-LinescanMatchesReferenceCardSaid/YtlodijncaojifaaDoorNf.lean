/- Package linescan: acceptDigits; the library's Atoi of a numeral of at most ten digits; Number. -/
import Derived.Test.YtlodijncaojifaaDoorNe
import Derived.Lib.ConvBytes
import Derived.Laws.Strings3
namespace Go.Proofs.YtlodijncaojifaaDoor
open Go.RowKit

/-! acceptDigits -/
theorem nuD_yes {S : ByteArray} {k : Nat} (h : nuD S k = true) : nuI S k < S.size ∧ 49 ≤ bt S (nuI S k) ∧ bt S (nuI S k) ≤ 57 := by
  unfold nuD at h
  rw [Bool.and_eq_true, dg_iff] at h
  obtain ⟨⟨a, b, c⟩, d⟩ := h
  rw [Bool.not_eq_true', decide_eq_false_iff_not] at d
  exact ⟨a, by omega, c⟩
theorem nuD_no {S : ByteArray} {k : Nat} (h : nuD S k = false) : nxB S (nuI S k) < 49 ∨ 57 < nxB S (nuI S k) := by
  by_cases g : nuI S k < S.size
  · rw [nx_lt g]
    refine Classical.byContradiction fun c => ?_
    have : nuD S k = true := by
      unfold nuD
      rw [Bool.and_eq_true, dg_iff, Bool.not_eq_true', decide_eq_false_iff_not]
      exact ⟨⟨g, by omega, by omega⟩, by omega⟩
    rw [this] at h; cases h
  · rw [nx_ge g]; left; decide
theorem nuZ_yes {S : ByteArray} {k : Nat} (h : nuZ S k = true) : k < S.size ∧ bt S k = 48 := by simpa [nuZ] using h
theorem nuZ_no {S : ByteArray} {k : Nat} (h : nuZ S k = false) : nxB S k < 48 ∨ 48 < nxB S k := by
  by_cases g : k < S.size
  · rw [nx_lt g]
    have : ¬ bt S k = 48 := fun c => by rw [show nuZ S k = true by simp [nuZ, g, c]] at h; cases h
    omega
  · rw [nx_ge g]; left; decide
theorem nuN_yes {S : ByteArray} {k : Nat} (h : nuN S k = true) : k < S.size ∧ bt S k = 45 ∧ nuI S k = k + 1 := by
  refine ⟨(by simp [nuN] at h; exact h.1), (by simp [nuN] at h; exact h.2), by unfold nuI; rw [h]; rfl⟩
theorem nuN_no {S : ByteArray} {k : Nat} (h : nuN S k = false) : (nxB S k < 45 ∨ 45 < nxB S k) ∧ nuI S k = k := by
  refine ⟨?_, by unfold nuI; rw [h]; rfl⟩
  by_cases g : k < S.size
  · rw [nx_lt g]
    have : ¬ bt S k = 45 := fun c => by rw [show nuN S k = true by simp [nuN, g, c]] at h; cases h
    omega
  · rw [nx_ge g]; left; decide
theorem abt_minus {S : ByteArray} {b k : Nat} {w : World} (h : w.heap[b]? = some (scO S k false)) (hk : k ≤ S.size) (hs : S.size < big) :
    Calls Tryd.prog 48 #[xp b, .int .u8 45, .int .u8 45] w fun e w' => (∃ r, e = .returned (.bool r)) ∧ w'.heap[b]? = some (scO S (nuI S k) false) ∧ Bt b w w' := by
  cases g : nuN S k
  · obtain ⟨g1, g2⟩ := nuN_no g
    rw [g2]
    exact (abt_no h hk g1).mono fun e w' ⟨h1, h2⟩ => ⟨⟨_, h1⟩, h2⟩
  · obtain ⟨g1, g2, g3⟩ := nuN_yes g
    rw [g3]
    exact (abt_yes h g1 hs (by omega) (by omega)).mono fun e w' ⟨h1, h2⟩ => ⟨⟨_, h1⟩, h2⟩
theorem dig_zero {S : ByteArray} {b k : Nat} {w : World} (h : w.heap[b]? = some (scO S k false)) (hs : S.size < big) (hz : nuZ S k = true) :
    Calls Tryd.prog 30 #[xp b] w fun e w' => e = .returned (.tuple #[]) ∧ w'.heap[b]? = some (scO S (nuK S k) false) ∧ Bt b w w' := by
  obtain ⟨z1, z2⟩ := nuZ_yes hz
  rw [show nuK S k = k + 1 by unfold nuK; rw [hz]; rfl]
  have hA := abt_yes h z1 hs (f := 48) (l := 48) (by omega) (by omega)
  clear z1 z2 hz
  go_enter Tryd.func30, Tryd.ntmps30
  go_wp2_with fail
  refine hA.mono ?_
  rintro e w1 ⟨rfl, hr, hb⟩
  go_wp2_with fail
  first | go_end0 | refine bodyPost_ret (results_none rfl _ _ _) rfl ?_
  exact ⟨rfl, hr, hb⟩
theorem dig_no {S : ByteArray} {b k : Nat} {w : World} (h : w.heap[b]? = some (scO S k false)) (hk : k ≤ S.size) (hs : S.size < big) (hz : nuZ S k = false) (hd : nuD S k = false) :
    Calls Tryd.prog 30 #[xp b] w fun e w' => e = .panicked [sgP] ∧ w'.heap[b]? = some (scO S (nuK S k) false) ∧ Bt b w w' := by
  have hA := abt_no h hk (f := 48) (l := 48) (nuZ_no hz)
  have hq := nuI_le S k hk
  have hno := nuD_no hd
  rw [show nuK S k = nuI S k by unfold nuK; rw [hz, hd]; rfl]
  have HB := fun (u : World) (h : u.heap[b]? = some (scO S k false)) => abt_minus h hk hs
  generalize nuI S k = i0 at *
  go_enter Tryd.func30, Tryd.ntmps30
  go_wp2_with fail
  refine hA.mono ?_
  rintro e w1 ⟨rfl, hr1, hb1⟩
  go_wp2_with fail
  refine (HB _ hr1).mono ?_
  rintro e w2 ⟨⟨r, rfl⟩, hr2, hb2⟩
  go_wp2_with fail
  refine (abt_no hr2 hq hno).mono ?_
  rintro e w3 ⟨rfl, hr3, hb3⟩
  go_wp2_with fail
  exact ⟨rfl, rfl, hr3, (hb1.trans hb2).trans hb3⟩
theorem dig_ok {S : ByteArray} {b k : Nat} {w : World} (h : w.heap[b]? = some (scO S k false)) (hk : k ≤ S.size) (hs : S.size < big) (hz : nuZ S k = false) (hd : nuD S k = true) :
    Calls Tryd.prog 30 #[xp b] w fun e w' => e = .returned (.tuple #[]) ∧ w'.heap[b]? = some (scO S (nuK S k) false) ∧ Bt b w w' := by
  have hA := abt_no h hk (f := 48) (l := 48) (nuZ_no hz)
  have hq := nuI_le S k hk
  obtain ⟨y1, y2, y3⟩ := nuD_yes hd
  have y4 : dg S (nuI S k) = true := dg_iff.2 ⟨y1, by omega, y3⟩
  rw [show nuK S k = nuI S k + dgs S (nuI S k) 10 by unfold nuK; rw [hz, hd]; rfl]
  have HB := fun (u : World) (h : u.heap[b]? = some (scO S k false)) => abt_minus h hk hs
  generalize nuI S k = i0 at *
  clear hz hd
  go_enter Tryd.func30, Tryd.ntmps30
  go_wp2_with fail
  refine hA.mono ?_
  rintro e w1 ⟨rfl, hr1, hb1⟩
  go_wp2_with fail
  refine (HB _ hr1).mono ?_
  rintro e w2 ⟨⟨r, rfl⟩, hr2, hb2⟩
  go_wp2_with fail
  refine (abt_yes hr2 y1 hs y2 y3).mono ?_
  rintro e w3 ⟨rfl, hr3, hb3⟩
  have hb := (hb1.trans hb2).trans hb3
  clear hr1 hb1 hr2 hb2 hb3 hA
  have K4 := Lib.hid y4
  clear y1 y2 y3 y4
  go_wp2_with fail
  go_loopw [10] (fun i wr => ∃ j : Nat, j ≤ 9 ∧ i = .int .i64 j ∧ wr.heap[b]? = some (scO S (i0 + 1 + j) false) ∧ Bt b w wr ∧ ∀ p, p < j + 1 → dg S (i0 + p) = true) (fun i _ => 9 - (intOf i).toNat)
  case atStart => exact ⟨0, by omega, rfl, hr3, hb, fun p hp => by rw [show i0 + p = i0 by omega]; exact K4.out⟩
  case round =>
    obtain ⟨j, hj, rfl, hr, hbj, hall⟩ := hrel
    have HA := Lib.hid hall
    clear hall
    have le := (dg_iff.1 (HA.out j (by omega))).1
    by_cases j9 : j < 9
    · have d1 : decide ((j : Int) < 9) = true := dtrue (by omega)
      have d2 : decide (j < 9) = true := dtrue j9
      cases g : dg S (i0 + (j + 1))
      · have hn : nxB S (i0 + 1 + j) < 48 ∨ 57 < nxB S (i0 + 1 + j) := by
          by_cases q : i0 + 1 + j < S.size
          · rw [nx_lt q]
            refine Classical.byContradiction fun c => ?_
            rw [dg_iff.2 ⟨(by omega : i0 + (j + 1) < S.size), by rw [show i0 + (j + 1) = i0 + 1 + j by omega]; omega, by rw [show i0 + (j + 1) = i0 + 1 + j by omega]; omega⟩] at g
            cases g
          · rw [nx_ge q]; left; decide
        have G := Lib.hid g
        clear g
        go_wp2_with fail
        refine (abt_no hr (by omega) hn).mono ?_
        rintro e w4 ⟨rfl, hr4, hb4⟩
        go_wp2_with fail
        first | go_end0 | refine bodyPost_ret (results_none rfl _ _ _) rfl ?_
        rw [dgs_eq (m := j + 1) (by omega) HA.out (.inr G.out), show i0 + (j + 1) = i0 + 1 + j by omega]
        exact ⟨rfl, hr4, hbj.trans hb4⟩
      · obtain ⟨q1, q2, q3⟩ := dg_iff.1 g
        rw [show i0 + (j + 1) = i0 + 1 + j by omega] at q1 q2 q3
        have G := Lib.hid g
        clear g
        go_wp2_with fail
        refine (abt_yes hr q1 hs q2 q3).mono ?_
        rintro e w4 ⟨rfl, hr4, hb4⟩
        clear q1 q2 q3
        go_wp2_with fail
        go_roundw
        case rel =>
          refine ⟨j + 1, by omega, by go_num, hr4, hbj.trans hb4, fun p hp => ?_⟩
          by_cases q : p < j + 1
          · exact HA.out p q
          · rw [show p = j + 1 by omega]; exact G.out
        case measure => simp [intOf]; omega
    · obtain rfl : j = 9 := by omega
      go_wp2_with fail
      first | go_end0 | refine bodyPost_ret (results_none rfl _ _ _) rfl ?_
      rw [dgs_eq (m := 10) (by omega) HA.out (.inl rfl)]
      exact ⟨rfl, hr, hbj⟩
end Go.Proofs.YtlodijncaojifaaDoor
