/- What earlier stages proved: Nf Ng Nh Ni. -/
import Derived.Test.YtkhicgafhbecfaaGreatDoorM1
import Derived.Lib.ConvBytes
import Derived.Laws.Strings3
import Derived.Deep.RegionHeld3
namespace Go.Proofs.YtkhicgafhbecfaaGreatDoor
open Go.RowKit

theorem nuD_yes {S : ByteArray} {k : Nat} (h : nuD S k = true) : nuI S k < S.size ∧ 49 ≤ bt S (nuI S k) ∧ bt S (nuI S k) ≤ 57 := by
  unfold nuD at h
  rw [Bool.and_eq_true, dg_iff] at h
  obtain ⟨⟨a, b, c⟩, d⟩ := h
  rw [Bool.not_eq_true', decide_eq_false_iff_not] at d
  exact ⟨a, by omega, c⟩
theorem nuD_no {S : ByteArray} {k : Nat} (h : nuD S k = false) : nxB S (nuI S k) < 49 ∨ 57 < nxB S (nuI S k) := by
  by_cases g : nuI S k < S.size
  · rw [nx_lt g]
    refine Classical.byContradiction fun c => ?_
    have : nuD S k = true := by
      unfold nuD
      rw [Bool.and_eq_true, dg_iff, Bool.not_eq_true', decide_eq_false_iff_not]
      exact ⟨⟨g, by omega, by omega⟩, by omega⟩
    rw [this] at h; cases h
  · rw [nx_ge g]; left; decide
theorem nuZ_yes {S : ByteArray} {k : Nat} (h : nuZ S k = true) : k < S.size ∧ bt S k = 48 := by simpa [nuZ] using h
theorem nuZ_no {S : ByteArray} {k : Nat} (h : nuZ S k = false) : nxB S k < 48 ∨ 48 < nxB S k := by
  by_cases g : k < S.size
  · rw [nx_lt g]
    have : ¬ bt S k = 48 := fun c => by rw [show nuZ S k = true by simp [nuZ, g, c]] at h; cases h
    omega
  · rw [nx_ge g]; left; decide
theorem nuN_yes {S : ByteArray} {k : Nat} (h : nuN S k = true) : k < S.size ∧ bt S k = 45 ∧ nuI S k = k + 1 := by
  refine ⟨(by simp [nuN] at h; exact h.1), (by simp [nuN] at h; exact h.2), by unfold nuI; rw [h]; rfl⟩
theorem nuN_no {S : ByteArray} {k : Nat} (h : nuN S k = false) : (nxB S k < 45 ∨ 45 < nxB S k) ∧ nuI S k = k := by
  refine ⟨?_, by unfold nuI; rw [h]; rfl⟩
  by_cases g : k < S.size
  · rw [nx_lt g]
    have : ¬ bt S k = 45 := fun c => by rw [show nuN S k = true by simp [nuN, g, c]] at h; cases h
    omega
  · rw [nx_ge g]; left; decide
theorem abt_minus {S : ByteArray} {b k : Nat} {w : World} (h : w.heap[b]? = some (scO S k false)) (hk : k ≤ S.size) (hs : S.size < big) :
    Calls Tryz.prog 86 #[xp b, .int .u8 45, .int .u8 45] w fun e w' => (∃ r, e = .returned (.bool r)) ∧ w'.heap[b]? = some (scO S (nuI S k) false) ∧ Bt b w w' := by
  cases g : nuN S k
  · obtain ⟨g1, g2⟩ := nuN_no g
    rw [g2]
    exact (abt_no h hk g1).mono fun e w' ⟨h1, h2⟩ => ⟨⟨_, h1⟩, h2⟩
  · obtain ⟨g1, g2, g3⟩ := nuN_yes g
    rw [g3]
    exact (abt_yes h g1 hs (by omega) (by omega)).mono fun e w' ⟨h1, h2⟩ => ⟨⟨_, h1⟩, h2⟩
theorem dig_zero {S : ByteArray} {b k : Nat} {w : World} (h : w.heap[b]? = some (scO S k false)) (hs : S.size < big) (hz : nuZ S k = true) :
    Calls Tryz.prog 70 #[xp b] w fun e w' => e = .returned (.tuple #[]) ∧ w'.heap[b]? = some (scO S (nuK S k) false) ∧ Bt b w w' := by
  obtain ⟨z1, z2⟩ := nuZ_yes hz
  rw [show nuK S k = k + 1 by unfold nuK; rw [hz]; rfl]
  have hA := abt_yes h z1 hs (f := 48) (l := 48) (by omega) (by omega)
  clear z1 z2 hz
  go_enter Tryz.func70, Tryz.ntmps70
  go_wp2_with fail
  refine hA.mono ?_
  rintro e w1 ⟨rfl, hr, hb⟩
  go_wp2_with fail
  first | go_end0 | refine bodyPost_ret (results_none rfl _ _ _) rfl ?_
  exact ⟨rfl, hr, hb⟩
theorem dig_no {S : ByteArray} {b k : Nat} {w : World} (h : w.heap[b]? = some (scO S k false)) (hk : k ≤ S.size) (hs : S.size < big) (hz : nuZ S k = false) (hd : nuD S k = false) :
    Calls Tryz.prog 70 #[xp b] w fun e w' => e = .panicked [sgP] ∧ w'.heap[b]? = some (scO S (nuK S k) false) ∧ Bt b w w' := by
  have hA := abt_no h hk (f := 48) (l := 48) (nuZ_no hz)
  have hq := nuI_le S k hk
  have hno := nuD_no hd
  rw [show nuK S k = nuI S k by unfold nuK; rw [hz, hd]; rfl]
  have HB := fun (u : World) (h : u.heap[b]? = some (scO S k false)) => abt_minus h hk hs
  generalize nuI S k = i0 at *
  go_enter Tryz.func70, Tryz.ntmps70
  go_wp2_with fail
  refine hA.mono ?_
  rintro e w1 ⟨rfl, hr1, hb1⟩
  go_wp2_with fail
  refine (HB _ hr1).mono ?_
  rintro e w2 ⟨⟨r, rfl⟩, hr2, hb2⟩
  go_wp2_with fail
  refine (abt_no hr2 hq hno).mono ?_
  rintro e w3 ⟨rfl, hr3, hb3⟩
  go_wp2_with fail
  exact ⟨rfl, rfl, hr3, (hb1.trans hb2).trans hb3⟩
theorem dig_ok {S : ByteArray} {b k : Nat} {w : World} (h : w.heap[b]? = some (scO S k false)) (hk : k ≤ S.size) (hs : S.size < big) (hz : nuZ S k = false) (hd : nuD S k = true) :
    Calls Tryz.prog 70 #[xp b] w fun e w' => e = .returned (.tuple #[]) ∧ w'.heap[b]? = some (scO S (nuK S k) false) ∧ Bt b w w' := by
  have hA := abt_no h hk (f := 48) (l := 48) (nuZ_no hz)
  have hq := nuI_le S k hk
  obtain ⟨y1, y2, y3⟩ := nuD_yes hd
  have y4 : dg S (nuI S k) = true := dg_iff.2 ⟨y1, by omega, y3⟩
  rw [show nuK S k = nuI S k + dgs S (nuI S k) 10 by unfold nuK; rw [hz, hd]; rfl]
  have HB := fun (u : World) (h : u.heap[b]? = some (scO S k false)) => abt_minus h hk hs
  generalize nuI S k = i0 at *
  clear hz hd
  go_enter Tryz.func70, Tryz.ntmps70
  go_wp2_with fail
  refine hA.mono ?_
  rintro e w1 ⟨rfl, hr1, hb1⟩
  go_wp2_with fail
  refine (HB _ hr1).mono ?_
  rintro e w2 ⟨⟨r, rfl⟩, hr2, hb2⟩
  go_wp2_with fail
  refine (abt_yes hr2 y1 hs y2 y3).mono ?_
  rintro e w3 ⟨rfl, hr3, hb3⟩
  have hb := (hb1.trans hb2).trans hb3
  clear hr1 hb1 hr2 hb2 hb3 hA
  have K4 := Lib.hid y4
  clear y1 y2 y3 y4
  go_wp2_with fail
  go_loopw [10] (fun i wr => ∃ j : Nat, j ≤ 9 ∧ i = .int .i64 j ∧ wr.heap[b]? = some (scO S (i0 + 1 + j) false) ∧ Bt b w wr ∧ ∀ p, p < j + 1 → dg S (i0 + p) = true) (fun i _ => 9 - (intOf i).toNat)
  case atStart => exact ⟨0, by omega, rfl, hr3, hb, fun p hp => by rw [show i0 + p = i0 by omega]; exact K4.out⟩
  case round =>
    obtain ⟨j, hj, rfl, hr, hbj, hall⟩ := hrel
    have HA := Lib.hid hall
    clear hall
    have le := (dg_iff.1 (HA.out j (by omega))).1
    by_cases j9 : j < 9
    · have d1 : decide ((j : Int) < 9) = true := dtrue (by omega)
      have d2 : decide (j < 9) = true := dtrue j9
      cases g : dg S (i0 + (j + 1))
      · have hn : nxB S (i0 + 1 + j) < 48 ∨ 57 < nxB S (i0 + 1 + j) := by
          by_cases q : i0 + 1 + j < S.size
          · rw [nx_lt q]
            refine Classical.byContradiction fun c => ?_
            rw [dg_iff.2 ⟨(by omega : i0 + (j + 1) < S.size), by rw [show i0 + (j + 1) = i0 + 1 + j by omega]; omega, by rw [show i0 + (j + 1) = i0 + 1 + j by omega]; omega⟩] at g
            cases g
          · rw [nx_ge q]; left; decide
        have G := Lib.hid g
        clear g
        go_wp2_with fail
        refine (abt_no hr (by omega) hn).mono ?_
        rintro e w4 ⟨rfl, hr4, hb4⟩
        go_wp2_with fail
        first | go_end0 | refine bodyPost_ret (results_none rfl _ _ _) rfl ?_
        rw [dgs_eq (m := j + 1) (by omega) HA.out (.inr G.out), show i0 + (j + 1) = i0 + 1 + j by omega]
        exact ⟨rfl, hr4, hbj.trans hb4⟩
      · obtain ⟨q1, q2, q3⟩ := dg_iff.1 g
        rw [show i0 + (j + 1) = i0 + 1 + j by omega] at q1 q2 q3
        have G := Lib.hid g
        clear g
        go_wp2_with fail
        refine (abt_yes hr q1 hs q2 q3).mono ?_
        rintro e w4 ⟨rfl, hr4, hb4⟩
        clear q1 q2 q3
        go_wp2_with fail
        go_roundw
        case rel =>
          refine ⟨j + 1, by omega, by go_num, hr4, hbj.trans hb4, fun p hp => ?_⟩
          by_cases q : p < j + 1
          · exact HA.out p q
          · rw [show p = j + 1 by omega]; exact G.out
        case measure => simp [intOf]; omega
    · obtain rfl : j = 9 := by omega
      go_wp2_with fail
      first | go_end0 | refine bodyPost_ret (results_none rfl _ _ _) rfl ?_
      rw [dgs_eq (m := 10) (by omega) HA.out (.inl rfl)]
      exact ⟨rfl, hr, hbj⟩
end Go.Proofs.YtkhicgafhbecfaaGreatDoor

namespace Go.Proofs.YtkhicgafhbecfaaGreatDoor
open Go.RowKit

theorem below_bytes (w : World) (e : TypeId) (s : ByteArray) : Below w.heap.size w (Lib.bytesWorld w e s) :=
  ⟨rfl, rfl, rfl, by rw [Lib.bytesWorld_size]; omega, fun j hj => Lib.bytesWorld_at_old w e s j hj⟩
theorem vl_ext {S : ByteArray} {k m i : Nat} : ∀ {n : Nat}, k + i + n ≤ m → vl (S.extract k m) i n = vl S (k + i) n := by
  intro n
  induction n with
  | zero => intro _; rfl
  | succ n ih => intro h; rw [vl_succ, vl_succ, ih (by omega), bt_ext (by omega), show k + (i + n) = k + i + n by omega]
theorem dg_ext {S : ByteArray} {k m i : Nat} (h : k + i < m) (hm : m ≤ S.size) : dg (S.extract k m) i = dg S (k + i) := by
  unfold dg
  rw [bt_ext h, ext_size (by omega) hm, dtrue (show i < m - k by omega), dtrue (show k + i < S.size by omega)]
/-- The loop over the bytes of a string, as the walk meets it. -/
theorem cvt_str (w : World) (T : ByteArray) : (convert 9 62 (.string T)).run Tryz.prog w = .ok (.slice (some ⟨w.heap.size, 0, none⟩) T.size (grownCap w T.size 0 5)) (Lib.bytesWorld w 5 T) :=
  Lib.run_convert_string_bytes (P := Tryz.prog) w 9 62 5 T (u := .string) Tryz.underlying9 Tryz.underlying62 Tryz.underlying5
theorem cvt_cell (w : World) (T : ByteArray) (j : Nat) (hj : j < T.size) : (Lib.bytesWorld w 5 T).cell? ⟨w.heap.size, j, none⟩ = some (.int .u8 (bt T j)) := Lib.bytesWorld_cell w 5 T j hj
set_option maxHeartbeats 1000000 in
set_option maxRecDepth 100000 in
theorem iat_pos {T : ByteArray} (h1 : 1 ≤ T.size) (h2 : T.size ≤ 10) (hd : ∀ j, j < T.size → dg T (0 + j) = true) (w : World) :
    Calls Tryz.prog 87 #[.string T] w fun e w' => e = .returned (.tuple #[.int .i64 (vl T 0 T.size), .nilIface]) ∧ Below w.heap.size w w' := by
  have hx := idx_str T 0 (by omega) (by omega)
  have hb0 := dg_iff.1 (hd 0 (by omega))
  rw [Nat.add_zero] at hb0
  obtain ⟨-, hb1, hb2⟩ := hb0
  have h45 : (bt T (0 : Int).toNat == 45) = false := beq_eq_false_iff_ne.2 (by show ¬ bt T 0 = 45; omega)
  have h43 : (bt T (0 : Int).toNat == 43) = false := beq_eq_false_iff_ne.2 (by show ¬ bt T 0 = 43; omega)
  have hcv := cvt_str w T
  have hB := cvt_cell w T
  have hW := below_bytes w 5 T
  generalize Lib.bytesWorld w 5 T = W1 at *
  have HB := Lib.hid hB
  have HD := Lib.hid hd
  generalize bt T (0 : Int).toNat = x0 at *
  clear hB hd hb1 hb2
  go_enter Tryz.func87, Tryz.ntmps87
  go_wp2
  go_loop [49, 6] (fun vi vn => ∃ j : Nat, j ≤ T.size ∧ vi = .int .i64 j ∧ vn = .int .i64 (vl T 0 j)) (fun vi _ => T.size - (intOf vi).toNat)
  case atStart => exact ⟨0, Nat.zero_le _, rfl, rfl⟩
  case round =>
    obtain ⟨j, hj, rfl, rfl⟩ := hrel
    have hv := vl_lt (S := T) (i := 0) (m := j) (fun p hp => HD.out p (by omega)) (by omega)
    by_cases hlt : j < T.size
    · have hc := HB.out j hlt
      obtain ⟨-, q1, q2⟩ := dg_iff.1 (HD.out j hlt)
      rw [Nat.zero_add] at q1 q2
      have E := Lib.hid (vl_succ T 0 j)
      rw [Nat.zero_add] at E
      generalize bt T j = x at *
      generalize vl T 0 j = acc at *
      go_wp2
      go_round
      case rel => exact ⟨j + 1, by omega, by go_num, by rw [E.out]; first | go_num | (congr 1; omega)⟩
      case measure => simp [intOf]; omega
    · obtain rfl : j = T.size := by omega
      go_wp2
      go_ret2
      exact ⟨rfl, hW⟩
set_option maxHeartbeats 1000000 in
set_option maxRecDepth 100000 in
theorem iat_neg {T : ByteArray} (h1 : 2 ≤ T.size) (h2 : T.size ≤ 11) (h0 : bt T 0 = 45) (hd : ∀ j, j < T.size - 1 → dg T (1 + j) = true) (w : World) :
    Calls Tryz.prog 87 #[.string T] w fun e w' => e = .returned (.tuple #[.int .i64 (- vl T 1 (T.size - 1)), .nilIface]) ∧ Below w.heap.size w w' := by
  have hx := idx_str T 0 (by omega) (by omega)
  have h45 : (bt T (0 : Int).toNat == 45) = true := beq_iff_eq.2 h0
  have hsl : ∀ W, (Instr.slice 9 (.string T) (some (.int .i64 1)) none none).run Tryz.prog W = .ok (.string (T.extract 1 T.size)) W := fun W => by
    rw [run_slice_string_from_if W 9 T .i64 _ Tryz.underlying9, if_pos ⟨by omega, by omega⟩]
    rfl
  have hus : (T.extract 1 T.size).size = T.size - 1 := ext_size (by omega) (Nat.le_refl _)
  have hU : ∀ j, j < T.size - 1 → dg (T.extract 1 T.size) (0 + j) = true := fun j hj => by rw [dg_ext (by omega) (Nat.le_refl _), Nat.zero_add]; exact hd j hj
  have hfin : vl (T.extract 1 T.size) 0 (T.size - 1) = vl T 1 (T.size - 1) := vl_ext (by omega)
  rw [← hfin, ← hus]
  rw [← hus] at hU
  have hul : 1 ≤ (T.extract 1 T.size).size ∧ (T.extract 1 T.size).size ≤ 10 := by omega
  generalize T.extract 1 T.size = U at *
  obtain ⟨u1, u2⟩ := hul
  have hcv := cvt_str w U
  have hB := cvt_cell w U
  have hW := below_bytes w 5 U
  generalize Lib.bytesWorld w 5 U = W1 at *
  have HB := Lib.hid hB
  have HD := Lib.hid hU
  generalize bt T (0 : Int).toNat = x0 at *
  clear hB hd hU hus hfin h0
  go_enter Tryz.func87, Tryz.ntmps87
  go_wp2
  go_loop [49, 6] (fun vi vn => ∃ j : Nat, j ≤ U.size ∧ vi = .int .i64 j ∧ vn = .int .i64 (vl U 0 j)) (fun vi _ => U.size - (intOf vi).toNat)
  case atStart => exact ⟨0, Nat.zero_le _, rfl, rfl⟩
  case round =>
    obtain ⟨j, hj, rfl, rfl⟩ := hrel
    have hv := vl_lt (S := U) (i := 0) (m := j) (fun p hp => HD.out p (by omega)) (by omega)
    by_cases hlt : j < U.size
    · have hc := HB.out j hlt
      obtain ⟨-, q1, q2⟩ := dg_iff.1 (HD.out j hlt)
      rw [Nat.zero_add] at q1 q2
      have E := Lib.hid (vl_succ U 0 j)
      rw [Nat.zero_add] at E
      generalize bt U j = x at *
      generalize vl U 0 j = acc at *
      go_wp2
      go_round
      case rel => exact ⟨j + 1, by omega, by go_num, by rw [E.out]; first | go_num | (congr 1; omega)⟩
      case measure => simp [intOf]; omega
    · obtain rfl : j = U.size := by omega
      go_wp2
      go_ret2
      exact ⟨rfl, hW⟩
set_option maxRecDepth 100000 in
theorem neq_nil25 (w : World) : (binOp .neq 66 .nilIface .nilIface).run Tryz.prog w = .ok (.bool false) w := by kernel_rfl
theorem at25_of {T : ByteArray} {v : Int} {w : World} (h : Calls Tryz.prog 87 #[.string T] w fun e w' => e = .returned (.tuple #[.int .i64 v, .nilIface]) ∧ Below w.heap.size w w') :
    Calls Tryz.prog 71 #[.string T] w fun e w' => e = .returned (.tuple #[.int .i64 v, .nilIface]) ∧ Below w.heap.size w w' := by
  have hnn := neq_nil25
  go_enter Tryz.func71, Tryz.ntmps71
  go_wp2_with fail
  refine h.mono ?_
  rintro e w1 ⟨rfl, hb⟩
  go_wp2_with fail
  go_ret2
  exact ⟨rfl, hb⟩
/-- The numeral that a scan has accepted, as the library reads it. -/
theorem at25_any {S : ByteArray} {k : Nat} (hk : k ≤ S.size) (hg : nuB S k = false) (w : World) :
    Calls Tryz.prog 71 #[.string (S.extract k (nuK S k))] w fun e w' => e = .returned (.tuple #[.int .i64 (nuV S k), .nilIface]) ∧ Below w.heap.size w w' := by
  have hle := nuK_le S k hk
  cases hz : nuZ S k
  · cases hd : nuD S k
    · unfold nuB at hg; rw [hz, hd] at hg; cases hg
    · obtain ⟨y1, y2, y3⟩ := nuD_yes hd
      have y4 : dg S (nuI S k) = true := dg_iff.2 ⟨y1, by omega, y3⟩
      have m1 : 1 ≤ dgs S (nuI S k) 10 := by
        show 1 ≤ if dg S (nuI S k) then dgs S (nuI S k + 1) 9 + 1 else 0
        rw [y4, if_pos rfl]; omega
      have m2 := dgs_le S (nuI S k) 10
      have eK : nuK S k = nuI S k + dgs S (nuI S k) 10 := by unfold nuK; rw [hz, hd]; rfl
      have ha := dgs_all S 10 (nuI S k)
      cases hn : nuN S k
      · obtain ⟨-, eI⟩ := nuN_no hn
        have eV : nuV S k = vl S k (dgs S k 10) := by unfold nuV; rw [hz, hd, hn, eI]; rfl
        rw [eI] at eK ha m1 m2
        have es : (S.extract k (nuK S k)).size = dgs S k 10 := by rw [ext_size hle.1 hle.2, eK]; omega
        have := iat_pos (T := S.extract k (nuK S k)) (by omega) (by omega) (fun j hj => by rw [dg_ext (by omega) hle.2, Nat.zero_add]; exact ha j (by omega)) w
        rw [es, vl_ext (by omega), Nat.add_zero, ← eV] at this
        exact at25_of this
      · obtain ⟨n1, n2, eI⟩ := nuN_yes hn
        have eV : nuV S k = - vl S (k + 1) (dgs S (k + 1) 10) := by unfold nuV; rw [hz, hd, hn, eI]; rfl
        rw [eI] at eK ha m1 m2
        have es : (S.extract k (nuK S k)).size = dgs S (k + 1) 10 + 1 := by rw [ext_size hle.1 hle.2, eK]; omega
        have := iat_neg (T := S.extract k (nuK S k)) (by omega) (by omega) (by rw [bt_ext (by omega)]; exact n2) (fun j hj => by rw [dg_ext (by omega) hle.2, show k + (1 + j) = k + 1 + j by omega]; exact ha j (by omega)) w
        rw [es, Nat.add_sub_cancel, vl_ext (by omega), ← eV] at this
        exact at25_of this
  · obtain ⟨z1, z2⟩ := nuZ_yes hz
    have eK : nuK S k = k + 1 := by unfold nuK; rw [hz]; rfl
    have eV : nuV S k = 0 := by unfold nuV; rw [hz]; rfl
    have es : (S.extract k (nuK S k)).size = 1 := by rw [ext_size hle.1 hle.2, eK]; omega
    have hb : bt (S.extract k (nuK S k)) 0 = 48 := by rw [bt_ext (by omega)]; exact z2
    have := iat_pos (T := S.extract k (nuK S k)) (by omega) (by omega) (fun j hj => by
      rw [show 0 + j = 0 by omega, dg_ext (by omega) hle.2]
      exact dg_iff.2 ⟨z1, by rw [Nat.add_zero, z2]; decide, by rw [Nat.add_zero, z2]; decide⟩) w
    rw [es, show vl (S.extract k (nuK S k)) 0 1 = 0 by show 10 * 0 + (bt (S.extract k (nuK S k)) (0 + 0) - 48) = 0; rw [hb]; decide, ← eV] at this
    exact at25_of this
end Go.Proofs.YtkhicgafhbecfaaGreatDoor

namespace Go.Proofs.YtkhicgafhbecfaaGreatDoor
open Go.RowKit

theorem ext_run (S : ByteArray) (k m : Nat) (h1 : k ≤ m) (h2 : m ≤ S.size) (w : World) : (Instr.slice 9 (.string S) (some (.int .i64 k)) (some (.int .i64 m)) none).run Tryz.prog w = .ok (.string (S.extract k m)) w := by
  rw [run_slice_string w 9 S .i64 .i64 (k : Int) (m : Int) Tryz.underlying9 (by omega) (by omega) (by omega)]
  rfl
/-- What a walk reads of a scanner and of the box with its pointer. -/
def ScB (W : World) (p b : Nat) (S : ByteArray) (k : Nat) (u : World) : Prop :=
  u.cell? ⟨p, 0, none⟩ = some (xp b) ∧ u.cell? ⟨b, 0, none⟩ = some (.string S) ∧ u.cell? ⟨b, 1, none⟩ = some (.int .i64 k) ∧ Below W.heap.size W u
theorem ScB.on {W : World} {p b : Nat} {S : ByteArray} {k : Nat} {u u' : World} (h : ScB W p b S k u) (hb : Below u.heap.size u u') : ScB W p b S k u' :=
  ⟨cell_below h.1 hb, cell_below h.2.1 hb, cell_below h.2.2.1 hb, below_on h.2.2.2 hb⟩
theorem nu_bad {S : ByteArray} {b k : Nat} {w : World} (h : w.heap[b]? = some (scO S k true)) :
    Calls Tryz.prog 44 #[xp b] w fun e w' => e = .returned (.int .i64 0) ∧ Below w.heap.size w w' := by
  have hmf : ∀ (fn : Fn) (first cap : Array Value) (w : World), (Instr.makeFunc fn first cap).run Tryz.prog w = .ok (.func fn first cap) w := fun _ _ _ _ => rfl
  go_enter_defers Tryz.func44, Tryz.ntmps44
  go_wp2_with fail
  have hr := row_kept h (al1 w (bx1 b))
  refine (mbg_bad hr).mono ?_
  rintro e w1 ⟨rfl, rfl⟩
  refine leaves_cons (f := 69) (args := #[xp w.heap.size]) (by simp) (by simp [go_sem]) ?_
  refine (nuc25_cat (cell_new w _ _ _ rfl) hr []).mono ?_
  rintro e u' w'' ⟨rfl, rfl, rfl⟩
  exact ⟨_, results_tmp rfl _ _ _, rfl, ((al1 w (bx1 b)).trans (same_bad hr)).drew⟩
theorem dig_yes {S : ByteArray} {b k : Nat} {w : World} (h : w.heap[b]? = some (scO S k false)) (hk : k ≤ S.size) (hs : S.size < big) (hg : nuB S k = false) :
    Calls Tryz.prog 70 #[xp b] w fun e w' => e = .returned (.tuple #[]) ∧ w'.heap[b]? = some (scO S (nuK S k) false) ∧ Bt b w w' := by
  cases hz : nuZ S k
  · cases hd : nuD S k
    · unfold nuB at hg; rw [hz, hd] at hg; cases hg
    · exact dig_ok h hk hs hz hd
  · exact dig_zero h hs hz
theorem nuB_yes {S : ByteArray} {k : Nat} (h : nuB S k = true) : nuZ S k = false ∧ nuD S k = false := by
  unfold nuB at h
  cases a : nuZ S k <;> cases b : nuD S k <;> simp_all
theorem nu_no {S : ByteArray} {b k : Nat} {w : World} (h : w.heap[b]? = some (scO S k false)) (hk : k ≤ S.size) (hs : S.size < big) (hg : nuB S k = true) :
    Calls Tryz.prog 44 #[xp b] w fun e w' => e = .returned (.int .i64 0) ∧ w'.heap[b]? = some (scO S (nuK S k) true) ∧ Bt b w w' := by
  have hmf : ∀ (fn : Fn) (first cap : Array Value) (w : World), (Instr.makeFunc fn first cap).run Tryz.prog w = .ok (.func fn first cap) w := fun _ _ _ _ => rfl
  obtain ⟨hz, hd⟩ := nuB_yes hg
  have HD := fun (u : World) (h : u.heap[b]? = some (scO S k false)) => dig_no h hk hs hz hd
  generalize nuK S k = K at *
  clear hz hd hg hk hs
  have hl := row_lt h
  go_enter_defers Tryz.func44, Tryz.ntmps44
  go_wp2_with fail
  have hr := row_kept h (al1 w (bx1 b))
  have hb := Bt.al b w (bx1 b)
  have hp := cell_new w #[xp b] 44 _ rfl
  generalize w.alloc (bx1 b) = u at *
  refine (mbg_ok hr).mono ?_
  rintro e w1 ⟨rfl, rfl⟩
  obtain ⟨c0, c1, c2, f0, f1, f2, hl2⟩ := sc_facts hr
  go_wp2_with fail
  refine (HD _ hr).mono ?_
  rintro e w1 ⟨rfl, hr1, hb1⟩
  refine leaves_cons (f := 69) (args := #[xp w.heap.size]) (by simp) (by simp [go_sem]) ?_
  refine (nuc25_cat (b := b) (hb1.cell (by omega) hp) hr1 []).mono ?_
  rintro e u' w'' ⟨rfl, rfl, rfl⟩
  exact ⟨_, results_tmp rfl _ _ _, rfl, sc_bad hr1, (hb.trans hb1).trans (Bt.set b w1 2 _).drew⟩
theorem nu_ok {S : ByteArray} {b k : Nat} {w : World} (h : w.heap[b]? = some (scO S k false)) (hk : k ≤ S.size) (hs : S.size < big) (hg : nuB S k = false) :
    Calls Tryz.prog 44 #[xp b] w fun e w' => e = .returned (.int .i64 (nuV S k)) ∧ w'.heap[b]? = some (scO S (nuK S k) false) ∧ Bt b w w' := by
  have hmf : ∀ (fn : Fn) (first cap : Array Value) (w : World), (Instr.makeFunc fn first cap).run Tryz.prog w = .ok (.func fn first cap) w := fun _ _ _ _ => rfl
  have HD := fun (u : World) (h : u.heap[b]? = some (scO S k false)) => dig_yes h hk hs hg
  have HA := at25_any hk hg
  have hle := nuK_le S k hk
  have HS := ext_run S k (nuK S k) hle.1 hle.2
  generalize nuK S k = K at *
  generalize nuV S k = V at *
  generalize S.extract k K = T at *
  clear hg hk hs hle
  have hl := row_lt h
  go_enter_defers Tryz.func44, Tryz.ntmps44
  go_wp2_with fail
  have hr := row_kept h (al1 w (bx1 b))
  have hb := Bt.al b w (bx1 b)
  have hp := cell_new w #[xp b] 44 _ rfl
  generalize w.alloc (bx1 b) = u at *
  refine (mbg_ok hr).mono ?_
  rintro e w1 ⟨rfl, rfl⟩
  obtain ⟨c0, c1, c2, f0, f1, f2, hl2⟩ := sc_facts hr
  go_wp2_with fail
  refine (HD _ hr).mono ?_
  rintro e w1 ⟨rfl, hr1, hb1⟩
  have hp1 := hb1.cell (show w.heap.size ≠ b by omega) hp
  obtain ⟨d0, d1, -, -, -, -, -⟩ := sc_facts hr1
  have hb2 := hb.trans hb1
  clear c0 c1 c2 f0 f1 f2 hl2 hr hb hp hb1
  have HC := Lib.hid (fun u (hu : ScB w1 w.heap.size b S K u) => (HA u).mono fun e w' ⟨h1, h2⟩ => (⟨h1, hu.on h2⟩ : e = Ending.returned (.tuple #[.int .i64 V, .nilIface]) ∧ ScB w1 w.heap.size b S K w'))
  have H1 := Lib.hid (⟨hp1, d0, d1, (Below.refl _ _).drew⟩ : ScB w1 w.heap.size b S K w1.drew)
  clear HA
  go_wp2_with fail
  go_region_held3 (fun u => u.cell? ⟨w.heap.size, 0, none⟩ = some (xp b) ∧ u.cell? ⟨b, 0, none⟩ = some (.string S) ∧ u.cell? ⟨b, 1, none⟩ = some (.int .i64 K) ∧ Below w1.heap.size w1 u)
    (first | exact H1.out | assumption)
    (first | (go_at_call 71; refine (HC.out _ (by assumption)).mono ?_; rintro e1 w2 ⟨rfl, hs1⟩))
  go_wp2_with fail
  have hb3 := hb2.trans (.of_below hs1.2.2.2)
  have hr3 := row_kept hr1 hs1.2.2.2
  refine leaves_cons (f := 69) (args := #[xp w.heap.size]) (by simp) (by simp [go_sem]) ?_
  refine (nuc25_idl (x := xp b) hs1.1).mono ?_
  rintro e u' w'' ⟨rfl, rfl, rfl⟩
  exact ⟨_, results_tmp rfl _ _ _, rfl, hr3, hb3.drew⟩
end Go.Proofs.YtkhicgafhbecfaaGreatDoor

namespace Go.Proofs.YtkhicgafhbecfaaGreatDoor
open Go.RowKit

theorem beg_any (s : ByteArray) (w : World) (hs : s.size < big) : Calls Tryz.prog 119 #[.string s] w fun e w' => e = .returned (.bool (idn s || idn (s ++ ⟨#[97]⟩))) ∧ Below w.heap.size w w' := by
  have h9 : s.size < 4611686018427387904 := hs
  have hadd : ∀ u, (Op.stringOp .add s ⟨#[97]⟩).run Tryz.prog u = .ok (.string (s ++ ⟨#[97]⟩)) u := fun u => by
    rw [run_string_add_if, if_neg (by show ¬ s.size + 1 > 9223372036854775807; omega)]
  have H1 := fun u => p17id_any s u
  have H2 := fun u => p17id_any (s ++ ⟨#[97]⟩) u
  cases h : idn s
  · rw [h] at H1
    go_enter Tryz.func119, Tryz.ntmps119
    go_wp2_with fail
    refine (H1 _).mono ?_
    rintro e w1 ⟨rfl, hb1⟩
    go_wp2_with fail
    refine (H2 _).mono ?_
    rintro e w2 ⟨rfl, hb2⟩
    go_wp2_with fail
    go_ret
    exact ⟨rfl, below_on hb1 hb2⟩
  · rw [h] at H1
    go_enter Tryz.func119, Tryz.ntmps119
    go_wp2_with fail
    refine (H1 _).mono ?_
    rintro e w1 ⟨rfl, hb1⟩
    go_wp2_with fail
    go_ret
    exact ⟨rfl, hb1⟩
theorem id_bad {S : ByteArray} {b k : Nat} {w : World} (h : w.heap[b]? = some (scO S k true)) :
    Calls Tryz.prog 109 #[xp b] w fun e w' => e = .returned (.string ⟨#[]⟩) ∧ Below w.heap.size w w' := by
  have hmf : ∀ (fn : Fn) (first cap : Array Value) (w : World), (Instr.makeFunc fn first cap).run Tryz.prog w = .ok (.func fn first cap) w := fun _ _ _ _ => rfl
  go_enter_defers Tryz.func109, Tryz.ntmps109
  go_wp2_with fail
  have hr := row_kept h (al1 w (bx1 b))
  refine (mbg_bad hr).mono ?_
  rintro e w1 ⟨rfl, rfl⟩
  refine leaves_cons (f := 118) (args := #[xp w.heap.size]) (by simp) (by simp [go_sem]) ?_
  refine (idc25_cat (cell_new w _ _ _ rfl) hr []).mono ?_
  rintro e u' w'' ⟨rfl, rfl, rfl⟩
  exact ⟨_, results_tmp rfl _ _ _, rfl, ((al1 w (bx1 b)).trans (same_bad hr)).drew⟩
theorem idB_no {S : ByteArray} {k : Nat} (h : idB S k = false) : idV S k = S.extract k (k + idL S k) := by unfold idV; rw [h]; rfl
theorem idB_yes {S : ByteArray} {k : Nat} (h : idB S k = true) : idV S k = ⟨#[]⟩ := by unfold idV; rw [h]; rfl
set_option maxHeartbeats 1000000 in
set_option maxRecDepth 100000 in
theorem id_ok {S : ByteArray} {b k : Nat} {w : World} (h : w.heap[b]? = some (scO S k false)) (hk : k ≤ S.size) (hs : S.size < big) (hg : idB S k = false) :
    Calls Tryz.prog 109 #[xp b] w fun e w' => e = .returned (.string (S.extract k (k + idL S k))) ∧ w'.heap[b]? = some (scO S (k + idL S k) false) ∧ Bt b w w' := by
  have hmf : ∀ (fn : Fn) (first cap : Array Value) (w : World), (Instr.makeFunc fn first cap).run Tryz.prog w = .ok (.func fn first cap) w := fun _ _ _ _ => rfl
  have hl := row_lt h
  have HE := Lib.hid (fun (j : Nat) (hj : k + j ≤ S.size) => ext_run S k (k + j) (by omega) hj)
  have HL := Lib.hid (fun (j : Nat) (h : (∀ i, i < j → idP S k i) ∧ ¬ idP S k j) => idL_eq h.1 h.2)
  have HI := Lib.hid (fun (j : Nat) (h : (∀ i, i < j → idP S k i) ∧ ¬ idP S k j) (u : World) => show Calls Tryz.prog 120 #[.string (S.extract k (k + j))] u fun e w' => e = .returned (.bool true) ∧ Below u.heap.size u w' by
    have := p17id_any (S.extract k (k + j)) u
    rw [← idL_eq h.1 h.2] at this ⊢
    rwa [idn_fin hk, hg] at this)
  have HG := Lib.hid (fun (j : Nat) (h : k + j < S.size) (h2 : ∀ i, i < j → idP S k i) (u : World) => show Calls Tryz.prog 119 #[.string (S.extract k (k + (j + 1)))] u fun e w' => e = .returned (.bool (decide (idP S k j))) ∧ Below u.heap.size u w' by
    have := beg_any (S.extract k (k + (j + 1))) u (by rw [ext_size (by omega) (by omega)]; have : S.size < 4611686018427387904 := hs; show k + (j + 1) - k < 4611686018427387904; omega)
    rwa [begins_ext h h2] at this)
  clear hg
  go_enter_defers Tryz.func109, Tryz.ntmps109
  go_wp2_with fail
  have hr := row_kept h (al1 w (bx1 b))
  have hb := Bt.al b w (bx1 b)
  have hp := cell_new w #[xp b] 44 _ rfl
  generalize w.alloc (bx1 b) = u at *
  refine (mbg_ok hr).mono ?_
  rintro e w1 ⟨rfl, rfl⟩
  obtain ⟨c0, c1, c2, f0, f1, f2, hl2⟩ := sc_facts hr
  go_wp2_with fail
  clear c0 c1 c2 f0 f1 f2 hl2
  go_loopw [] (fun wr => ∃ j K : Nat, Hid (K = k + j) ∧ K ≤ S.size ∧ (∀ i, i < j → idP S k i) ∧ wr.heap[b]? = some (scO S K false) ∧ Bt b w wr ∧ wr.cell? ⟨w.heap.size, 0, none⟩ = some (xp b)) (fun wr => S.size - (intOf ((wr.cell? ⟨b, 1, none⟩).getD undef)).toNat)
  case atStart => exact ⟨0, k, Lib.hid rfl, hk, fun i hi => absurd hi (by omega), hr, hb, hp⟩
  case round =>
    clear hr hb hp
    obtain ⟨j, K, HK, hj, hall, hr, hb, hp⟩ := hrel
    have HA := Lib.hid hall
    clear hall
    by_cases hlt : K < S.size
    · have hcall := HG.out j (by have := HK.out; omega) HA.out
      have HX := ext_run S k (k + (j + 1)) (by omega) (by have := HK.out; omega)
      rw [show ((k + (j + 1) : Nat) : Int) = (K : Int) + 1 by have := HK.out; omega] at HX
      generalize S.extract k (k + (j + 1)) = T at hcall HX
      obtain ⟨c0, c1, c2, f0, f1, f2, hl2⟩ := sc_facts hr
      have d1 : (K : Int) < (S.size : Int) := by omega
      have d2 : decide (K < S.size) = true := dtrue hlt
      have d3 : decide ((K : Int) < (S.size : Int)) = true := dtrue d1
      have sb : (K : Int) + 1 ≤ 9223372036854775807 := by have : K < 4611686018427387904 := Nat.lt_trans hlt hs; omega
      have sw : IntKind.i64.wrap ((K : Int) + 1) = (K : Int) + 1 := by rw [IntKind.wrap_i64]; omega
      by_cases hq : idP S k j
      · rw [dtrue hq] at hcall
        have HC := Lib.hid (fun u (hu : ScB wr w.heap.size b S K u) => (hcall u).mono fun e w' ⟨h1, h2⟩ => (⟨h1, hu.on h2⟩ : e = Ending.returned (.bool true) ∧ ScB wr w.heap.size b S K w'))
        have H1 := Lib.hid (⟨hp, c0, c1, (Below.refl _ _).drew⟩ : ScB wr w.heap.size b S K wr.drew)
        have HQ := Lib.hid hq
        clear hcall hq
        go_wp2_with fail
        go_region_held3 (fun u => u.cell? ⟨w.heap.size, 0, none⟩ = some (xp b) ∧ u.cell? ⟨b, 0, none⟩ = some (.string S) ∧ u.cell? ⟨b, 1, none⟩ = some (.int .i64 K) ∧ Below wr.heap.size wr u)
          (first | exact H1.out | assumption)
          (first | (go_at_call 119; refine (HC.out _ (by assumption)).mono ?_; rintro e1 w2 ⟨rfl, hs1⟩))
        have hr2 := row_kept hr hs1.2.2.2
        have hb2 := hb.trans (.of_below hs1.2.2.2)
        have hp2 := hs1.1
        obtain ⟨g0, g1, g2, z0, z1, z2, gl⟩ := sc_facts hr2
        clear hs1
        go_wp2_with fail
        go_roundw
        case rel =>
          refine ⟨j + 1, K + 1, Lib.hid (by have := HK.out; omega), by omega, fun i hi => ?_, sc_next hr2, hb2.trans (Bt.set b w2 1 _), (Bt.set b w2 1 _).cell (show w.heap.size ≠ b by omega) hp2⟩
          by_cases q : i < j
          · exact HA.out i q
          · rw [show i = j by omega]; exact HQ.out
        case measure =>
          rw [cell_of_row _ b 1 _ _ _ (sc_next hr2), c1]
          simp [intOf]; omega
      · rw [dfalse hq] at hcall
        have HC := Lib.hid (fun u (hu : ScB wr w.heap.size b S K u) => (hcall u).mono fun e w' ⟨h1, h2⟩ => (⟨h1, hu.on h2⟩ : e = Ending.returned (.bool false) ∧ ScB wr w.heap.size b S K w'))
        have H1 := Lib.hid (⟨hp, c0, c1, (Below.refl _ _).drew⟩ : ScB wr w.heap.size b S K wr.drew)
        have HJ : (∀ i, i < j → idP S k i) ∧ ¬ idP S k j := ⟨HA.out, hq⟩
        replace HJ := Lib.hid HJ
        clear hcall hq
        obtain ⟨w0, hw0⟩ : ∃ w0, w0 = wr := ⟨_, rfl⟩
        rw [← hw0] at H1 HC hr hb hp c0 c1 c2 f0 f1 f2 hl2 ⊢
        clear hw0 wr
        go_wp2_with fail
        go_region_held3 (fun u => u.cell? ⟨w.heap.size, 0, none⟩ = some (xp b) ∧ u.cell? ⟨b, 0, none⟩ = some (.string S) ∧ u.cell? ⟨b, 1, none⟩ = some (.int .i64 K) ∧ Below w0.heap.size w0 u)
          (first | exact H1.out | assumption)
          (first | (go_at_call 119; refine (HC.out _ (by assumption)).mono ?_; rintro e1 wr ⟨rfl, hs1⟩))
        replace hr := row_kept hr hs1.2.2.2
        replace hb := hb.trans (.of_below hs1.2.2.2)
        replace hp := hs1.1
        clear hs1 c0 c1 c2 f0 f1 f2 hl2 H1 HC d1 d2 d3 sb
        replace HJ := HJ.out
        obtain ⟨c0, c1, -, -, -, -, -⟩ := sc_facts hr
        have HS := HE.out j (by rw [← HK.out]; exact hj)
        have HF := HI.out j HJ
        rw [← HK.out] at HS HF
        have HT := HL.out j HJ
        clear HL HI HE
        go_wp2_with fail
        go_quiet (fail)
        go_wp2_with fail
        refine (HF _).mono ?_
        rintro e w3 ⟨rfl, hb3⟩
        go_wp2_with fail
        have hr3 := row_kept (row_dn hr _) hb3
        refine leaves_cons (f := 118) (args := #[xp w.heap.size]) (by simp) (by simp [go_sem]) ?_
        refine (idc25_idl (x := xp b) (cell_below (w := World.drewN wr _) hp hb3)).mono ?_
        rintro e u' w'' ⟨rfl, rfl, rfl⟩
        rw [HT, ← HK.out]
        exact ⟨_, results_tmp rfl _ _ _, rfl, hr3, ((hb.trans (Bt.dn b wr _)).trans (.of_below hb3)).drew⟩
    · have HJ : (∀ i, i < j → idP S k i) ∧ ¬ idP S k j := ⟨HA.out, fun h => hlt (by rw [HK.out]; exact h.1)⟩
      have d1 : ¬ (K : Int) < (S.size : Int) := by omega
      have d2 : decide (K < S.size) = false := dfalse hlt
      have d3 : decide ((K : Int) < (S.size : Int)) = false := dfalse d1
      obtain ⟨c0, c1, c2, f0, f1, f2, hl2⟩ := sc_facts hr
      go_wp2_with fail
      go_quiet (fail)
      replace hr := row_dn hr nq
      replace hb := hb.trans (Bt.dn b wr nq)
      replace hp : (wr.drewN nq).cell? ⟨w.heap.size, 0, none⟩ = some (xp b) := hp
      clear c0 c1 c2 f0 f1 f2 hl2
      generalize wr.drewN nq = wr at *
      clear d1 d2 d3
      obtain ⟨c0, c1, -, -, -, -, -⟩ := sc_facts hr
      have HS := HE.out j (by rw [← HK.out]; exact hj)
      have HF := HI.out j HJ
      rw [← HK.out] at HS HF
      have HT := HL.out j HJ
      clear HL HI HE
      go_wp2_with fail
      go_quiet (fail)
      go_wp2_with fail
      refine (HF _).mono ?_
      rintro e w3 ⟨rfl, hb3⟩
      go_wp2_with fail
      have hr3 := row_kept (row_dn hr _) hb3
      refine leaves_cons (f := 118) (args := #[xp w.heap.size]) (by simp) (by simp [go_sem]) ?_
      refine (idc25_idl (x := xp b) (cell_below (w := World.drewN wr _) hp hb3)).mono ?_
      rintro e u' w'' ⟨rfl, rfl, rfl⟩
      rw [HT, ← HK.out]
      exact ⟨_, results_tmp rfl _ _ _, rfl, hr3, ((hb.trans (Bt.dn b wr _)).trans (.of_below hb3)).drew⟩
set_option maxHeartbeats 1000000 in
set_option maxRecDepth 100000 in
theorem id_no {S : ByteArray} {b k : Nat} {w : World} (h : w.heap[b]? = some (scO S k false)) (hk : k ≤ S.size) (hs : S.size < big) (hg : idB S k = true) :
    Calls Tryz.prog 109 #[xp b] w fun e w' => e = .returned (.string ⟨#[]⟩) ∧ w'.heap[b]? = some (scO S (k + idL S k) true) ∧ Bt b w w' := by
  have hmf : ∀ (fn : Fn) (first cap : Array Value) (w : World), (Instr.makeFunc fn first cap).run Tryz.prog w = .ok (.func fn first cap) w := fun _ _ _ _ => rfl
  have hl := row_lt h
  have HE := Lib.hid (fun (j : Nat) (hj : k + j ≤ S.size) => ext_run S k (k + j) (by omega) hj)
  have HL := Lib.hid (fun (j : Nat) (h : (∀ i, i < j → idP S k i) ∧ ¬ idP S k j) => idL_eq h.1 h.2)
  have HI := Lib.hid (fun (j : Nat) (h : (∀ i, i < j → idP S k i) ∧ ¬ idP S k j) (u : World) => show Calls Tryz.prog 120 #[.string (S.extract k (k + j))] u fun e w' => e = .returned (.bool false) ∧ Below u.heap.size u w' by
    have := p17id_any (S.extract k (k + j)) u
    rw [← idL_eq h.1 h.2] at this ⊢
    rwa [idn_fin hk, hg] at this)
  have HG := Lib.hid (fun (j : Nat) (h : k + j < S.size) (h2 : ∀ i, i < j → idP S k i) (u : World) => show Calls Tryz.prog 119 #[.string (S.extract k (k + (j + 1)))] u fun e w' => e = .returned (.bool (decide (idP S k j))) ∧ Below u.heap.size u w' by
    have := beg_any (S.extract k (k + (j + 1))) u (by rw [ext_size (by omega) (by omega)]; have : S.size < 4611686018427387904 := hs; show k + (j + 1) - k < 4611686018427387904; omega)
    rwa [begins_ext h h2] at this)
  clear hg
  go_enter_defers Tryz.func109, Tryz.ntmps109
  go_wp2_with fail
  have hr := row_kept h (al1 w (bx1 b))
  have hb := Bt.al b w (bx1 b)
  have hp := cell_new w #[xp b] 44 _ rfl
  generalize w.alloc (bx1 b) = u at *
  refine (mbg_ok hr).mono ?_
  rintro e w1 ⟨rfl, rfl⟩
  obtain ⟨c0, c1, c2, f0, f1, f2, hl2⟩ := sc_facts hr
  go_wp2_with fail
  clear c0 c1 c2 f0 f1 f2 hl2
  go_loopw [] (fun wr => ∃ j K : Nat, Hid (K = k + j) ∧ K ≤ S.size ∧ (∀ i, i < j → idP S k i) ∧ wr.heap[b]? = some (scO S K false) ∧ Bt b w wr ∧ wr.cell? ⟨w.heap.size, 0, none⟩ = some (xp b)) (fun wr => S.size - (intOf ((wr.cell? ⟨b, 1, none⟩).getD undef)).toNat)
  case atStart => exact ⟨0, k, Lib.hid rfl, hk, fun i hi => absurd hi (by omega), hr, hb, hp⟩
  case round =>
    clear hr hb hp
    obtain ⟨j, K, HK, hj, hall, hr, hb, hp⟩ := hrel
    have HA := Lib.hid hall
    clear hall
    by_cases hlt : K < S.size
    · have hcall := HG.out j (by have := HK.out; omega) HA.out
      have HX := ext_run S k (k + (j + 1)) (by omega) (by have := HK.out; omega)
      rw [show ((k + (j + 1) : Nat) : Int) = (K : Int) + 1 by have := HK.out; omega] at HX
      generalize S.extract k (k + (j + 1)) = T at hcall HX
      obtain ⟨c0, c1, c2, f0, f1, f2, hl2⟩ := sc_facts hr
      have d1 : (K : Int) < (S.size : Int) := by omega
      have d2 : decide (K < S.size) = true := dtrue hlt
      have d3 : decide ((K : Int) < (S.size : Int)) = true := dtrue d1
      have sb : (K : Int) + 1 ≤ 9223372036854775807 := by have : K < 4611686018427387904 := Nat.lt_trans hlt hs; omega
      have sw : IntKind.i64.wrap ((K : Int) + 1) = (K : Int) + 1 := by rw [IntKind.wrap_i64]; omega
      by_cases hq : idP S k j
      · rw [dtrue hq] at hcall
        have HC := Lib.hid (fun u (hu : ScB wr w.heap.size b S K u) => (hcall u).mono fun e w' ⟨h1, h2⟩ => (⟨h1, hu.on h2⟩ : e = Ending.returned (.bool true) ∧ ScB wr w.heap.size b S K w'))
        have H1 := Lib.hid (⟨hp, c0, c1, (Below.refl _ _).drew⟩ : ScB wr w.heap.size b S K wr.drew)
        have HQ := Lib.hid hq
        clear hcall hq
        go_wp2_with fail
        go_region_held3 (fun u => u.cell? ⟨w.heap.size, 0, none⟩ = some (xp b) ∧ u.cell? ⟨b, 0, none⟩ = some (.string S) ∧ u.cell? ⟨b, 1, none⟩ = some (.int .i64 K) ∧ Below wr.heap.size wr u)
          (first | exact H1.out | assumption)
          (first | (go_at_call 119; refine (HC.out _ (by assumption)).mono ?_; rintro e1 w2 ⟨rfl, hs1⟩))
        have hr2 := row_kept hr hs1.2.2.2
        have hb2 := hb.trans (.of_below hs1.2.2.2)
        have hp2 := hs1.1
        obtain ⟨g0, g1, g2, z0, z1, z2, gl⟩ := sc_facts hr2
        clear hs1
        go_wp2_with fail
        go_roundw
        case rel =>
          refine ⟨j + 1, K + 1, Lib.hid (by have := HK.out; omega), by omega, fun i hi => ?_, sc_next hr2, hb2.trans (Bt.set b w2 1 _), (Bt.set b w2 1 _).cell (show w.heap.size ≠ b by omega) hp2⟩
          by_cases q : i < j
          · exact HA.out i q
          · rw [show i = j by omega]; exact HQ.out
        case measure =>
          rw [cell_of_row _ b 1 _ _ _ (sc_next hr2), c1]
          simp [intOf]; omega
      · rw [dfalse hq] at hcall
        have HC := Lib.hid (fun u (hu : ScB wr w.heap.size b S K u) => (hcall u).mono fun e w' ⟨h1, h2⟩ => (⟨h1, hu.on h2⟩ : e = Ending.returned (.bool false) ∧ ScB wr w.heap.size b S K w'))
        have H1 := Lib.hid (⟨hp, c0, c1, (Below.refl _ _).drew⟩ : ScB wr w.heap.size b S K wr.drew)
        have HJ : (∀ i, i < j → idP S k i) ∧ ¬ idP S k j := ⟨HA.out, hq⟩
        replace HJ := Lib.hid HJ
        clear hcall hq
        obtain ⟨w0, hw0⟩ : ∃ w0, w0 = wr := ⟨_, rfl⟩
        rw [← hw0] at H1 HC hr hb hp c0 c1 c2 f0 f1 f2 hl2 ⊢
        clear hw0 wr
        go_wp2_with fail
        go_region_held3 (fun u => u.cell? ⟨w.heap.size, 0, none⟩ = some (xp b) ∧ u.cell? ⟨b, 0, none⟩ = some (.string S) ∧ u.cell? ⟨b, 1, none⟩ = some (.int .i64 K) ∧ Below w0.heap.size w0 u)
          (first | exact H1.out | assumption)
          (first | (go_at_call 119; refine (HC.out _ (by assumption)).mono ?_; rintro e1 wr ⟨rfl, hs1⟩))
        replace hr := row_kept hr hs1.2.2.2
        replace hb := hb.trans (.of_below hs1.2.2.2)
        replace hp := hs1.1
        clear hs1 c0 c1 c2 f0 f1 f2 hl2 H1 HC d1 d2 d3 sb
        replace HJ := HJ.out
        obtain ⟨c0, c1, -, -, -, -, -⟩ := sc_facts hr
        have HS := HE.out j (by rw [← HK.out]; exact hj)
        have HF := HI.out j HJ
        rw [← HK.out] at HS HF
        have HT := HL.out j HJ
        clear HL HI HE
        go_wp2_with fail
        go_quiet (fail)
        go_wp2_with fail
        refine (HF _).mono ?_
        rintro e w3 ⟨rfl, hb3⟩
        go_wp2_with fail
        have hr3 := row_kept (row_dn hr _) hb3
        refine leaves_cons (f := 118) (args := #[xp w.heap.size]) (by simp) (by simp [go_sem]) ?_
        refine (idc25_cat (b := b) (cell_below (w := World.drewN wr _) hp hb3) hr3 []).mono ?_
        rintro e u' w'' ⟨rfl, rfl, rfl⟩
        rw [HT, ← HK.out]
        exact ⟨_, results_tmp rfl _ _ _, rfl, sc_bad hr3, (((hb.trans (Bt.dn b wr _)).trans (.of_below hb3)).trans (Bt.set b w3 2 _)).drew⟩
    · have HJ : (∀ i, i < j → idP S k i) ∧ ¬ idP S k j := ⟨HA.out, fun h => hlt (by rw [HK.out]; exact h.1)⟩
      have d1 : ¬ (K : Int) < (S.size : Int) := by omega
      have d2 : decide (K < S.size) = false := dfalse hlt
      have d3 : decide ((K : Int) < (S.size : Int)) = false := dfalse d1
      obtain ⟨c0, c1, c2, f0, f1, f2, hl2⟩ := sc_facts hr
      go_wp2_with fail
      go_quiet (fail)
      replace hr := row_dn hr nq
      replace hb := hb.trans (Bt.dn b wr nq)
      replace hp : (wr.drewN nq).cell? ⟨w.heap.size, 0, none⟩ = some (xp b) := hp
      clear c0 c1 c2 f0 f1 f2 hl2
      generalize wr.drewN nq = wr at *
      clear d1 d2 d3
      obtain ⟨c0, c1, -, -, -, -, -⟩ := sc_facts hr
      have HS := HE.out j (by rw [← HK.out]; exact hj)
      have HF := HI.out j HJ
      rw [← HK.out] at HS HF
      have HT := HL.out j HJ
      clear HL HI HE
      go_wp2_with fail
      go_quiet (fail)
      go_wp2_with fail
      refine (HF _).mono ?_
      rintro e w3 ⟨rfl, hb3⟩
      go_wp2_with fail
      have hr3 := row_kept (row_dn hr _) hb3
      refine leaves_cons (f := 118) (args := #[xp w.heap.size]) (by simp) (by simp [go_sem]) ?_
      refine (idc25_cat (b := b) (cell_below (w := World.drewN wr _) hp hb3) hr3 []).mono ?_
      rintro e u' w'' ⟨rfl, rfl, rfl⟩
      rw [HT, ← HK.out]
      exact ⟨_, results_tmp rfl _ _ _, rfl, sc_bad hr3, (((hb.trans (Bt.dn b wr _)).trans (.of_below hb3)).trans (Bt.set b w3 2 _)).drew⟩
end Go.Proofs.YtkhicgafhbecfaaGreatDoor
