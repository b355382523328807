/- The library's Atoi at a numeral of at most ten digits; package linescan's Number. -/
import Derived.Test.YtlodijncaojifaaDoorNf
import Derived.Deep.RegionHeld3
namespace Go.Proofs.YtlodijncaojifaaDoor
open Go.RowKit

theorem below_bytes (w : World) (e : TypeId) (s : ByteArray) : Below w.heap.size w (Lib.bytesWorld w e s) :=
  ⟨rfl, rfl, rfl, by rw [Lib.bytesWorld_size]; omega, fun j hj => Lib.bytesWorld_at_old w e s j hj⟩
theorem vl_ext {S : ByteArray} {k m i : Nat} : ∀ {n : Nat}, k + i + n ≤ m → vl (S.extract k m) i n = vl S (k + i) n := by
  intro n
  induction n with
  | zero => intro _; rfl
  | succ n ih => intro h; rw [vl_succ, vl_succ, ih (by omega), bt_ext (by omega), show k + (i + n) = k + i + n by omega]
theorem dg_ext {S : ByteArray} {k m i : Nat} (h : k + i < m) (hm : m ≤ S.size) : dg (S.extract k m) i = dg S (k + i) := by
  unfold dg
  rw [bt_ext h, ext_size (by omega) hm, dtrue (show i < m - k by omega), dtrue (show k + i < S.size by omega)]
/-- The loop over the bytes of a string, as the walk meets it. -/
theorem cvt_str (w : World) (T : ByteArray) : (convert 9 46 (.string T)).run Tryd.prog w = .ok (.slice (some ⟨w.heap.size, 0, none⟩) T.size (grownCap w T.size 0 5)) (Lib.bytesWorld w 5 T) :=
  Lib.run_convert_string_bytes (P := Tryd.prog) w 9 46 5 T (u := .string) Tryd.underlying9 Tryd.underlying46 Tryd.underlying5
theorem cvt_cell (w : World) (T : ByteArray) (j : Nat) (hj : j < T.size) : (Lib.bytesWorld w 5 T).cell? ⟨w.heap.size, j, none⟩ = some (.int .u8 (bt T j)) := Lib.bytesWorld_cell w 5 T j hj
set_option maxHeartbeats 1000000 in
set_option maxRecDepth 100000 in
theorem iat_pos {T : ByteArray} (h1 : 1 ≤ T.size) (h2 : T.size ≤ 10) (hd : ∀ j, j < T.size → dg T (0 + j) = true) (w : World) :
    Calls Tryd.prog 49 #[.string T] w fun e w' => e = .returned (.tuple #[.int .i64 (vl T 0 T.size), .nilIface]) ∧ Below w.heap.size w w' := by
  have hx := idx_str T 0 (by omega) (by omega)
  have hb0 := dg_iff.1 (hd 0 (by omega))
  rw [Nat.add_zero] at hb0
  obtain ⟨-, hb1, hb2⟩ := hb0
  have h45 : (bt T (0 : Int).toNat == 45) = false := beq_eq_false_iff_ne.2 (by show ¬ bt T 0 = 45; omega)
  have h43 : (bt T (0 : Int).toNat == 43) = false := beq_eq_false_iff_ne.2 (by show ¬ bt T 0 = 43; omega)
  have hcv := cvt_str w T
  have hB := cvt_cell w T
  have hW := below_bytes w 5 T
  generalize Lib.bytesWorld w 5 T = W1 at *
  have HB := Lib.hid hB
  have HD := Lib.hid hd
  generalize bt T (0 : Int).toNat = x0 at *
  clear hB hd hb1 hb2
  go_enter Tryd.func49, Tryd.ntmps49
  go_wp2
  go_loop [49, 6] (fun vi vn => ∃ j : Nat, j ≤ T.size ∧ vi = .int .i64 j ∧ vn = .int .i64 (vl T 0 j)) (fun vi _ => T.size - (intOf vi).toNat)
  case atStart => exact ⟨0, Nat.zero_le _, rfl, rfl⟩
  case round =>
    obtain ⟨j, hj, rfl, rfl⟩ := hrel
    have hv := vl_lt (S := T) (i := 0) (m := j) (fun p hp => HD.out p (by omega)) (by omega)
    by_cases hlt : j < T.size
    · have hc := HB.out j hlt
      obtain ⟨-, q1, q2⟩ := dg_iff.1 (HD.out j hlt)
      rw [Nat.zero_add] at q1 q2
      have E := Lib.hid (vl_succ T 0 j)
      rw [Nat.zero_add] at E
      generalize bt T j = x at *
      generalize vl T 0 j = acc at *
      go_wp2
      go_round
      case rel => exact ⟨j + 1, by omega, by go_num, by rw [E.out]; first | go_num | (congr 1; omega)⟩
      case measure => simp [intOf]; omega
    · obtain rfl : j = T.size := by omega
      go_wp2
      go_ret2
      exact ⟨rfl, hW⟩
set_option maxHeartbeats 1000000 in
set_option maxRecDepth 100000 in
theorem iat_neg {T : ByteArray} (h1 : 2 ≤ T.size) (h2 : T.size ≤ 11) (h0 : bt T 0 = 45) (hd : ∀ j, j < T.size - 1 → dg T (1 + j) = true) (w : World) :
    Calls Tryd.prog 49 #[.string T] w fun e w' => e = .returned (.tuple #[.int .i64 (- vl T 1 (T.size - 1)), .nilIface]) ∧ Below w.heap.size w w' := by
  have hx := idx_str T 0 (by omega) (by omega)
  have h45 : (bt T (0 : Int).toNat == 45) = true := beq_iff_eq.2 h0
  have hsl : ∀ W, (Instr.slice 9 (.string T) (some (.int .i64 1)) none none).run Tryd.prog W = .ok (.string (T.extract 1 T.size)) W := fun W => by
    rw [run_slice_string_from_if W 9 T .i64 _ Tryd.underlying9, if_pos ⟨by omega, by omega⟩]
    rfl
  have hus : (T.extract 1 T.size).size = T.size - 1 := ext_size (by omega) (Nat.le_refl _)
  have hU : ∀ j, j < T.size - 1 → dg (T.extract 1 T.size) (0 + j) = true := fun j hj => by rw [dg_ext (by omega) (Nat.le_refl _), Nat.zero_add]; exact hd j hj
  have hfin : vl (T.extract 1 T.size) 0 (T.size - 1) = vl T 1 (T.size - 1) := vl_ext (by omega)
  rw [← hfin, ← hus]
  rw [← hus] at hU
  have hul : 1 ≤ (T.extract 1 T.size).size ∧ (T.extract 1 T.size).size ≤ 10 := by omega
  generalize T.extract 1 T.size = U at *
  obtain ⟨u1, u2⟩ := hul
  have hcv := cvt_str w U
  have hB := cvt_cell w U
  have hW := below_bytes w 5 U
  generalize Lib.bytesWorld w 5 U = W1 at *
  have HB := Lib.hid hB
  have HD := Lib.hid hU
  generalize bt T (0 : Int).toNat = x0 at *
  clear hB hd hU hus hfin h0
  go_enter Tryd.func49, Tryd.ntmps49
  go_wp2
  go_loop [49, 6] (fun vi vn => ∃ j : Nat, j ≤ U.size ∧ vi = .int .i64 j ∧ vn = .int .i64 (vl U 0 j)) (fun vi _ => U.size - (intOf vi).toNat)
  case atStart => exact ⟨0, Nat.zero_le _, rfl, rfl⟩
  case round =>
    obtain ⟨j, hj, rfl, rfl⟩ := hrel
    have hv := vl_lt (S := U) (i := 0) (m := j) (fun p hp => HD.out p (by omega)) (by omega)
    by_cases hlt : j < U.size
    · have hc := HB.out j hlt
      obtain ⟨-, q1, q2⟩ := dg_iff.1 (HD.out j hlt)
      rw [Nat.zero_add] at q1 q2
      have E := Lib.hid (vl_succ U 0 j)
      rw [Nat.zero_add] at E
      generalize bt U j = x at *
      generalize vl U 0 j = acc at *
      go_wp2
      go_round
      case rel => exact ⟨j + 1, by omega, by go_num, by rw [E.out]; first | go_num | (congr 1; omega)⟩
      case measure => simp [intOf]; omega
    · obtain rfl : j = U.size := by omega
      go_wp2
      go_ret2
      exact ⟨rfl, hW⟩
set_option maxRecDepth 100000 in
theorem neq_nil25 (w : World) : (binOp .neq 58 .nilIface .nilIface).run Tryd.prog w = .ok (.bool false) w := by kernel_rfl
theorem at25_of {T : ByteArray} {v : Int} {w : World} (h : Calls Tryd.prog 49 #[.string T] w fun e w' => e = .returned (.tuple #[.int .i64 v, .nilIface]) ∧ Below w.heap.size w w') :
    Calls Tryd.prog 31 #[.string T] w fun e w' => e = .returned (.tuple #[.int .i64 v, .nilIface]) ∧ Below w.heap.size w w' := by
  have hnn := neq_nil25
  go_enter Tryd.func31, Tryd.ntmps31
  go_wp2_with fail
  refine h.mono ?_
  rintro e w1 ⟨rfl, hb⟩
  go_wp2_with fail
  go_ret2
  exact ⟨rfl, hb⟩
/-- The numeral that a scan has accepted, as the library reads it. -/
theorem at25_any {S : ByteArray} {k : Nat} (hk : k ≤ S.size) (hg : nuB S k = false) (w : World) :
    Calls Tryd.prog 31 #[.string (S.extract k (nuK S k))] w fun e w' => e = .returned (.tuple #[.int .i64 (nuV S k), .nilIface]) ∧ Below w.heap.size w w' := by
  have hle := nuK_le S k hk
  cases hz : nuZ S k
  · cases hd : nuD S k
    · unfold nuB at hg; rw [hz, hd] at hg; cases hg
    · obtain ⟨y1, y2, y3⟩ := nuD_yes hd
      have y4 : dg S (nuI S k) = true := dg_iff.2 ⟨y1, by omega, y3⟩
      have m1 : 1 ≤ dgs S (nuI S k) 10 := by
        show 1 ≤ if dg S (nuI S k) then dgs S (nuI S k + 1) 9 + 1 else 0
        rw [y4, if_pos rfl]; omega
      have m2 := dgs_le S (nuI S k) 10
      have eK : nuK S k = nuI S k + dgs S (nuI S k) 10 := by unfold nuK; rw [hz, hd]; rfl
      have ha := dgs_all S 10 (nuI S k)
      cases hn : nuN S k
      · obtain ⟨-, eI⟩ := nuN_no hn
        have eV : nuV S k = vl S k (dgs S k 10) := by unfold nuV; rw [hz, hd, hn, eI]; rfl
        rw [eI] at eK ha m1 m2
        have es : (S.extract k (nuK S k)).size = dgs S k 10 := by rw [ext_size hle.1 hle.2, eK]; omega
        have := iat_pos (T := S.extract k (nuK S k)) (by omega) (by omega) (fun j hj => by rw [dg_ext (by omega) hle.2, Nat.zero_add]; exact ha j (by omega)) w
        rw [es, vl_ext (by omega), Nat.add_zero, ← eV] at this
        exact at25_of this
      · obtain ⟨n1, n2, eI⟩ := nuN_yes hn
        have eV : nuV S k = - vl S (k + 1) (dgs S (k + 1) 10) := by unfold nuV; rw [hz, hd, hn, eI]; rfl
        rw [eI] at eK ha m1 m2
        have es : (S.extract k (nuK S k)).size = dgs S (k + 1) 10 + 1 := by rw [ext_size hle.1 hle.2, eK]; omega
        have := iat_neg (T := S.extract k (nuK S k)) (by omega) (by omega) (by rw [bt_ext (by omega)]; exact n2) (fun j hj => by rw [dg_ext (by omega) hle.2, show k + (1 + j) = k + 1 + j by omega]; exact ha j (by omega)) w
        rw [es, Nat.add_sub_cancel, vl_ext (by omega), ← eV] at this
        exact at25_of this
  · obtain ⟨z1, z2⟩ := nuZ_yes hz
    have eK : nuK S k = k + 1 := by unfold nuK; rw [hz]; rfl
    have eV : nuV S k = 0 := by unfold nuV; rw [hz]; rfl
    have es : (S.extract k (nuK S k)).size = 1 := by rw [ext_size hle.1 hle.2, eK]; omega
    have hb : bt (S.extract k (nuK S k)) 0 = 48 := by rw [bt_ext (by omega)]; exact z2
    have := iat_pos (T := S.extract k (nuK S k)) (by omega) (by omega) (fun j hj => by
      rw [show 0 + j = 0 by omega, dg_ext (by omega) hle.2]
      exact dg_iff.2 ⟨z1, by rw [Nat.add_zero, z2]; decide, by rw [Nat.add_zero, z2]; decide⟩) w
    rw [es, show vl (S.extract k (nuK S k)) 0 1 = 0 by show 10 * 0 + (bt (S.extract k (nuK S k)) (0 + 0) - 48) = 0; rw [hb]; decide, ← eV] at this
    exact at25_of this
end Go.Proofs.YtlodijncaojifaaDoor
