/- The reference of package linescan: Number of a good state. -/
import Derived.Test.YtlodijncaojifaaDoorNq
namespace Go.Proofs.YtlodijncaojifaaDoor
open Go.RowKit

theorem rdg_at (S : ByteArray) (i : Nat) (x : Int) (h : x = (i : Int)) (b : Bool) (hb : dg S i = b) (w : World) : Calls Tryd.prog 32 #[.string S, .int .i64 x] w fun e w' => e = .returned (.bool b) ∧ w = w' := by subst h; subst hb; exact rdg_any S i w
theorem rfa_at (S : ByteArray) (k i : Nat) (x : Int) (h : x = (i : Int)) (bad : Bool) (w : World) : Calls Tryd.prog 28 #[sv S k bad, .int .i64 x] w fun e w' => e = .returned (sv S i true) ∧ Below w.heap.size w w' := by subst h; exact rfa_any S k i bad w
theorem idx_at25 {S : ByteArray} {i : Nat} {x : Int} (h : x = (i : Int)) (hi : i < S.size) (w : World) : (Instr.index 9 (.string S) (.int .i64 x)).run Tryd.prog w = .ok (.int .u8 (bt S i)) w := by
  subst h
  have := idx_str S i (by omega) (by omega) w
  rwa [Int.toNat_natCast] at this
theorem nu_z {S : ByteArray} {k : Nat} (h : nuZ S k = true) : nuK S k = k + 1 ∧ nuB S k = false ∧ nuV S k = 0 := by
  unfold nuK nuB nuV; rw [h]; exact ⟨rfl, rfl, rfl⟩
theorem nu_f {S : ByteArray} {k : Nat} (h : nuZ S k = false) (hd : nuD S k = false) : nuK S k = nuI S k ∧ nuB S k = true ∧ nuV S k = 0 := by
  unfold nuK nuB nuV; rw [h, hd]; exact ⟨rfl, rfl, rfl⟩
theorem nu_d {S : ByteArray} {k : Nat} (h : nuZ S k = false) (hd : nuD S k = true) : nuK S k = nuI S k + dgs S (nuI S k) 10 ∧ nuB S k = false ∧ nuV S k = (if nuN S k then - vl S (nuI S k) (dgs S (nuI S k) 10) else vl S (nuI S k) (dgs S (nuI S k) 10)) := by
  unfold nuK nuB nuV; rw [h, hd]; exact ⟨rfl, rfl, rfl⟩
theorem vl_word {S : ByteArray} {i j : Nat} (h : ∀ p, p < j → dg S (i + p) = true) (hj : j ≤ 10) : 0 ≤ vl S i j ∧ vl S i j < 10000000000 := vl_lt h hj
set_option maxHeartbeats 2000000 in
set_option maxRecDepth 100000 in
theorem rnu_zero {S : ByteArray} {k : Nat} {w : World} (hs : S.size < big) (hz : nuZ S k = true) :
    Calls Tryd.prog 13 #[sv S k false] w fun e w' => e = .returned (.tuple #[sv S (nuK S k) (nuB S k), .int .i64 (nuV S k)]) ∧ Below w.heap.size w w' := by
  have hs' : S.size < 4611686018427387904 := hs
  clear hs
  obtain ⟨z1, z2⟩ := nuZ_yes hz
  have V := Lib.hid (nu_z hz)
  have x1 := fun u => idx_at25 (S := S) (i := k) (x := (k : Int)) rfl z1 u
  have d1 : decide (k < S.size) = true := dtrue z1
  have q1 : (bt S k == 48) = true := beq_iff_eq.2 z2
  generalize bt S k = x at *
  clear hz z2
  have wk : (k : Int) + 1 ≤ 9223372036854775807 := by omega
  go_enter Tryd.func13, Tryd.ntmps13
  go_wp2
  exact bodyPost_ret (v := .tuple #[.agg #[.string S, .int .i64 ((k : Int) + 1), .bool false], .int .i64 0]) (by simp [results, Tryd.results13, go_sem]) rfl ⟨by rw [V.out.1, V.out.2.1, V.out.2.2]; rfl, al2 w _ _⟩
set_option maxHeartbeats 2000000 in
set_option maxRecDepth 100000 in
theorem rnu_end {S : ByteArray} {k : Nat} {w : World} (hs : S.size < big) (hk : ¬ k < S.size) (hz : nuZ S k = false) (hn : nuN S k = false) (hd : nuD S k = false) :
    Calls Tryd.prog 13 #[sv S k false] w fun e w' => e = .returned (.tuple #[sv S (nuK S k) (nuB S k), .int .i64 (nuV S k)]) ∧ Below w.heap.size w w' := by
  have hs' : S.size < 4611686018427387904 := hs
  clear hs
  have V := Lib.hid (nu_f hz hd)
  rw [(nuN_no hn).2] at V
  have d1 : decide (k < S.size) = false := dfalse hk
  have hg := fun u => rdg_at S k (k : Int) rfl false (dg_no fun h => hk h.1) u
  have hf := fun u => rfa_at S k k (k : Int) rfl false u
  clear hz hn hd
  go_enter Tryd.func13, Tryd.ntmps13
  go_wp2_with fail
  refine (hg _).mono ?_
  rintro e w1 ⟨rfl, rfl⟩
  go_wp2_with fail
  refine (hf _).mono ?_
  rintro e v ⟨rfl, hb⟩
  have rR := row_kept (row_new1 w (stO S k false) stZ) hb
  have bl := below_on (al2 w (stO S k false) stZ) hb
  obtain ⟨e0, e1, e2, y0, y1, y2, -⟩ := st_facts rR
  clear hb
  go_wp2_with fail
  obtain ⟨u9, hu9⟩ : ∃ u9, u9 = ((v.setCell ⟨w.heap.size + 1, 0, none⟩ (.string S)).setCell ⟨w.heap.size + 1, 1, none⟩ (.int .i64 ((k : Int)))).setCell ⟨w.heap.size + 1, 2, none⟩ (.bool true) := ⟨_, rfl⟩
  obtain ⟨k0, k1, k2, kb⟩ := st_put (w := w) _ _ _ rR bl (by omega) hu9
  rw [← hu9]
  exact bodyPost_ret (v := .tuple #[.agg #[.string S, .int .i64 ((k : Int)), .bool true], .int .i64 0]) (by simp [results, Tryd.results13, go_sem, k0, k1, k2]) rfl ⟨by rw [V.out.1, V.out.2.1, V.out.2.2], kb⟩
set_option maxHeartbeats 2000000 in
set_option maxRecDepth 100000 in
theorem rnu_neg_no {S : ByteArray} {k : Nat} {w : World} (hs : S.size < big) (hk : k < S.size) (h48 : ¬ bt S k = 48) (h45 : bt S k = 45) (hz : nuZ S k = false) (hn : nuN S k = true) (hd : nuD S k = false) (hg0 : dg S (k + 1) = false) :
    Calls Tryd.prog 13 #[sv S k false] w fun e w' => e = .returned (.tuple #[sv S (nuK S k) (nuB S k), .int .i64 (nuV S k)]) ∧ Below w.heap.size w w' := by
  have hs' : S.size < 4611686018427387904 := hs
  clear hs
  have V := Lib.hid (nu_f hz hd)
  rw [(nuN_yes hn).2.2] at V
  have x1 := fun u => idx_at25 (S := S) (i := k) (x := (k : Int)) rfl hk u
  have d1 : decide (k < S.size) = true := dtrue hk
  have q1 : (bt S k == 48) = false := beq_eq_false_iff_ne.2 h48
  have q2 : (bt S k == 45) = true := beq_iff_eq.2 h45
  have hg := fun u => rdg_at S (k + 1) ((k : Int) + 1) (by omega) false hg0 u
  have hf := fun u => rfa_at S k (k + 1) ((k : Int) + 1) (by omega) false u
  have wk : (k : Int) + 1 ≤ 9223372036854775807 := by omega
  generalize bt S k = x at x1 q1 q2
  clear hz hn hd h45 h48 hg0
  go_enter Tryd.func13, Tryd.ntmps13
  go_wp2_with fail
  refine (hg _).mono ?_
  rintro e w1 ⟨rfl, rfl⟩
  go_wp2_with fail
  refine (hf _).mono ?_
  rintro e v ⟨rfl, hb⟩
  have rR := row_kept (row_new1 w (stO S k false) stZ) hb
  have bl := below_on (al2 w (stO S k false) stZ) hb
  obtain ⟨e0, e1, e2, y0, y1, y2, -⟩ := st_facts rR
  clear hb
  go_wp2_with fail
  obtain ⟨u9, hu9⟩ : ∃ u9, u9 = ((v.setCell ⟨w.heap.size + 1, 0, none⟩ (.string S)).setCell ⟨w.heap.size + 1, 1, none⟩ (.int .i64 ((k : Int) + 1))).setCell ⟨w.heap.size + 1, 2, none⟩ (.bool true) := ⟨_, rfl⟩
  obtain ⟨k0, k1, k2, kb⟩ := st_put (w := w) _ _ _ rR bl (by omega) hu9
  rw [← hu9]
  exact bodyPost_ret (v := .tuple #[.agg #[.string S, .int .i64 ((k : Int) + 1), .bool true], .int .i64 0]) (by simp [results, Tryd.results13, go_sem, k0, k1, k2]) rfl ⟨by rw [V.out.1, V.out.2.1, V.out.2.2]; rfl, kb⟩
set_option maxHeartbeats 2000000 in
set_option maxRecDepth 100000 in
theorem rnu_neg_nz {S : ByteArray} {k : Nat} {w : World} (hs : S.size < big) (hk : k < S.size) (h48 : ¬ bt S k = 48) (h45 : bt S k = 45) (hz : nuZ S k = false) (hn : nuN S k = true) (hd : nuD S k = false) (hg0 : dg S (k + 1) = true) (h48b : bt S (k + 1) = 48) :
    Calls Tryd.prog 13 #[sv S k false] w fun e w' => e = .returned (.tuple #[sv S (nuK S k) (nuB S k), .int .i64 (nuV S k)]) ∧ Below w.heap.size w w' := by
  have hs' : S.size < 4611686018427387904 := hs
  clear hs
  have V := Lib.hid (nu_f hz hd)
  rw [(nuN_yes hn).2.2] at V
  have x1 := fun u => idx_at25 (S := S) (i := k) (x := (k : Int)) rfl hk u
  have d1 : decide (k < S.size) = true := dtrue hk
  have q1 : (bt S k == 48) = false := beq_eq_false_iff_ne.2 h48
  have q2 : (bt S k == 45) = true := beq_iff_eq.2 h45
  have hg := fun u => rdg_at S (k + 1) ((k : Int) + 1) (by omega) true hg0 u
  have hf := fun u => rfa_at S k (k + 1) ((k : Int) + 1) (by omega) false u
  have il := (dg_iff.1 hg0).1
  have x2 := fun u => idx_at25 (S := S) (i := k + 1) (x := (k : Int) + 1) (by omega) il u
  have q3 : (bt S (k + 1) == 48) = true := beq_iff_eq.2 h48b
  generalize bt S (k + 1) = y at x2 q3
  have wk : (k : Int) + 1 ≤ 9223372036854775807 := by omega
  generalize bt S k = x at x1 q1 q2
  clear hz hn hd h45 h48 hg0 h48b
  go_enter Tryd.func13, Tryd.ntmps13
  go_wp2_with fail
  refine (hg _).mono ?_
  rintro e w1 ⟨rfl, rfl⟩
  go_wp2_with fail
  refine (hf _).mono ?_
  rintro e v ⟨rfl, hb⟩
  have rR := row_kept (row_new1 w (stO S k false) stZ) hb
  have bl := below_on (al2 w (stO S k false) stZ) hb
  obtain ⟨e0, e1, e2, y0, y1, y2, -⟩ := st_facts rR
  clear hb
  go_wp2_with fail
  obtain ⟨u9, hu9⟩ : ∃ u9, u9 = ((v.setCell ⟨w.heap.size + 1, 0, none⟩ (.string S)).setCell ⟨w.heap.size + 1, 1, none⟩ (.int .i64 ((k : Int) + 1))).setCell ⟨w.heap.size + 1, 2, none⟩ (.bool true) := ⟨_, rfl⟩
  obtain ⟨k0, k1, k2, kb⟩ := st_put (w := w) _ _ _ rR bl (by omega) hu9
  rw [← hu9]
  exact bodyPost_ret (v := .tuple #[.agg #[.string S, .int .i64 ((k : Int) + 1), .bool true], .int .i64 0]) (by simp [results, Tryd.results13, go_sem, k0, k1, k2]) rfl ⟨by rw [V.out.1, V.out.2.1, V.out.2.2]; rfl, kb⟩
set_option maxHeartbeats 2000000 in
set_option maxRecDepth 100000 in
theorem rnu_neg_ok {S : ByteArray} {k : Nat} {w : World} (hs : S.size < big) (hk : k < S.size) (h48 : ¬ bt S k = 48) (h45 : bt S k = 45) (hz : nuZ S k = false) (hn : nuN S k = true) (hd : nuD S k = true) :
    Calls Tryd.prog 13 #[sv S k false] w fun e w' => e = .returned (.tuple #[sv S (nuK S k) (nuB S k), .int .i64 (nuV S k)]) ∧ Below w.heap.size w w' := by
  have hs' : S.size < 4611686018427387904 := hs
  clear hs
  have V := nu_d hz hd
  rw [(nuN_yes hn).2.2, hn] at V
  obtain ⟨y1, y2, y3⟩ := nuD_yes hd
  rw [(nuN_yes hn).2.2] at y1 y2 y3
  have x1 := fun u => idx_at25 (S := S) (i := k) (x := (k : Int)) rfl hk u
  have d1 : decide (k < S.size) = true := dtrue hk
  have q1 : (bt S k == 48) = false := beq_eq_false_iff_ne.2 h48
  have q2 : (bt S k == 45) = true := beq_iff_eq.2 h45
  have hg := fun u => rdg_at S (k + 1) ((k : Int) + 1) (by omega) true (dg_iff.2 ⟨y1, by omega, y3⟩) u
  have x2 := fun u => idx_at25 (S := S) (i := k + 1) (x := (k : Int) + 1) (by omega) y1 u
  have q3 : (bt S (k + 1) == 48) = false := beq_eq_false_iff_ne.2 (by omega)
  generalize bt S (k + 1) = y at x2 q3
  have wk : (k : Int) + 1 ≤ 9223372036854775807 := by omega
  obtain ⟨i0, hi0⟩ : ∃ i0, i0 = k + 1 := ⟨_, rfl⟩
  rw [← hi0] at V y1
  have HI0 := Lib.hid hi0
  have HV := Lib.hid V
  generalize bt S k = x at x1 q1 q2
  clear hz hn hd h45 h48 y2 y3 V hi0
  go_enter Tryd.func13, Tryd.ntmps13
  go_wp2_with fail
  refine (hg _).mono ?_
  rintro e w1 ⟨rfl, rfl⟩
  clear x1 q1 q2 hg
  go_wp2_with fail
  clear wk x2 q3
  go_loop [4, 6, 7] (fun vi vn vk => ∃ j I : Nat, Hid (I = i0 + j) ∧ j ≤ 10 ∧ vi = .int .i64 I ∧ vn = .int .i64 (vl S i0 j) ∧ vk = .int .i64 j ∧ Hid (∀ p, p < j → dg S (i0 + p) = true)) (fun _ _ vk => 10 - (intOf vk).toNat)
  case atStart => exact ⟨0, i0, Lib.hid rfl, by omega, by rw [HI0.out]; rfl, rfl, rfl, Lib.hid fun p hp => absurd hp (by omega)⟩
  case round =>
    obtain ⟨j, I, HI, hj, rfl, rfl, rfl, HA⟩ := hrel
    have hv := vl_word HA.out hj
    by_cases j9 : j < 10
    · have d2 : decide (j < 10) = true := dtrue j9
      have d3 : decide ((j : Int) < 10) = true := dtrue (by omega)
      cases hq : dg S I
      · have hg := fun u => rdg_at S I (I : Int) rfl false hq u
        have HE := Lib.hid (dgs_eq (by omega) HA.out (.inr (by rw [← HI.out]; exact hq)))
        clear hq
        have EN := Lib.hid (show -(vl S i0 j) = - vl S i0 (dgs S i0 10) by rw [HE.out])
        generalize vl S i0 j = acc at *
        go_wp2_with fail
        refine (hg _).mono ?_
        rintro e w2 ⟨rfl, rfl⟩
        go_wp2_with fail
        exact bodyPost_ret (v := .tuple #[.agg #[.string S, .int .i64 (I : Int), .bool false], .int .i64 (-acc)]) (by simp [results, Tryd.results13, go_sem]) rfl ⟨by rw [HV.out.1, HV.out.2.1, HV.out.2.2, HI.out, EN.out, HE.out]; rfl, al2 w _ _⟩
      · have hg := fun u => rdg_at S I (I : Int) rfl true hq u
        obtain ⟨il, p1, p2⟩ := dg_iff.1 hq
        have HQ := Lib.hid hq
        have x3 := fun u => idx_at25 (S := S) (i := I) (x := (I : Int)) rfl il u
        have EV := Lib.hid (vl_succ S i0 j)
        rw [← HI.out] at EV
        clear hq
        generalize bt S I = x at *
        generalize vl S i0 j = acc at *
        go_wp2_with fail
        refine (hg _).mono ?_
        rintro e w2 ⟨rfl, rfl⟩
        go_wp2_with fail
        go_round
        case rel =>
          refine ⟨j + 1, I + 1, Lib.hid (by rw [HI.out]; omega), by omega, by go_num, by rw [EV.out]; first | go_num | (congr 1; omega), by go_num, Lib.hid fun p hp => ?_⟩
          by_cases q : p < j
          · exact HA.out p q
          · rw [show p = j by omega, ← HI.out]; exact HQ.out
        case measure => simp [intOf]; omega
    · obtain rfl : j = 10 := by omega
      have HE := Lib.hid (dgs_eq (n := 10) (by omega) HA.out (.inl rfl))
      have EN := Lib.hid (show -(vl S i0 10) = - vl S i0 (dgs S i0 10) by rw [HE.out])
      generalize vl S i0 10 = acc at *
      go_wp2_with fail
      exact bodyPost_ret (v := .tuple #[.agg #[.string S, .int .i64 (I : Int), .bool false], .int .i64 (-acc)]) (by simp [results, Tryd.results13, go_sem]) rfl ⟨by rw [HV.out.1, HV.out.2.1, HV.out.2.2, HI.out, EN.out, HE.out]; rfl, al2 w _ _⟩
set_option maxHeartbeats 2000000 in
set_option maxRecDepth 100000 in
theorem rnu_pos_no {S : ByteArray} {k : Nat} {w : World} (hs : S.size < big) (hk : k < S.size) (h48 : ¬ bt S k = 48) (h45 : ¬ bt S k = 45) (hz : nuZ S k = false) (hn : nuN S k = false) (hd : nuD S k = false) (hg0 : dg S (k) = false) :
    Calls Tryd.prog 13 #[sv S k false] w fun e w' => e = .returned (.tuple #[sv S (nuK S k) (nuB S k), .int .i64 (nuV S k)]) ∧ Below w.heap.size w w' := by
  have hs' : S.size < 4611686018427387904 := hs
  clear hs
  have V := Lib.hid (nu_f hz hd)
  rw [(nuN_no hn).2] at V
  have x1 := fun u => idx_at25 (S := S) (i := k) (x := (k : Int)) rfl hk u
  have d1 : decide (k < S.size) = true := dtrue hk
  have q1 : (bt S k == 48) = false := beq_eq_false_iff_ne.2 h48
  have q2 : (bt S k == 45) = false := beq_eq_false_iff_ne.2 h45
  have hg := fun u => rdg_at S (k) ((k : Int)) (by omega) false hg0 u
  have hf := fun u => rfa_at S k (k) ((k : Int)) (by omega) false u
  have wk : (k : Int) + 1 ≤ 9223372036854775807 := by omega
  generalize bt S k = x at x1 q1 q2
  clear hz hn hd h45 h48 hg0
  go_enter Tryd.func13, Tryd.ntmps13
  go_wp2_with fail
  refine (hg _).mono ?_
  rintro e w1 ⟨rfl, rfl⟩
  go_wp2_with fail
  refine (hf _).mono ?_
  rintro e v ⟨rfl, hb⟩
  have rR := row_kept (row_new1 w (stO S k false) stZ) hb
  have bl := below_on (al2 w (stO S k false) stZ) hb
  obtain ⟨e0, e1, e2, y0, y1, y2, -⟩ := st_facts rR
  clear hb
  go_wp2_with fail
  obtain ⟨u9, hu9⟩ : ∃ u9, u9 = ((v.setCell ⟨w.heap.size + 1, 0, none⟩ (.string S)).setCell ⟨w.heap.size + 1, 1, none⟩ (.int .i64 ((k : Int)))).setCell ⟨w.heap.size + 1, 2, none⟩ (.bool true) := ⟨_, rfl⟩
  obtain ⟨k0, k1, k2, kb⟩ := st_put (w := w) _ _ _ rR bl (by omega) hu9
  rw [← hu9]
  exact bodyPost_ret (v := .tuple #[.agg #[.string S, .int .i64 ((k : Int)), .bool true], .int .i64 0]) (by simp [results, Tryd.results13, go_sem, k0, k1, k2]) rfl ⟨by rw [V.out.1, V.out.2.1, V.out.2.2], kb⟩
set_option maxHeartbeats 2000000 in
set_option maxRecDepth 100000 in
theorem rnu_pos_ok {S : ByteArray} {k : Nat} {w : World} (hs : S.size < big) (hk : k < S.size) (h48 : ¬ bt S k = 48) (h45 : ¬ bt S k = 45) (hz : nuZ S k = false) (hn : nuN S k = false) (hd : nuD S k = true) :
    Calls Tryd.prog 13 #[sv S k false] w fun e w' => e = .returned (.tuple #[sv S (nuK S k) (nuB S k), .int .i64 (nuV S k)]) ∧ Below w.heap.size w w' := by
  have hs' : S.size < 4611686018427387904 := hs
  clear hs
  have V := nu_d hz hd
  rw [(nuN_no hn).2, hn] at V
  obtain ⟨y1, y2, y3⟩ := nuD_yes hd
  rw [(nuN_no hn).2] at y1 y2 y3
  have x1 := fun u => idx_at25 (S := S) (i := k) (x := (k : Int)) rfl hk u
  have d1 : decide (k < S.size) = true := dtrue hk
  have q1 : (bt S k == 48) = false := beq_eq_false_iff_ne.2 h48
  have q2 : (bt S k == 45) = false := beq_eq_false_iff_ne.2 h45
  have hg := fun u => rdg_at S (k) ((k : Int)) (by omega) true (dg_iff.2 ⟨y1, by omega, y3⟩) u
  have wk : (k : Int) + 1 ≤ 9223372036854775807 := by omega
  have HV := Lib.hid V
  generalize bt S k = x at x1 q1 q2
  clear hz hn hd h45 h48 y2 y3 V
  go_enter Tryd.func13, Tryd.ntmps13
  go_wp2_with fail
  refine (hg _).mono ?_
  rintro e w1 ⟨rfl, rfl⟩
  clear hg
  go_wp2_with fail
  clear wk x1 q1 q2
  go_loop [4, 6, 7] (fun vi vn vk => ∃ j I : Nat, Hid (I = k + j) ∧ j ≤ 10 ∧ vi = .int .i64 I ∧ vn = .int .i64 (vl S k j) ∧ vk = .int .i64 j ∧ Hid (∀ p, p < j → dg S (k + p) = true)) (fun _ _ vk => 10 - (intOf vk).toNat)
  case atStart => exact ⟨0, k, Lib.hid rfl, by omega, rfl, rfl, rfl, Lib.hid fun p hp => absurd hp (by omega)⟩
  case round =>
    obtain ⟨j, I, HI, hj, rfl, rfl, rfl, HA⟩ := hrel
    have hv := vl_word HA.out hj
    by_cases j9 : j < 10
    · have d2 : decide (j < 10) = true := dtrue j9
      have d3 : decide ((j : Int) < 10) = true := dtrue (by omega)
      cases hq : dg S I
      · have hg := fun u => rdg_at S I (I : Int) rfl false hq u
        have HE := Lib.hid (dgs_eq (by omega) HA.out (.inr (by rw [← HI.out]; exact hq)))
        clear hq
        have EN := Lib.hid (show (vl S k j) = vl S k (dgs S k 10) by rw [HE.out])
        generalize vl S k j = acc at *
        go_wp2_with fail
        refine (hg _).mono ?_
        rintro e w2 ⟨rfl, rfl⟩
        go_wp2_with fail
        exact bodyPost_ret (v := .tuple #[.agg #[.string S, .int .i64 (I : Int), .bool false], .int .i64 (acc)]) (by simp [results, Tryd.results13, go_sem]) rfl ⟨by rw [HV.out.1, HV.out.2.1, HV.out.2.2, HI.out, EN.out, HE.out]; rfl, al2 w _ _⟩
      · have hg := fun u => rdg_at S I (I : Int) rfl true hq u
        obtain ⟨il, p1, p2⟩ := dg_iff.1 hq
        have HQ := Lib.hid hq
        have x3 := fun u => idx_at25 (S := S) (i := I) (x := (I : Int)) rfl il u
        have EV := Lib.hid (vl_succ S k j)
        rw [← HI.out] at EV
        clear hq
        generalize bt S I = x at *
        generalize vl S k j = acc at *
        go_wp2_with fail
        refine (hg _).mono ?_
        rintro e w2 ⟨rfl, rfl⟩
        go_wp2_with fail
        go_round
        case rel =>
          refine ⟨j + 1, I + 1, Lib.hid (by rw [HI.out]; omega), by omega, by go_num, by rw [EV.out]; first | go_num | (congr 1; omega), by go_num, Lib.hid fun p hp => ?_⟩
          by_cases q : p < j
          · exact HA.out p q
          · rw [show p = j by omega, ← HI.out]; exact HQ.out
        case measure => simp [intOf]; omega
    · obtain rfl : j = 10 := by omega
      have HE := Lib.hid (dgs_eq (n := 10) (by omega) HA.out (.inl rfl))
      have EN := Lib.hid (show (vl S k 10) = vl S k (dgs S k 10) by rw [HE.out])
      generalize vl S k 10 = acc at *
      go_wp2_with fail
      exact bodyPost_ret (v := .tuple #[.agg #[.string S, .int .i64 (I : Int), .bool false], .int .i64 (acc)]) (by simp [results, Tryd.results13, go_sem]) rfl ⟨by rw [HV.out.1, HV.out.2.1, HV.out.2.2, HI.out, EN.out, HE.out]; rfl, al2 w _ _⟩
theorem rnu_ok {S : ByteArray} {k : Nat} (hs : S.size < big) (w : World) :
    Calls Tryd.prog 13 #[sv S k false] w fun e w' => e = .returned (.tuple #[sv S (nuK S k) (nuB S k), .int .i64 (nuV S k)]) ∧ Below w.heap.size w w' := by
  cases hz : nuZ S k
  · by_cases hl : k < S.size
    · have h48 : ¬ bt S k = 48 := fun c => by rw [show nuZ S k = true by simp [nuZ, hl, c]] at hz; cases hz
      by_cases h45 : bt S k = 45
      · have hn : nuN S k = true := by simp [nuN, hl, h45]
        have eI := (nuN_yes hn).2.2
        cases hd : nuD S k
        · cases hg : dg S (k + 1)
          · exact rnu_neg_no hs hl h48 h45 hz hn hd hg
          · refine rnu_neg_nz hs hl h48 h45 hz hn hd hg ?_
            refine Classical.byContradiction fun c => ?_
            unfold nuD at hd
            rw [eI, hg, decide_eq_false c] at hd
            cases hd
        · exact rnu_neg_ok hs hl h48 h45 hz hn hd
      · have hn : nuN S k = false := by simp [nuN, h45]
        have eI := (nuN_no hn).2
        cases hd : nuD S k
        · refine rnu_pos_no hs hl h48 h45 hz hn hd ?_
          unfold nuD at hd
          rw [eI, decide_eq_false h48] at hd
          simpa using hd
        · exact rnu_pos_ok hs hl h48 h45 hz hn hd
    · have hn : nuN S k = false := by simp [nuN, hl]
      refine rnu_end hs hl hz hn ?_
      unfold nuD
      rw [(nuN_no hn).2, dg_no fun h => hl h.1]
      rfl
  · exact rnu_zero hs hz
end Go.Proofs.YtlodijncaojifaaDoor
