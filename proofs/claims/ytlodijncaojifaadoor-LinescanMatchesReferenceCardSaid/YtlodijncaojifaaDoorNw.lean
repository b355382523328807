/- The law Numbers of package linescan. -/
import Derived.Test.YtlodijncaojifaaDoorNv
namespace Go.Proofs.YtlodijncaojifaaDoor
open Go.RowKit

def bigN (k : Int) (m8 : UInt8) : Prop := (48 ≤ (m8.toNat : Int) ∧ (m8.toNat : Int) ≤ 57) ∧ k ≠ 0 ∧ -1000000000 < k ∧ k < 1000000000
/-- What a number's text and one byte more are scanned as. -/
structure NumR (k : Int) (s : ByteArray) (m8 : UInt8) : Prop where
  l1 : s.size ≤ 11
  nb : nuB (s ++ ⟨#[m8]⟩) 0 = false
  yes : bigN k m8 → nuK (s ++ ⟨#[m8]⟩) 0 = s.size + 1 ∧ nuV (s ++ ⟨#[m8]⟩) 0 ≠ k
  no : ¬ bigN k m8 → nuK (s ++ ⟨#[m8]⟩) 0 = s.size ∧ nuV (s ++ ⟨#[m8]⟩) 0 = k
theorem app_size (s : ByteArray) (m8 : UInt8) : (s ++ (⟨#[m8]⟩ : ByteArray)).size = s.size + 1 := by rw [ByteArray.size_append]; rfl
theorem app_last (s : ByteArray) (m8 : UInt8) : bt (s ++ ⟨#[m8]⟩) s.size = (m8.toNat : Int) := by rw [bt_app, if_neg (by omega), Nat.sub_self]; rfl
theorem app_old {s : ByteArray} {m8 : UInt8} {j : Nat} (h : j < s.size) : bt (s ++ ⟨#[m8]⟩) j = bt s j := by rw [bt_app, if_pos h]
theorem nx_last (s : ByteArray) (m8 : UInt8) : nxB (s ++ ⟨#[m8]⟩) s.size = (m8.toNat : Int) := by rw [nx_lt (by rw [app_size]; omega), app_last]
theorem num_tail {T : ByteArray} {i m : Nat} {more : Int} (hs : T.size = i + m + 1) (hd : ∀ j, j < m → dg T (i + j) = true) (hm : bt T (i + m) = more) (m2 : m ≤ 10) :
    ((48 ≤ more ∧ more ≤ 57) ∧ m ≤ 9 → dgs T i 10 = m + 1 ∧ vl T i (m + 1) = 10 * vl T i m + (more - 48)) ∧ (¬ (48 ≤ more ∧ more ≤ 57) ∨ m = 10 → dgs T i 10 = m) := by
  constructor
  · rintro ⟨⟨a, b⟩, c⟩
    refine ⟨dgs_eq (by omega) (fun j hj => ?_) ?_, by rw [vl_succ, hm]⟩
    · by_cases q : j < m
      · exact hd j q
      · rw [show j = m by omega]; exact dg_iff.2 ⟨by omega, by omega, by omega⟩
    · right; exact dg_no fun h => by have := h.1; omega
  · intro h
    refine dgs_eq m2 hd ?_
    rcases h with h | h
    · right; exact dg_no fun g => h ⟨by rw [← hm]; exact g.2.1, by rw [← hm]; exact g.2.2⟩
    · left; exact h
theorem dec_lead {n : Nat} {D : ByteArray} (h : DecOk n D) (h1 : 1 ≤ n) : 49 ≤ bt D 0 := by
  rcases h.ld with e | e
  · have hv := h.val
    rw [e] at hv
    have : vl D 0 1 = 10 * 0 + (bt D (0 + 0) - 48) := rfl
    rw [this, Nat.add_zero] at hv
    omega
  · exact e
theorem dec_nine {n : Nat} {D : ByteArray} (h : DecOk n D) : (n < 1000000000 → D.size ≤ 9) ∧ (1000000000 ≤ n → D.size = 10) := by
  have l2 := h.l2
  constructor
  · intro hn
    refine Classical.byContradiction fun c => ?_
    have e : D.size = 10 := by omega
    rcases h.low with q | q
    · omega
    · rw [e] at q
      have : pw (10 - 1) = 1000000000 := rfl
      omega
  · intro hn
    refine Classical.byContradiction fun c => ?_
    have h1 := (vl_bd h.dgt).2
    rw [h.val] at h1
    have h2 := pw_mono (show D.size ≤ 9 by omega)
    have h3 : pw 9 = 1000000000 := rfl
    omega
theorem dec_zero {D : ByteArray} (h : DecOk 0 D) : D.size = 1 ∧ bt D 0 = 48 := by
  have l1 := h.l1
  have e : D.size = 1 := by
    rcases h.low with q | q
    · exact q
    · have := pw_mono (show 0 ≤ D.size - 1 by omega)
      have h3 : pw 0 = 1 := rfl
      omega
  have hv := h.val
  rw [e] at hv
  have : vl D 0 1 = 10 * 0 + (bt D (0 + 0) - 48) := rfl
  rw [this, Nat.add_zero] at hv
  exact ⟨e, by omega⟩
theorem num_pos {n : Nat} {D : ByteArray} (h : DecOk n D) (m8 : UInt8) : NumR (n : Int) D m8 := by
  have l1 := h.l1
  have l2 := h.l2
  have b0 : bt (D ++ ⟨#[m8]⟩) 0 = bt D 0 := app_old (by omega)
  have ts := app_size D m8
  by_cases h0 : n = 0
  · subst h0
    obtain ⟨z1, z2⟩ := dec_zero h
    have hz : nuZ (D ++ ⟨#[m8]⟩) 0 = true := by unfold nuZ; rw [b0, z2, ts]; simp
    obtain ⟨v1, v2, v3⟩ := nu_z hz
    exact ⟨by omega, v2, fun c => absurd rfl c.2.1, fun _ => ⟨by rw [v1]; omega, v3⟩⟩
  · have hl := dec_lead h (by omega)
    have bd := bt_bd D 0
    have d57 : bt D 0 ≤ 57 := by have := (dg_iff.1 (h.dgt 0 (by omega))).2.2; exact this
    have hz : nuZ (D ++ ⟨#[m8]⟩) 0 = false := by unfold nuZ; rw [b0, dfalse (show ¬ bt D 0 = 48 by omega), Bool.and_false]
    have hn : nuN (D ++ ⟨#[m8]⟩) 0 = false := by unfold nuN; rw [b0, dfalse (show ¬ bt D 0 = 45 by omega), Bool.and_false]
    have eI : nuI (D ++ ⟨#[m8]⟩) 0 = 0 := (nuN_no hn).2
    have hd : nuD (D ++ ⟨#[m8]⟩) 0 = true := by
      unfold nuD
      rw [eI, dg_iff.2 ⟨by omega, by rw [b0]; omega, by rw [b0]; omega⟩, b0, dfalse (show ¬ bt D 0 = 48 by omega)]
      rfl
    obtain ⟨v1, v2, v3⟩ := nu_d hz hd
    rw [eI, hn] at v3
    rw [eI] at v1
    have hdt : ∀ j, j < D.size → dg (D ++ ⟨#[m8]⟩) (0 + j) = true := fun j hj => by
      have := dg_iff.1 (h.dgt j hj)
      rw [Nat.zero_add] at this ⊢
      exact dg_iff.2 ⟨by omega, by rw [app_old hj]; exact this.2.1, by rw [app_old hj]; exact this.2.2⟩
    have hv : vl (D ++ ⟨#[m8]⟩) 0 D.size = (n : Int) := by rw [← h.val]; exact vl_pre fun j hj => by rw [Nat.zero_add]; exact app_old hj
    obtain ⟨t1, t2⟩ := num_tail (T := D ++ ⟨#[m8]⟩) (i := 0) (m := D.size) (more := (m8.toNat : Int)) (by omega) hdt (by rw [Nat.zero_add]; exact app_last D m8) l2
    obtain ⟨n1, n2⟩ := dec_nine h
    refine ⟨by omega, v2, fun c => ?_, fun c => ?_⟩
    · obtain ⟨c1, c2, c3, c4⟩ := c
      obtain ⟨e1, e2⟩ := t1 ⟨c1, n1 (by omega)⟩
      rw [v1, v3, e1]
      refine ⟨by omega, ?_⟩
      show vl (D ++ ⟨#[m8]⟩) 0 (D.size + 1) ≠ (n : Int)
      rw [e2, hv]; omega
    · have e1 := t2 (by
        by_cases c1 : 48 ≤ (m8.toNat : Int) ∧ (m8.toNat : Int) ≤ 57
        · right; exact n2 (Classical.byContradiction fun g => c ⟨c1, by omega, by omega, by omega⟩)
        · left; exact c1)
      rw [v1, v3, e1]
      exact ⟨by omega, hv⟩
theorem num_neg {n : Nat} {D : ByteArray} (h : DecOk n D) (h1 : 1 ≤ n) (m8 : UInt8) : NumR (-(n : Int)) (⟨#[45]⟩ ++ D) m8 := by
  have l1 := h.l1
  have l2 := h.l2
  have ss : ((⟨#[45]⟩ : ByteArray) ++ D).size = D.size + 1 := by rw [ByteArray.size_append]; show 1 + D.size = _; omega
  have ts : ((⟨#[45]⟩ ++ D) ++ (⟨#[m8]⟩ : ByteArray)).size = D.size + 2 := by rw [app_size, ss]
  have s0 : bt ((⟨#[45]⟩ : ByteArray) ++ D) 0 = 45 := by rw [bt_app, if_pos (by show 0 < 1; omega)]; rfl
  have sj : ∀ j, bt ((⟨#[45]⟩ : ByteArray) ++ D) (1 + j) = bt D j := fun j => by rw [bt_app, if_neg (by show ¬ 1 + j < 1; omega)]; show bt D (1 + j - 1) = _; rw [Nat.add_sub_cancel_left]
  have b0 : bt ((⟨#[45]⟩ ++ D) ++ ⟨#[m8]⟩) 0 = 45 := by rw [app_old (by omega), s0]
  have bj : ∀ j, j < D.size → bt ((⟨#[45]⟩ ++ D) ++ ⟨#[m8]⟩) (1 + j) = bt D j := fun j hj => by rw [app_old (by omega), sj]
  have hl := dec_lead h h1
  have d57 : bt D 0 ≤ 57 := by have := (dg_iff.1 (h.dgt 0 (by omega))).2.2; exact this
  have b1 : bt ((⟨#[45]⟩ ++ D) ++ ⟨#[m8]⟩) 1 = bt D 0 := bj 0 (by omega)
  have hz : nuZ ((⟨#[45]⟩ ++ D) ++ ⟨#[m8]⟩) 0 = false := by unfold nuZ; rw [b0, dfalse (show ¬ (45 : Int) = 48 by omega), Bool.and_false]
  have hn : nuN ((⟨#[45]⟩ ++ D) ++ ⟨#[m8]⟩) 0 = true := by unfold nuN; rw [b0, ts, dtrue (show 0 < D.size + 2 by omega), dtrue (show (45 : Int) = 45 from rfl)]; rfl
  have eI : nuI ((⟨#[45]⟩ ++ D) ++ ⟨#[m8]⟩) 0 = 1 := (nuN_yes hn).2.2
  have hd : nuD ((⟨#[45]⟩ ++ D) ++ ⟨#[m8]⟩) 0 = true := by
    unfold nuD
    rw [eI, dg_iff.2 ⟨by omega, by rw [b1]; omega, by rw [b1]; omega⟩, b1, dfalse (show ¬ bt D 0 = 48 by omega)]
    rfl
  obtain ⟨v1, v2, v3⟩ := nu_d hz hd
  rw [eI, hn] at v3
  rw [eI] at v1
  have hdt : ∀ j, j < D.size → dg ((⟨#[45]⟩ ++ D) ++ ⟨#[m8]⟩) (1 + j) = true := fun j hj => by
    have := dg_iff.1 (h.dgt j hj)
    rw [Nat.zero_add] at this
    exact dg_iff.2 ⟨by omega, by rw [bj j hj]; exact this.2.1, by rw [bj j hj]; exact this.2.2⟩
  have hv : vl ((⟨#[45]⟩ ++ D) ++ ⟨#[m8]⟩) 1 D.size = (n : Int) := by
    rw [← h.val]
    have : ∀ m, m ≤ D.size → vl ((⟨#[45]⟩ ++ D) ++ ⟨#[m8]⟩) 1 m = vl D 0 m := by
      intro m
      induction m with
      | zero => intro _; rfl
      | succ m ih => intro hm; rw [vl_succ, vl_succ, ih (by omega), bj m (by omega), Nat.zero_add]
    exact this _ (Nat.le_refl _)
  obtain ⟨t1, t2⟩ := num_tail (T := (⟨#[45]⟩ ++ D) ++ ⟨#[m8]⟩) (i := 1) (m := D.size) (more := (m8.toNat : Int)) (by omega) hdt (by rw [show 1 + D.size = ((⟨#[45]⟩ : ByteArray) ++ D).size by omega]; exact app_last _ m8) l2
  obtain ⟨n1, n2⟩ := dec_nine h
  refine ⟨by omega, v2, fun c => ?_, fun c => ?_⟩
  · obtain ⟨c1, c2, c3, c4⟩ := c
    obtain ⟨e1, e2⟩ := t1 ⟨c1, n1 (by omega)⟩
    rw [v1, v3, e1]
    refine ⟨by omega, ?_⟩
    show - vl ((⟨#[45]⟩ ++ D) ++ ⟨#[m8]⟩) 1 (D.size + 1) ≠ -(n : Int)
    rw [e2, hv]; omega
  · have e1 := t2 (by
      by_cases c1 : 48 ≤ (m8.toNat : Int) ∧ (m8.toNat : Int) ≤ 57
      · right; exact n2 (Classical.byContradiction fun g => c ⟨c1, by omega, by omega, by omega⟩)
      · left; exact c1)
    rw [v1, v3, e1]
    refine ⟨by omega, ?_⟩
    show - vl ((⟨#[45]⟩ ++ D) ++ ⟨#[m8]⟩) 1 D.size = -(n : Int)
    rw [hv]
theorem cvt_byte (u : World) (m8 : UInt8) (more : Int) (h : more = (m8.toNat : Int)) : (convert 46 9 (.slice (some ⟨u.heap.size, 0, none⟩) 1 1)).run Tryd.prog (u.alloc (.cells #[.int .u8 more] 5)) = .ok (.string ⟨#[m8]⟩) (u.alloc (.cells #[.int .u8 more] 5)) := by
  subst h
  exact run_convert_bytes_back (P := Tryd.prog) (u.alloc (.cells #[.int .u8 (m8.toNat : Int)] 5)) 46 9 5 ⟨u.heap.size, 0, none⟩ 1 [m8] Tryd.underlying46 Tryd.underlying5 Tryd.underlying9 (fun j hj => by
    have : j = 0 := by simp at hj; omega
    subst this
    show (u.alloc (.cells #[.int .u8 (m8.toNat : Int)] 5)).cell? ⟨u.heap.size, 0, none⟩ = _
    rw [cell_of_row _ _ 0 _ _ _ (heap_alloc_new u _)]; rfl)
set_option maxHeartbeats 2000000 in
set_option maxRecDepth 100000 in
theorem l25n_a (n k more : Int) (m8 : UInt8) (hk : n.tmod 10000000000 = k) (hm : more = (m8.toNat : Int)) (hc : ¬ bigN k m8) (x0 : decide (48 ≤ more) = false)
    (HD : ∀ u : World, Calls Tryd.prog 21 #[.int .i64 k] u fun e w' => ∃ s, e = .returned (.string s) ∧ NumR k s m8 ∧ u = w') (W : World) :
    Calls Tryd.prog 4 #[.int .i64 n, .int .u8 more] W fun e w' => e = .returned (.bool true) ∧ Below W.heap.size W w' := by
  have HM := Lib.hid hm
  have HC := Lib.hid hc
  have NX := Lib.hid (fun s : ByteArray => nx_last s m8)
  rw [← hm] at NX
  clear hm hc
  go_enter Tryd.func4, Tryd.ntmps4
  go_wp2_with fail
  refine (c25awake_any _).mono ?_
  rintro e w1 ⟨rfl, b1⟩
  go_wp2_with fail
  refine (HD _).mono ?_
  rintro e w2 ⟨s, rfl, hR, rfl⟩
  have sl := hR.l1
  have hcv := cvt_byte w1 m8 more HM.out
  have hadd := strU s ⟨#[m8]⟩ (by show s.size + 1 ≤ 100; omega)
  have TS := Lib.hid (app_size s m8)
  have NB := Lib.hid hR.nb
  have KV := Lib.hid (hR.no HC.out)
  have NXs := Lib.hid (NX.out s)
  clear hR HC NX HD
  generalize s ++ ⟨#[m8]⟩ = T at *
  go_wp2_with fail
  refine (new25_any _ _).mono ?_
  rintro e w3 ⟨rfl, r3, b3⟩
  have bl := below_on (below_on b1 (al1 w1 _)) b3
  obtain ⟨xb, hxb⟩ : ∃ xb, xb = (w1.alloc (.cells #[.int .u8 more] 5)).heap.size := ⟨_, rfl⟩
  have xl : W.heap.size ≤ xb := by rw [hxb]; have := b1.size; simp; omega
  rw [← hxb] at r3 ⊢
  clear hxb b1 b3 hcv hadd
  go_wp2_with fail
  have hN := nu_ok r3 (Nat.zero_le _) (show T.size < big by have := TS.out; show T.size < 4611686018427387904; omega) NB.out
  rw [KV.out.1] at hN
  rw [KV.out.2] at hN
  refine hN.mono ?_
  rintro e w4 ⟨rfl, r4, b4⟩
  have bl4 := b4.bel bl xl
  clear hN r3 b4 bl
  go_wp2_with fail
  refine (err_ok r4).mono ?_
  rintro e w5 ⟨rfl, b5⟩
  have r5 := row_kept r4 b5
  have bl5 := below_on bl4 b5
  clear r4 bl4 b5
  go_wp2_with fail
  refine (off_any r5).mono ?_
  rintro e w6 ⟨rfl, b6⟩
  have r6 := row_kept r5 b6
  have bl6 := below_on bl5 b6
  clear r5 bl5 b6
  go_wp2_with fail
  have hP := pk_ok r6 (by have := TS.out; omega)
  rw [NXs.out] at hP
  refine hP.mono ?_
  rintro e w7 ⟨rfl, b7⟩
  go_wp2_with fail
  go_ret
  exact ⟨rfl, below_on bl6 b7⟩
set_option maxHeartbeats 2000000 in
set_option maxRecDepth 100000 in
theorem l25n_b (n k more : Int) (m8 : UInt8) (hk : n.tmod 10000000000 = k) (hm : more = (m8.toNat : Int)) (hc : ¬ bigN k m8) (x0 : decide (48 ≤ more) = true) (x1 : decide (more ≤ 57) = false)
    (HD : ∀ u : World, Calls Tryd.prog 21 #[.int .i64 k] u fun e w' => ∃ s, e = .returned (.string s) ∧ NumR k s m8 ∧ u = w') (W : World) :
    Calls Tryd.prog 4 #[.int .i64 n, .int .u8 more] W fun e w' => e = .returned (.bool true) ∧ Below W.heap.size W w' := by
  have HM := Lib.hid hm
  have HC := Lib.hid hc
  have NX := Lib.hid (fun s : ByteArray => nx_last s m8)
  rw [← hm] at NX
  clear hm hc
  go_enter Tryd.func4, Tryd.ntmps4
  go_wp2_with fail
  refine (c25awake_any _).mono ?_
  rintro e w1 ⟨rfl, b1⟩
  go_wp2_with fail
  refine (HD _).mono ?_
  rintro e w2 ⟨s, rfl, hR, rfl⟩
  have sl := hR.l1
  have hcv := cvt_byte w1 m8 more HM.out
  have hadd := strU s ⟨#[m8]⟩ (by show s.size + 1 ≤ 100; omega)
  have TS := Lib.hid (app_size s m8)
  have NB := Lib.hid hR.nb
  have KV := Lib.hid (hR.no HC.out)
  have NXs := Lib.hid (NX.out s)
  clear hR HC NX HD
  generalize s ++ ⟨#[m8]⟩ = T at *
  go_wp2_with fail
  refine (new25_any _ _).mono ?_
  rintro e w3 ⟨rfl, r3, b3⟩
  have bl := below_on (below_on b1 (al1 w1 _)) b3
  obtain ⟨xb, hxb⟩ : ∃ xb, xb = (w1.alloc (.cells #[.int .u8 more] 5)).heap.size := ⟨_, rfl⟩
  have xl : W.heap.size ≤ xb := by rw [hxb]; have := b1.size; simp; omega
  rw [← hxb] at r3 ⊢
  clear hxb b1 b3 hcv hadd
  go_wp2_with fail
  have hN := nu_ok r3 (Nat.zero_le _) (show T.size < big by have := TS.out; show T.size < 4611686018427387904; omega) NB.out
  rw [KV.out.1] at hN
  rw [KV.out.2] at hN
  refine hN.mono ?_
  rintro e w4 ⟨rfl, r4, b4⟩
  have bl4 := b4.bel bl xl
  clear hN r3 b4 bl
  go_wp2_with fail
  refine (err_ok r4).mono ?_
  rintro e w5 ⟨rfl, b5⟩
  have r5 := row_kept r4 b5
  have bl5 := below_on bl4 b5
  clear r4 bl4 b5
  go_wp2_with fail
  refine (off_any r5).mono ?_
  rintro e w6 ⟨rfl, b6⟩
  have r6 := row_kept r5 b6
  have bl6 := below_on bl5 b6
  clear r5 bl5 b6
  go_wp2_with fail
  have hP := pk_ok r6 (by have := TS.out; omega)
  rw [NXs.out] at hP
  refine hP.mono ?_
  rintro e w7 ⟨rfl, b7⟩
  go_wp2_with fail
  go_ret
  exact ⟨rfl, below_on bl6 b7⟩
set_option maxHeartbeats 2000000 in
set_option maxRecDepth 100000 in
theorem l25n_c (n k more : Int) (m8 : UInt8) (hk : n.tmod 10000000000 = k) (hm : more = (m8.toNat : Int)) (hc : ¬ bigN k m8) (x0 : decide (48 ≤ more) = true) (x1 : decide (more ≤ 57) = true) (x2 : (k != 0) = false)
    (HD : ∀ u : World, Calls Tryd.prog 21 #[.int .i64 k] u fun e w' => ∃ s, e = .returned (.string s) ∧ NumR k s m8 ∧ u = w') (W : World) :
    Calls Tryd.prog 4 #[.int .i64 n, .int .u8 more] W fun e w' => e = .returned (.bool true) ∧ Below W.heap.size W w' := by
  have HM := Lib.hid hm
  have HC := Lib.hid hc
  have NX := Lib.hid (fun s : ByteArray => nx_last s m8)
  rw [← hm] at NX
  clear hm hc
  go_enter Tryd.func4, Tryd.ntmps4
  go_wp2_with fail
  refine (c25awake_any _).mono ?_
  rintro e w1 ⟨rfl, b1⟩
  go_wp2_with fail
  refine (HD _).mono ?_
  rintro e w2 ⟨s, rfl, hR, rfl⟩
  have sl := hR.l1
  have hcv := cvt_byte w1 m8 more HM.out
  have hadd := strU s ⟨#[m8]⟩ (by show s.size + 1 ≤ 100; omega)
  have TS := Lib.hid (app_size s m8)
  have NB := Lib.hid hR.nb
  have KV := Lib.hid (hR.no HC.out)
  have NXs := Lib.hid (NX.out s)
  clear hR HC NX HD
  generalize s ++ ⟨#[m8]⟩ = T at *
  go_wp2_with fail
  refine (new25_any _ _).mono ?_
  rintro e w3 ⟨rfl, r3, b3⟩
  have bl := below_on (below_on b1 (al1 w1 _)) b3
  obtain ⟨xb, hxb⟩ : ∃ xb, xb = (w1.alloc (.cells #[.int .u8 more] 5)).heap.size := ⟨_, rfl⟩
  have xl : W.heap.size ≤ xb := by rw [hxb]; have := b1.size; simp; omega
  rw [← hxb] at r3 ⊢
  clear hxb b1 b3 hcv hadd
  go_wp2_with fail
  have hN := nu_ok r3 (Nat.zero_le _) (show T.size < big by have := TS.out; show T.size < 4611686018427387904; omega) NB.out
  rw [KV.out.1] at hN
  rw [KV.out.2] at hN
  refine hN.mono ?_
  rintro e w4 ⟨rfl, r4, b4⟩
  have bl4 := b4.bel bl xl
  clear hN r3 b4 bl
  go_wp2_with fail
  refine (err_ok r4).mono ?_
  rintro e w5 ⟨rfl, b5⟩
  have r5 := row_kept r4 b5
  have bl5 := below_on bl4 b5
  clear r4 bl4 b5
  go_wp2_with fail
  refine (off_any r5).mono ?_
  rintro e w6 ⟨rfl, b6⟩
  have r6 := row_kept r5 b6
  have bl6 := below_on bl5 b6
  clear r5 bl5 b6
  go_wp2_with fail
  have hP := pk_ok r6 (by have := TS.out; omega)
  rw [NXs.out] at hP
  refine hP.mono ?_
  rintro e w7 ⟨rfl, b7⟩
  go_wp2_with fail
  go_ret
  exact ⟨rfl, below_on bl6 b7⟩
set_option maxHeartbeats 2000000 in
set_option maxRecDepth 100000 in
theorem l25n_d (n k more : Int) (m8 : UInt8) (hk : n.tmod 10000000000 = k) (hm : more = (m8.toNat : Int)) (hc : ¬ bigN k m8) (x0 : decide (48 ≤ more) = true) (x1 : decide (more ≤ 57) = true) (x2 : (k != 0) = true) (x3 : decide (-1000000000 < k) = false)
    (HD : ∀ u : World, Calls Tryd.prog 21 #[.int .i64 k] u fun e w' => ∃ s, e = .returned (.string s) ∧ NumR k s m8 ∧ u = w') (W : World) :
    Calls Tryd.prog 4 #[.int .i64 n, .int .u8 more] W fun e w' => e = .returned (.bool true) ∧ Below W.heap.size W w' := by
  have HM := Lib.hid hm
  have HC := Lib.hid hc
  have NX := Lib.hid (fun s : ByteArray => nx_last s m8)
  rw [← hm] at NX
  clear hm hc
  go_enter Tryd.func4, Tryd.ntmps4
  go_wp2_with fail
  refine (c25awake_any _).mono ?_
  rintro e w1 ⟨rfl, b1⟩
  go_wp2_with fail
  refine (HD _).mono ?_
  rintro e w2 ⟨s, rfl, hR, rfl⟩
  have sl := hR.l1
  have hcv := cvt_byte w1 m8 more HM.out
  have hadd := strU s ⟨#[m8]⟩ (by show s.size + 1 ≤ 100; omega)
  have TS := Lib.hid (app_size s m8)
  have NB := Lib.hid hR.nb
  have KV := Lib.hid (hR.no HC.out)
  have NXs := Lib.hid (NX.out s)
  clear hR HC NX HD
  generalize s ++ ⟨#[m8]⟩ = T at *
  go_wp2_with fail
  refine (new25_any _ _).mono ?_
  rintro e w3 ⟨rfl, r3, b3⟩
  have bl := below_on (below_on b1 (al1 w1 _)) b3
  obtain ⟨xb, hxb⟩ : ∃ xb, xb = (w1.alloc (.cells #[.int .u8 more] 5)).heap.size := ⟨_, rfl⟩
  have xl : W.heap.size ≤ xb := by rw [hxb]; have := b1.size; simp; omega
  rw [← hxb] at r3 ⊢
  clear hxb b1 b3 hcv hadd
  go_wp2_with fail
  have hN := nu_ok r3 (Nat.zero_le _) (show T.size < big by have := TS.out; show T.size < 4611686018427387904; omega) NB.out
  rw [KV.out.1] at hN
  rw [KV.out.2] at hN
  refine hN.mono ?_
  rintro e w4 ⟨rfl, r4, b4⟩
  have bl4 := b4.bel bl xl
  clear hN r3 b4 bl
  go_wp2_with fail
  refine (err_ok r4).mono ?_
  rintro e w5 ⟨rfl, b5⟩
  have r5 := row_kept r4 b5
  have bl5 := below_on bl4 b5
  clear r4 bl4 b5
  go_wp2_with fail
  refine (off_any r5).mono ?_
  rintro e w6 ⟨rfl, b6⟩
  have r6 := row_kept r5 b6
  have bl6 := below_on bl5 b6
  clear r5 bl5 b6
  go_wp2_with fail
  have hP := pk_ok r6 (by have := TS.out; omega)
  rw [NXs.out] at hP
  refine hP.mono ?_
  rintro e w7 ⟨rfl, b7⟩
  go_wp2_with fail
  go_ret
  exact ⟨rfl, below_on bl6 b7⟩
set_option maxHeartbeats 2000000 in
set_option maxRecDepth 100000 in
theorem l25n_e (n k more : Int) (m8 : UInt8) (hk : n.tmod 10000000000 = k) (hm : more = (m8.toNat : Int)) (hc : ¬ bigN k m8) (x0 : decide (48 ≤ more) = true) (x1 : decide (more ≤ 57) = true) (x2 : (k != 0) = true) (x3 : decide (-1000000000 < k) = true) (x4 : decide (k < 1000000000) = false)
    (HD : ∀ u : World, Calls Tryd.prog 21 #[.int .i64 k] u fun e w' => ∃ s, e = .returned (.string s) ∧ NumR k s m8 ∧ u = w') (W : World) :
    Calls Tryd.prog 4 #[.int .i64 n, .int .u8 more] W fun e w' => e = .returned (.bool true) ∧ Below W.heap.size W w' := by
  have HM := Lib.hid hm
  have HC := Lib.hid hc
  have NX := Lib.hid (fun s : ByteArray => nx_last s m8)
  rw [← hm] at NX
  clear hm hc
  go_enter Tryd.func4, Tryd.ntmps4
  go_wp2_with fail
  refine (c25awake_any _).mono ?_
  rintro e w1 ⟨rfl, b1⟩
  go_wp2_with fail
  refine (HD _).mono ?_
  rintro e w2 ⟨s, rfl, hR, rfl⟩
  have sl := hR.l1
  have hcv := cvt_byte w1 m8 more HM.out
  have hadd := strU s ⟨#[m8]⟩ (by show s.size + 1 ≤ 100; omega)
  have TS := Lib.hid (app_size s m8)
  have NB := Lib.hid hR.nb
  have KV := Lib.hid (hR.no HC.out)
  have NXs := Lib.hid (NX.out s)
  clear hR HC NX HD
  generalize s ++ ⟨#[m8]⟩ = T at *
  go_wp2_with fail
  refine (new25_any _ _).mono ?_
  rintro e w3 ⟨rfl, r3, b3⟩
  have bl := below_on (below_on b1 (al1 w1 _)) b3
  obtain ⟨xb, hxb⟩ : ∃ xb, xb = (w1.alloc (.cells #[.int .u8 more] 5)).heap.size := ⟨_, rfl⟩
  have xl : W.heap.size ≤ xb := by rw [hxb]; have := b1.size; simp; omega
  rw [← hxb] at r3 ⊢
  clear hxb b1 b3 hcv hadd
  go_wp2_with fail
  have hN := nu_ok r3 (Nat.zero_le _) (show T.size < big by have := TS.out; show T.size < 4611686018427387904; omega) NB.out
  rw [KV.out.1] at hN
  rw [KV.out.2] at hN
  refine hN.mono ?_
  rintro e w4 ⟨rfl, r4, b4⟩
  have bl4 := b4.bel bl xl
  clear hN r3 b4 bl
  go_wp2_with fail
  refine (err_ok r4).mono ?_
  rintro e w5 ⟨rfl, b5⟩
  have r5 := row_kept r4 b5
  have bl5 := below_on bl4 b5
  clear r4 bl4 b5
  go_wp2_with fail
  refine (off_any r5).mono ?_
  rintro e w6 ⟨rfl, b6⟩
  have r6 := row_kept r5 b6
  have bl6 := below_on bl5 b6
  clear r5 bl5 b6
  go_wp2_with fail
  have hP := pk_ok r6 (by have := TS.out; omega)
  rw [NXs.out] at hP
  refine hP.mono ?_
  rintro e w7 ⟨rfl, b7⟩
  go_wp2_with fail
  go_ret
  exact ⟨rfl, below_on bl6 b7⟩
set_option maxHeartbeats 2000000 in
set_option maxRecDepth 100000 in
theorem l25n_y (n k more : Int) (m8 : UInt8) (hk : n.tmod 10000000000 = k) (hm : more = (m8.toNat : Int)) (hc : bigN k m8) (x0 : decide (48 ≤ more) = true) (x1 : decide (more ≤ 57) = true) (x2 : (k != 0) = true) (x3 : decide (-1000000000 < k) = true) (x4 : decide (k < 1000000000) = true)
    (HD : ∀ u : World, Calls Tryd.prog 21 #[.int .i64 k] u fun e w' => ∃ s, e = .returned (.string s) ∧ NumR k s m8 ∧ u = w') (W : World) :
    Calls Tryd.prog 4 #[.int .i64 n, .int .u8 more] W fun e w' => e = .returned (.bool true) ∧ Below W.heap.size W w' := by
  have HM := Lib.hid hm
  have HC := Lib.hid hc
  have NX := Lib.hid (fun s : ByteArray => nx_last s m8)
  rw [← hm] at NX
  clear hm hc
  go_enter Tryd.func4, Tryd.ntmps4
  go_wp2_with fail
  refine (c25awake_any _).mono ?_
  rintro e w1 ⟨rfl, b1⟩
  go_wp2_with fail
  refine (HD _).mono ?_
  rintro e w2 ⟨s, rfl, hR, rfl⟩
  have sl := hR.l1
  have hcv := cvt_byte w1 m8 more HM.out
  have hadd := strU s ⟨#[m8]⟩ (by show s.size + 1 ≤ 100; omega)
  have TS := Lib.hid (app_size s m8)
  have NB := Lib.hid hR.nb
  have KV := Lib.hid (hR.yes HC.out)
  have NXs := Lib.hid (NX.out s)
  clear hR HC NX HD
  generalize s ++ ⟨#[m8]⟩ = T at *
  go_wp2_with fail
  refine (new25_any _ _).mono ?_
  rintro e w3 ⟨rfl, r3, b3⟩
  have bl := below_on (below_on b1 (al1 w1 _)) b3
  obtain ⟨xb, hxb⟩ : ∃ xb, xb = (w1.alloc (.cells #[.int .u8 more] 5)).heap.size := ⟨_, rfl⟩
  have xl : W.heap.size ≤ xb := by rw [hxb]; have := b1.size; simp; omega
  rw [← hxb] at r3 ⊢
  clear hxb b1 b3 hcv hadd
  go_wp2_with fail
  have hN := nu_ok r3 (Nat.zero_le _) (show T.size < big by have := TS.out; show T.size < 4611686018427387904; omega) NB.out
  rw [KV.out.1] at hN
  have vne := KV.out.2
  generalize nuV T 0 = V at *
  have q1 : (V != k) = true := bne_iff_ne.2 vne
  have sz : (s.size : Int) + 1 ≤ 9223372036854775807 := by omega
  clear vne
  refine hN.mono ?_
  rintro e w4 ⟨rfl, r4, b4⟩
  have bl4 := b4.bel bl xl
  clear hN r3 b4 bl
  go_wp2_with fail
  refine (err_ok r4).mono ?_
  rintro e w5 ⟨rfl, b5⟩
  have r5 := row_kept r4 b5
  have bl5 := below_on bl4 b5
  clear r4 bl4 b5
  go_wp2_with fail
  refine (off_any r5).mono ?_
  rintro e w6 ⟨rfl, b6⟩
  go_wp2_with fail
  go_ret
  exact ⟨rfl, below_on bl5 b6⟩
theorem l25n_any (n more : Int) (n1 : -9223372036854775808 ≤ n) (n2 : n ≤ 9223372036854775807) (m1 : 0 ≤ more) (m2 : more ≤ 255) (W : World) :
    Calls Tryd.prog 4 #[.int .i64 n, .int .u8 more] W fun e w' => e = .returned (.bool true) ∧ Below W.heap.size W w' := by
  obtain ⟨k, hk⟩ : ∃ k, n.tmod 10000000000 = k := ⟨_, rfl⟩
  have hm : more = ((UInt8.ofNat more.toNat).toNat : Int) := by
    rw [UInt8.toNat_ofNat']
    omega
  generalize UInt8.ofNat more.toNat = m8 at hm
  have kb : -10000000000 < k ∧ k < 10000000000 := by
    rw [← hk]
    rcases Int.le_total 0 n with h | h
    · rw [Int.tmod_eq_emod_of_nonneg h]; omega
    · have e : n.tmod 10000000000 = -((-n).tmod 10000000000) := by rw [Int.neg_tmod]; omega
      rw [e, Int.tmod_eq_emod_of_nonneg (by omega)]; omega
  have HD : ∀ u : World, Calls Tryd.prog 21 #[.int .i64 k] u fun e w' => ∃ s, e = .returned (.string s) ∧ NumR k s m8 ∧ u = w' := fun u => by
    by_cases h : 0 ≤ k
    · obtain ⟨j, hj⟩ : ∃ j : Nat, k = (j : Int) := ⟨k.toNat, by omega⟩
      subst hj
      refine (dec_pos j (by omega) u).mono ?_
      rintro e w' ⟨D, rfl, hd, rfl⟩
      exact ⟨D, rfl, num_pos hd m8, rfl⟩
    · obtain ⟨j, hj⟩ : ∃ j : Nat, k = -(j : Int) := ⟨(-k).toNat, by omega⟩
      subst hj
      refine (dec_neg j (by omega) (by omega) u).mono ?_
      rintro e w' ⟨D, rfl, hd, rfl⟩
      exact ⟨_, rfl, num_neg hd (by omega) m8, rfl⟩
  by_cases g1 : 48 ≤ more
  · by_cases g2 : more ≤ 57
    · by_cases g3 : k = 0
      · exact l25n_c n k more m8 hk hm (fun c => c.2.1 g3) (dtrue g1) (dtrue g2) (by rw [g3]; rfl) HD W
      · by_cases g4 : -1000000000 < k
        · by_cases g5 : k < 1000000000
          · exact l25n_y n k more m8 hk hm ⟨by rw [← hm]; exact ⟨g1, g2⟩, g3, g4, g5⟩ (dtrue g1) (dtrue g2) (bne_iff_ne.2 g3) (dtrue g4) (dtrue g5) HD W
          · exact l25n_e n k more m8 hk hm (fun c => g5 c.2.2.2) (dtrue g1) (dtrue g2) (bne_iff_ne.2 g3) (dtrue g4) (dfalse g5) HD W
        · exact l25n_d n k more m8 hk hm (fun c => g4 c.2.2.1) (dtrue g1) (dtrue g2) (bne_iff_ne.2 g3) (dfalse g4) HD W
    · exact l25n_b n k more m8 hk hm (fun c => g2 (by rw [hm]; exact c.1.2)) (dtrue g1) (dfalse g2) HD W
  · exact l25n_a n k more m8 hk hm (fun c => g1 (by rw [hm]; exact c.1.1)) (dfalse g1) HD W
end Go.Proofs.YtlodijncaojifaaDoor
