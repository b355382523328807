/- What earlier stages proved: Lf Lg Lh. -/
import Derived.Test.YtnofmlkjagdklaaKn
import Derived.Test.YtnofmlkjagdklaaKa
import Derived.LoopTactic
import Derived.OwnWalk
import Derived.Maps.AppendAt
namespace Go.Proofs.Ytnofmlkjagdklaa
open Go.RowKit

theorem rex_any (m d : Int) (w : World) :
    Calls Try.prog 52 #[.int .i64 m, .int .i64 d] w fun e w' => e = .returned (.bool (okD m d)) ∧ w = w' := by
  cases h1 : decide (1 ≤ d)
  · have hv := Lib.hid (okD_false (m := m) (d := d) (by simp at h1; omega))
    go_enter Try.func52, Try.ntmps52
    go_wp2_with fail
    go_ret
    exact ⟨ret_bool hv.out.symm, rfl⟩
  · cases h2 : decide (d ≤ dim false m)
    · have hv := Lib.hid (okD_false (m := m) (d := d) (by simp at h2; omega))
      go_enter Try.func52, Try.ntmps52
      go_wp2_with fail
      refine (rlen_any _ _ _).mono ?_
      rintro e wq ⟨rfl, rfl⟩
      go_wp2_with fail
      go_ret
      exact ⟨ret_bool hv.out.symm, rfl⟩
    · have hv := Lib.hid (okD_iff.2 (show 1 ≤ d ∧ d ≤ dim false m by simp at h1 h2; omega))
      go_enter Try.func52, Try.ntmps52
      go_wp2_with fail
      refine (rlen_any _ _ _).mono ?_
      rintro e wq ⟨rfl, rfl⟩
      go_wp2_with fail
      go_ret
      exact ⟨ret_bool hv.out.symm, rfl⟩

def stL : List Int := [101, 131, 301, 331, 429, 529, 627, 727, 825, 924, 1023, 1122, 1221]
def stC : Array Value := #[.int .i64 101, .int .i64 131, .int .i64 301, .int .i64 331, .int .i64 429, .int .i64 529, .int .i64 627, .int .i64 727, .int .i64 825, .int .i64 924, .int .i64 1023, .int .i64 1122, .int .i64 1221]
theorem rst_any (w : World) :
    Calls Try.prog 81 #[] w fun e w' => e = .returned (.slice (some ⟨w.heap.size, 0, none⟩) 13 13) ∧ w.alloc (.cells stC 3) = w' := by
  go_enter Try.func81, Try.ntmps81
  go_wp2
  go_ret
  exact ⟨rfl, rfl⟩
theorem st_cell (w : World) (k : Nat) (hk : k < 13) : (w.alloc (.cells stC 3)).cell? ⟨w.heap.size, k, none⟩ = some (.int .i64 (stL.getD k 0)) := by
  rw [cell_of_row _ _ k _ _ _ (heap_alloc_new w (.cells stC 3))]
  have h : k = 0 ∨ k = 1 ∨ k = 2 ∨ k = 3 ∨ k = 4 ∨ k = 5 ∨ k = 6 ∨ k = 7 ∨ k = 8 ∨ k = 9 ∨ k = 10 ∨ k = 11 ∨ k = 12 := by omega
  rcases h with rfl | rfl | rfl | rfl | rfl | rfl | rfl | rfl | rfl | rfl | rfl | rfl | rfl
  all_goals rfl

/-- how many lunations have begun when n days are over; the position then -/
def lunS (n : Int) : Nat := if n ≤ 0 then 0 else (lun n + 1).toNat
def posS (n : Int) : Int := if n ≤ 0 then 0 else pos n
theorem lunS_bd (n : Int) : lunS n ≤ 13 := by unfold lunS; have := lun_bd n; split <;> omega
theorem posS_bd (n : Int) (h : n ≤ 365) : 0 ≤ posS n ∧ posS n ≤ 29 := by
  unfold posS; split
  · omega
  · have := all_lt 366 (fun n => n == 0 || (decide (0 ≤ pos n) && decide (pos n ≤ 29))) (by kernel_rfl) n.toNat (by omega)
    rw [show ((n.toNat : Nat) : Int) = n by omega, show (n.toNat == 0) = false by rw [beq_eq_false_iff_ne]; omega] at this
    simpa using this
def stepB (m d : Int) : Bool :=
  let k := lunS (doy m d - 1)
  if decide (k < 13) && (stL.getD k 0 == 100 * m + d) then lunS (doy m d) == k + 1 && posS (doy m d) == 0
  else lunS (doy m d) == k && posS (doy m d) == posS (doy m d - 1) + 1
theorem step_day {m d : Int} (h : okD m d = true) : stepB m d = true := by
  obtain ⟨m1, m2, d1, d2⟩ := okD_bd h
  have := all_md (fun m d => !okD m d || stepB m d) (by kernel_rfl) m d m1 m2 d1 d2
  simpa [h] using this
theorem step_in {m d : Int} {k : Nat} (h : okD m d = true) (hk : lunS (doy m d - 1) = k) (h1 : k < 13) (h2 : (stL.getD k 0 == 100 * m + d) = true) : lunS (doy m d) = k + 1 ∧ posS (doy m d) = 0 := by
  have := step_day h
  unfold stepB at this
  simp only [hk, h2, decide_eq_true h1, Bool.and_self, if_pos] at this
  simpa using this
theorem step_out {m d : Int} {k : Nat} (h : okD m d = true) (hk : lunS (doy m d - 1) = k) (h1 : ¬ k < 13 ∨ (stL.getD k 0 == 100 * m + d) = false) : lunS (doy m d) = k ∧ posS (doy m d) = posS (doy m d - 1) + 1 := by
  have := step_day h
  unfold stepB at this
  rw [hk] at this
  rw [if_neg] at this
  · simpa using this
  · rcases h1 with h1 | h1
    · simp [decide_eq_false h1]
    · rw [h1]; simp
theorem lunS_at {m d : Int} (h : okD m d = true) : (lunS (doy m d) : Int) - 1 = lunM m d ∧ posS (doy m d) = posM m d := by
  have hd := doy_bd h
  have hl := lun_bd (doy m d)
  rw [lunM, if_pos h, posM, if_pos h, lunS, if_neg (by omega), posS, if_neg (by omega)]
  exact ⟨by omega, rfl⟩
theorem doy_inj {m d m' d' : Int} (h : okD m d = true) (h' : okD m' d' = true) (e : doy m d = doy m' d') : m = m' ∧ d = d' := by
  obtain ⟨m1, m2, d1, d2⟩ := okD_bd h
  obtain ⟨n1, n2, e1, e2⟩ := okD_bd h'
  rw [okD_iff] at h h'
  unfold doy at e
  rcases Int.lt_trichotomy m m' with g | g | g
  · have := cum_next false m m' m1 g (by omega); omega
  · subst g; exact ⟨rfl, by omega⟩
  · have := cum_next false m' m n1 g (by omega); omega

set_option maxHeartbeats 400000 in
theorem rpos_yes (m d : Int) (w : World) (hd : okD m d = true) :
    Calls Try.prog 78 #[.int .i64 m, .int .i64 d] w fun e w' => e = .returned (.tuple #[.int .i64 (lunM m d), .int .i64 (posM m d), .bool true]) ∧ Below w.heap.size w w' := by
  have H := Lib.hid (fun w => by have := rex_any m d w; rwa [hd] at this : ∀ w, Calls Try.prog 52 #[.int .i64 m, .int .i64 d] w fun e w' => e = .returned (.bool true) ∧ w = w')
  have HD := Lib.hid hd
  have hN := doy_bd hd
  have HA := Lib.hid (lunS_at hd)
  generalize hn : doy m d = N at *
  have HN := Lib.hid hn
  clear hd hn
  go_enter Try.func78, Try.ntmps78
  go_wp2_with fail
  refine (H.out _).mono ?_
  rintro e w1 ⟨rfl, rfl⟩
  go_wp2_with fail
  refine (rst_any _).mono ?_
  rintro e w1 ⟨rfl, hw1⟩
  have HC := Lib.hid (st_cell w)
  rw [hw1] at HC
  have HB : Hid (Below w.heap.size w w1) := Lib.hid (by rw [← hw1]; exact (Below.refl _ _).alloc (Nat.le_refl _) _)
  clear hw1
  generalize hbb : w.heap.size = b at *
  have HBB := Lib.hid hbb
  clear hbb
  go_wp2_with fail
  go_loop [8, 9, 10] (fun l p x => ∃ j : Int, 1 ≤ j ∧ j ≤ 13 ∧ x = .int .i64 j ∧ cum false j < N ∧ l = .int .i64 ((lunS (cum false j) : Int) - 1) ∧ p = .int .i64 (posS (cum false j))) (fun _ _ x => (13 - intOf x).toNat)
  case atStart => exact ⟨1, by omega, by omega, rfl, by rw [cum_one]; omega, by rw [cum_one]; rfl, by rw [cum_one]; rfl⟩
  case round =>
    obtain ⟨j, j1, j2, rfl, hj, rfl, rfl⟩ := hrel
    by_cases hj3 : j = 13
    · subst hj3
      have := cum_end false
      simp [l01] at this
      omega
    · have j12 : j ≤ 12 := by omega
      have hcb := cum_bd false j j1 j2
      have HS := Lib.hid (cum_succ false j j1 j12)
      have hdm := dim_bd false j j1 j12
      generalize hc : cum false j = c at *
      have HCJ := Lib.hid hc
      clear hc
      go_wp2_with fail
      go_loop [8, 9, 11] (fun l p x => ∃ i : Int, 1 ≤ i ∧ i ≤ dim false j + 1 ∧ x = .int .i64 i ∧ c + i ≤ N ∧ l = .int .i64 ((lunS (c + i - 1) : Int) - 1) ∧ p = .int .i64 (posS (c + i - 1))) (fun _ _ x => (dim false j + 1 - intOf x).toNat)
      case atStart => exact ⟨1, by omega, by omega, rfl, by omega, by rw [show c + 1 - 1 = c by omega], by rw [show c + 1 - 1 = c by omega]⟩
      case round =>
        obtain ⟨i, ii1, ii2, rfl, hi, rfl, rfl⟩ := hrel
        have hkb := lunS_bd (c + i - 1)
        have hpb := posS_bd (c + i - 1) (by omega)
        by_cases hle : i ≤ dim false j
        · have hok : okD j i = true := okD_iff.2 ⟨ii1, hle⟩
          have hdo : doy j i = c + i := by rw [doy, HCJ.out]
          have hin := Lib.hid (fun k hk h1 h2 => step_in (k := k) hok hk h1 h2)
          have hout := Lib.hid (fun k hk h1 => step_out (k := k) hok hk h1)
          rw [hdo] at hin hout
          have hne : Hid (¬ (j = m ∧ i = d) → c + i + 1 ≤ N) := Lib.hid (fun g => by
            by_cases e : c + i = N
            · exact absurd (doy_inj hok HD.out (by rw [hdo, HN.out]; exact e)) g
            · omega)
          have heq : Hid (j = m → i = d → c + i = N) := Lib.hid (fun g1 g2 => by rw [← hdo, g1, g2]; exact HN.out)
          generalize lunS (c + i - 1) = k at *
          generalize posS (c + i - 1) = q at *
          clear hok hdo
          have HX : Hid (k < 13 → w1.cell? ⟨b, k, none⟩ = some (.int .i64 (stL.getD k 0))) := Lib.hid (HC.out k)
          have hin' := Lib.hid (hin.out k rfl)
          have hout' := Lib.hid (hout.out k rfl)
          clear hin hout
          generalize stL.getD k 0 = s at *
          by_cases h13 : k < 13
          · have hcell := HX.out h13
            cases hs : (s == 100 * j + i)
            · have HR := Lib.hid (hout'.out (.inr hs))
              cases e1 : (j == m)
              · skip
                go_wp2_with fail
                refine (rlen_any _ _ _).mono ?_
                rintro e wq ⟨rfl, rfl⟩
                go_wp2_with fail
                go_round
                case rel => exact ⟨i + 1, by omega, by omega, by go_num, by have := hne.out (by rw [beq_eq_false_iff_ne] at e1; omega); omega, by rw [show c + (i + 1) - 1 = c + i by omega, HR.out.1], by rw [show c + (i + 1) - 1 = c + i by omega, HR.out.2]⟩
                case measure => simp [intOf]; omega
              · cases e2 : (i == d)
                · skip
                  go_wp2_with fail
                  refine (rlen_any _ _ _).mono ?_
                  rintro e wq ⟨rfl, rfl⟩
                  go_wp2_with fail
                  go_round
                  case rel => exact ⟨i + 1, by omega, by omega, by go_num, by have := hne.out (by rw [beq_eq_false_iff_ne] at e2; omega); omega, by rw [show c + (i + 1) - 1 = c + i by omega, HR.out.1], by rw [show c + (i + 1) - 1 = c + i by omega, HR.out.2]⟩
                  case measure => simp [intOf]; omega
                · have hz := Lib.hid (heq.out (beq_iff_eq.1 e1) (beq_iff_eq.1 e2))
                  go_wp2_with fail
                  refine (rlen_any _ _ _).mono ?_
                  rintro e wq ⟨rfl, rfl⟩
                  go_wp2_with fail
                  go_ret3
                  exact ⟨ret_iib (by rw [← HA.out.1, ← hz.out, HR.out.1]) (by rw [← HA.out.2, ← hz.out, HR.out.2]) rfl, by rw [HBB.out]; exact HB.out⟩
            · have HR := Lib.hid (hin'.out h13 hs)
              cases e1 : (j == m)
              · skip
                go_wp2_with fail
                refine (rlen_any _ _ _).mono ?_
                rintro e wq ⟨rfl, rfl⟩
                go_wp2_with fail
                go_round
                case rel => exact ⟨i + 1, by omega, by omega, by go_num, by have := hne.out (by rw [beq_eq_false_iff_ne] at e1; omega); omega, by rw [show c + (i + 1) - 1 = c + i by omega, HR.out.1, show ((k + 1 : Nat) : Int) - 1 = k by omega], by rw [show c + (i + 1) - 1 = c + i by omega, HR.out.2]⟩
                case measure => simp [intOf]; omega
              · cases e2 : (i == d)
                · skip
                  go_wp2_with fail
                  refine (rlen_any _ _ _).mono ?_
                  rintro e wq ⟨rfl, rfl⟩
                  go_wp2_with fail
                  go_round
                  case rel => exact ⟨i + 1, by omega, by omega, by go_num, by have := hne.out (by rw [beq_eq_false_iff_ne] at e2; omega); omega, by rw [show c + (i + 1) - 1 = c + i by omega, HR.out.1, show ((k + 1 : Nat) : Int) - 1 = k by omega], by rw [show c + (i + 1) - 1 = c + i by omega, HR.out.2]⟩
                  case measure => simp [intOf]; omega
                · have hz := Lib.hid (heq.out (beq_iff_eq.1 e1) (beq_iff_eq.1 e2))
                  go_wp2_with fail
                  refine (rlen_any _ _ _).mono ?_
                  rintro e wq ⟨rfl, rfl⟩
                  go_wp2_with fail
                  go_ret3
                  exact ⟨ret_iib (by rw [← HA.out.1, ← hz.out, HR.out.1]; omega) (by rw [← HA.out.2, ← hz.out, HR.out.2]) rfl, by rw [HBB.out]; exact HB.out⟩
          · have HR := Lib.hid (hout'.out (.inl h13))
            cases e1 : (j == m)
            · skip
              go_wp2_with fail
              refine (rlen_any _ _ _).mono ?_
              rintro e wq ⟨rfl, rfl⟩
              go_wp2_with fail
              go_round
              case rel => exact ⟨i + 1, by omega, by omega, by go_num, by have := hne.out (by rw [beq_eq_false_iff_ne] at e1; omega); omega, by rw [show c + (i + 1) - 1 = c + i by omega, HR.out.1], by rw [show c + (i + 1) - 1 = c + i by omega, HR.out.2]⟩
              case measure => simp [intOf]; omega
            · cases e2 : (i == d)
              · skip
                go_wp2_with fail
                refine (rlen_any _ _ _).mono ?_
                rintro e wq ⟨rfl, rfl⟩
                go_wp2_with fail
                go_round
                case rel => exact ⟨i + 1, by omega, by omega, by go_num, by have := hne.out (by rw [beq_eq_false_iff_ne] at e2; omega); omega, by rw [show c + (i + 1) - 1 = c + i by omega, HR.out.1], by rw [show c + (i + 1) - 1 = c + i by omega, HR.out.2]⟩
                case measure => simp [intOf]; omega
              · have hz := Lib.hid (heq.out (beq_iff_eq.1 e1) (beq_iff_eq.1 e2))
                go_wp2_with fail
                refine (rlen_any _ _ _).mono ?_
                rintro e wq ⟨rfl, rfl⟩
                go_wp2_with fail
                go_ret3
                exact ⟨ret_iib (by rw [← HA.out.1, ← hz.out, HR.out.1]) (by rw [← HA.out.2, ← hz.out, HR.out.2]) rfl, by rw [HBB.out]; exact HB.out⟩
        · have hii : i = dim false j + 1 := by omega
          have HI := Lib.hid hii
          have HE : Hid (c + i - 1 = cum false (j + 1)) := Lib.hid (by rw [HS.out, hii]; omega)
          clear hii
          go_wp2_with fail
          refine (rlen_any _ _ _).mono ?_
          rintro e wq ⟨rfl, rfl⟩
          go_wp2_with fail
          go_round
          case rel => exact ⟨j + 1, by omega, by omega, by go_num, by have := HE.out; omega, by rw [HE.out], by rw [HE.out]⟩
          case measure => simp [intOf]; omega
theorem rpos_any (m d : Int) (w : World) :
    Calls Try.prog 78 #[.int .i64 m, .int .i64 d] w fun e w' => e = .returned (.tuple #[.int .i64 (lunM m d), .int .i64 (posM m d), .bool (okD m d)]) ∧ Below w.heap.size w w' := by
  cases hd : okD m d
  · have H := Lib.hid (fun w => by have := rex_any m d w; rwa [hd] at this : ∀ w, Calls Try.prog 52 #[.int .i64 m, .int .i64 d] w fun e w' => e = .returned (.bool false) ∧ w = w')
    rw [lunM_no hd, posM_no hd]
    clear hd
    go_enter Try.func78, Try.ntmps78
    go_wp2_with fail
    refine (H.out _).mono ?_
    rintro e w1 ⟨rfl, rfl⟩
    go_wp2_with fail
    go_ret3
    exact ⟨rfl, Below.refl _ _⟩
  · exact rpos_yes m d w hd
end Go.Proofs.Ytnofmlkjagdklaa

namespace Go.Proofs.Ytnofmlkjagdklaa
open Go.RowKit

theorem rb_full {k p l : Int} (h : (k % 2 == 0) = true) (b : Bool) (e : ((l == 30 - p) || ((l == 31) && (p == 5))) = b) : (onL k p).contains l = b := by
  rw [← e, onL, if_pos (beq_iff_eq.1 h), fullL]
  split
  · rename_i g; subst g; rw [Bool.eq_iff_iff]; simp; omega
  · rename_i g; rw [Bool.eq_iff_iff]; simp; omega
theorem rb_low {k p l : Int} (h : (k % 2 == 0) = false) (g : p ≤ 4) (b : Bool) (e : ((l == 30 - p) || ((l == 31) && (p == 4))) = b) : (onL k p).contains l = b := by
  rw [← e, onL, if_neg (by simpa using h), hollowL]
  split
  · rw [Bool.eq_iff_iff]; simp; omega
  · rw [if_pos (by omega)]; rw [Bool.eq_iff_iff]; simp; omega
theorem rb_five {k p l : Int} (h : (k % 2 == 0) = false) (g : p = 5) (b : Bool) (e : ((l == 25) || (l == 24)) = b) : (onL k p).contains l = b := by
  rw [← e, onL, if_neg (by simpa using h), hollowL, if_neg (by omega), if_neg (by omega), if_pos g]
  rw [Bool.eq_iff_iff]; simp
theorem rb_high {k p l : Int} (h : (k % 2 == 0) = false) (g : 6 ≤ p) (b : Bool) (e : (l == 29 - p) = b) : (onL k p).contains l = b := by
  rw [← e, onL, if_neg (by simpa using h), hollowL, if_neg (by omega), if_neg (by omega), if_neg (by omega)]
  rw [Bool.eq_iff_iff]; simp
theorem rbears_any (m d l : Int) (w : World) :
    Calls Try.prog 75 #[.int .i64 m, .int .i64 d, .int .i64 l] w fun e w' => e = .returned (.bool (bears m d l)) ∧ Below w.heap.size w w' := by
  have H := Lib.hid (fun w => rpos_any m d w)
  have hl := lunM_bd m d
  have hp := posM_bd m d
  cases hd : okD m d
  · have hv := Lib.hid (show bears m d l = false by rw [bears, onD_no hd]; rfl)
    rw [hd] at H
    clear hd
    go_enter Try.func75, Try.ntmps75
    go_wp2_with fail
    refine (H.out _).mono ?_
    rintro e w1 ⟨rfl, hb1⟩
    have HB := Lib.hid hb1
    clear hb1
    go_wp2_with fail
    go_ret
    exact ⟨ret_bool hv.out.symm, HB.out⟩
  · have hv := Lib.hid (show bears m d l = (onL (lunM m d) (posM m d)).contains l by rw [bears, onD_at hd])
    rw [hd] at H
    clear hd
    generalize lunM m d = k at *
    generalize posM m d = p at *
    cases h : (k % 2 == 0)
    · have h' : p ≤ 4 ∨ p = 5 ∨ 6 ≤ p := by omega
      rcases h' with g | g | g
      · cases e1 : (l == 30 - p)
        · cases e2 : (l == 31)
          · have hz := Lib.hid (rb_low h g (l := l) false (by rw [e1, e2]; rfl))
            go_enter Try.func75, Try.ntmps75
            go_wp2_with fail
            refine (H.out _).mono ?_
            rintro e w1 ⟨rfl, hb1⟩
            have HB := Lib.hid hb1
            clear hb1
            go_wp2_with fail
            go_ret
            exact ⟨ret_bool (hv.out.trans hz.out).symm, HB.out⟩
          · cases e3 : (p == 4)
            · have hz := Lib.hid (rb_low h g (l := l) false (by rw [e1, e2, e3]; rfl))
              go_enter Try.func75, Try.ntmps75
              go_wp2_with fail
              refine (H.out _).mono ?_
              rintro e w1 ⟨rfl, hb1⟩
              have HB := Lib.hid hb1
              clear hb1
              go_wp2_with fail
              go_ret
              exact ⟨ret_bool (hv.out.trans hz.out).symm, HB.out⟩
            · have hz := Lib.hid (rb_low h g (l := l) true (by rw [e1, e2, e3]; rfl))
              go_enter Try.func75, Try.ntmps75
              go_wp2_with fail
              refine (H.out _).mono ?_
              rintro e w1 ⟨rfl, hb1⟩
              have HB := Lib.hid hb1
              clear hb1
              go_wp2_with fail
              go_ret
              exact ⟨ret_bool (hv.out.trans hz.out).symm, HB.out⟩
        · have hz := Lib.hid (rb_low h g (l := l) true (by rw [e1]; rfl))
          go_enter Try.func75, Try.ntmps75
          go_wp2_with fail
          refine (H.out _).mono ?_
          rintro e w1 ⟨rfl, hb1⟩
          have HB := Lib.hid hb1
          clear hb1
          go_wp2_with fail
          go_ret
          exact ⟨ret_bool (hv.out.trans hz.out).symm, HB.out⟩
      · cases e1 : (l == 25)
        · cases e2 : (l == 24)
          all_goals
            have hz := Lib.hid (rb_five h g (l := l) _ (by rw [e1, e2]))
            go_enter Try.func75, Try.ntmps75
            go_wp2_with fail
            refine (H.out _).mono ?_
            rintro e w1 ⟨rfl, hb1⟩
            have HB := Lib.hid hb1
            clear hb1
            go_wp2_with fail
            go_ret
            exact ⟨ret_bool (hv.out.trans hz.out).symm, HB.out⟩
        · have hz := Lib.hid (rb_five h g (l := l) true (by rw [e1]; rfl))
          go_enter Try.func75, Try.ntmps75
          go_wp2_with fail
          refine (H.out _).mono ?_
          rintro e w1 ⟨rfl, hb1⟩
          have HB := Lib.hid hb1
          clear hb1
          go_wp2_with fail
          go_ret
          exact ⟨ret_bool (hv.out.trans hz.out).symm, HB.out⟩
      · have e5 : (p == 5) = false := by rw [beq_eq_false_iff_ne]; omega
        have hz := Lib.hid (rb_high h g (l := l) _ rfl)
        go_enter Try.func75, Try.ntmps75
        go_wp2_with fail
        refine (H.out _).mono ?_
        rintro e w1 ⟨rfl, hb1⟩
        have HB := Lib.hid hb1
        clear hb1
        go_wp2_with fail
        go_ret
        exact ⟨ret_bool (hv.out.trans hz.out).symm, HB.out⟩
    · cases e1 : (l == 30 - p)
      · cases e2 : (l == 31)
        · have hz := Lib.hid (rb_full h (p := p) (l := l) false (by rw [e1, e2]; rfl))
          go_enter Try.func75, Try.ntmps75
          go_wp2_with fail
          refine (H.out _).mono ?_
          rintro e w1 ⟨rfl, hb1⟩
          have HB := Lib.hid hb1
          clear hb1
          go_wp2_with fail
          go_ret
          exact ⟨ret_bool (hv.out.trans hz.out).symm, HB.out⟩
        · cases e3 : (p == 5)
          all_goals
            have hz := Lib.hid (rb_full h (p := p) (l := l) _ (by rw [e1, e2, e3]))
            go_enter Try.func75, Try.ntmps75
            go_wp2_with fail
            refine (H.out _).mono ?_
            rintro e w1 ⟨rfl, hb1⟩
            have HB := Lib.hid hb1
            clear hb1
            go_wp2_with fail
            go_ret
            exact ⟨ret_bool (hv.out.trans hz.out).symm, HB.out⟩
      · have hz := Lib.hid (rb_full h (p := p) (l := l) true (by rw [e1]; rfl))
        go_enter Try.func75, Try.ntmps75
        go_wp2_with fail
        refine (H.out _).mono ?_
        rintro e w1 ⟨rfl, hb1⟩
        have HB := Lib.hid hb1
        clear hb1
        go_wp2_with fail
        go_ret
        exact ⟨ret_bool (hv.out.trans hz.out).symm, HB.out⟩

theorem infoInt : (Try.prog.info? 3).map (fun i => (i.zero, i.size, i.bytes)) = some (some (.int .i64 0), 1, 8) := by kernel_rfl
theorem IntsAt.app {B : Nat} {v v' : Value} {xs : List Int} {a : Int} {w w1 w2 : World} {o : Obj} (hv : IntsAt B v xs w1) (hB : Below B w w1) (hs : B ≤ w1.heap.size)
    (hown : w2.ownsRow B 3 1 v' (xs.length + 1) (xs.map (Value.int .i64) ++ [.int .i64 a])) (hg : (w1.alloc o).grownBy w2 v.ownBlock) : IntsAt B v' (xs ++ [a]) w2 ∧ Below B w w2 := by
  refine ⟨?_, (hB.alloc hs _).grown hg (by simp; omega) (fun k e => (World.ownsRow.lt hv k e).1)⟩
  rw [IntsAt, List.length_append, List.map_append]
  exact hown
end Go.Proofs.Ytnofmlkjagdklaa

namespace Go.Proofs.Ytnofmlkjagdklaa
open Go.RowKit

def numsB (xs ys : List Int) : Bool := decide (xs = ys)
theorem nums_len {xs ys : List Int} (h : ¬ xs.length = ys.length) : numsB xs ys = false := by
  rw [numsB, decide_eq_false_iff_not]; intro e; exact h (by rw [e])
theorem nums_diff {xs ys : List Int} {k : Nat} (h : (xs.getD k 0 != ys.getD k 0) = true) : numsB xs ys = false := by
  rw [numsB, decide_eq_false_iff_not]; intro e; subst e; simp at h
theorem nums_all {xs ys : List Int} (h : xs.length = ys.length) (g : xs.take xs.length = ys.take xs.length) : numsB xs ys = true := by
  rw [numsB, decide_eq_true_iff]
  rwa [List.take_length, h, List.take_length] at g
theorem take_same {xs ys : List Int} {k : Nat} (hx : k < xs.length) (hy : k < ys.length) (h : (xs.getD k 0 != ys.getD k 0) = false) (g : xs.take k = ys.take k) : xs.take (k + 1) = ys.take (k + 1) := by
  rw [List.take_succ_eq_append_getElem hx, List.take_succ_eq_append_getElem hy, g]
  simp [List.getElem?_eq_getElem hx, List.getElem?_eq_getElem hy] at h
  rw [h]
theorem nums_any (va vb : Value) (xs ys : List Int) (w : World) {A B : Nat} (ha : IntsAt A va xs w) (hb : IntsAt B vb ys w) :
    Calls Try.prog 21 #[va, vb] w fun e w' => e = .returned (.bool (numsB xs ys)) ∧ Below w.heap.size w w' := by
  rcases ha.get with ⟨rfl, rfl⟩ | ⟨g, ca, rfl, hi⟩
  · rcases hb.get with ⟨rfl, rfl⟩ | ⟨g, cb, rfl, hi⟩
    · clear ha hb
      go_enter Try.func21, Try.ntmps21
      go_wp2
      refine wp_loop_rounds 1 ?_
      rw [rounds_succ]
      go_wp2
      go_ret
      exact ⟨rfl, Below.refl _ _⟩
    · cases ys with
      | nil =>
        clear ha hb hi
        go_enter Try.func21, Try.ntmps21
        go_wp2
        refine wp_loop_rounds 1 ?_
        rw [rounds_succ]
        go_wp2
        go_ret
        exact ⟨rfl, Below.refl _ _⟩
      | cons y ys =>
        have hlen : (y :: ys).length ≤ 9223372036854775807 := by have := hi.le; have := hi.mx; unfold maxLen at this; omega
        have hp : 0 < (y :: ys).length := by simp
        clear ha hb hi
        have hv := Lib.hid (show numsB [] (y :: ys) = false by rw [numsB, decide_eq_false_iff_not]; intro h; cases h)
        generalize (y :: ys).length = n at *
        have hq : ((0 : Int) != (n : Int)) = true := by rw [bne_iff_ne]; omega
        go_enter Try.func21, Try.ntmps21
        go_wp2
        go_ret
        exact ⟨ret_bool hv.out.symm, Below.refl _ _⟩
  · have hla : xs.length ≤ 9223372036854775807 := by have := hi.le; have := hi.mx; unfold maxLen at this; omega
    rcases hb.get with ⟨rfl, rfl⟩ | ⟨g', cb, rfl, hj⟩
    · cases xs with
      | nil =>
        clear ha hb hi
        go_enter Try.func21, Try.ntmps21
        go_wp2
        refine wp_loop_rounds 1 ?_
        rw [rounds_succ]
        go_wp2
        go_ret
        exact ⟨rfl, Below.refl _ _⟩
      | cons x xs =>
        have hp : 0 < (x :: xs).length := by simp
        clear ha hb hi
        have hv := Lib.hid (show numsB (x :: xs) [] = false by rw [numsB, decide_eq_false_iff_not]; intro h; cases h)
        generalize (x :: xs).length = n at *
        have hq : ((n : Int) != 0) = true := by rw [bne_iff_ne]; omega
        go_enter Try.func21, Try.ntmps21
        go_wp2
        go_ret
        exact ⟨ret_bool hv.out.symm, Below.refl _ _⟩
    · have hlb : ys.length ≤ 9223372036854775807 := by have := hj.le; have := hj.mx; unfold maxLen at this; omega
      by_cases hab : xs.length = ys.length
      · have HAB := Lib.hid hab
        have HI := Lib.hid hi
        have HJ := Lib.hid hj
        have hq : ((xs.length : Int) != (ys.length : Int)) = false := by rw [bne_eq_false_iff_eq, hab]
        rw [← hab] at hq ⊢
        clear ha hb hi hj hlb hab
        generalize hn : xs.length = n at *
        have HN := Lib.hid hn
        clear hn
        go_enter Try.func21, Try.ntmps21
        go_wp2
        go_loopw [5] (fun i wr => ∃ k : Nat, k ≤ n ∧ i = .int .i64 k ∧ xs.take k = ys.take k ∧ Below w.heap.size w wr) (fun i _ => n - (intOf i).toNat)
        case atStart => exact ⟨0, Nat.zero_le _, rfl, rfl, Below.refl _ _⟩
        case round =>
          obtain ⟨k, hk, rfl, htk, hbw⟩ := hrel
          have HT := Lib.hid htk
          have HW := Lib.hid hbw
          clear htk hbw
          by_cases hlt : k < n
          · have c1 := (HI.out.on HW.out).cell k (by rw [HN.out]; exact hlt)
            have c2 := (HJ.out.on HW.out).cell k (by rw [← HAB.out]; exact hlt)
            have hx := Lib.hid (fun h : (xs.getD k 0 != ys.getD k 0) = true => nums_diff h)
            have hy := Lib.hid (fun h : (xs.getD k 0 != ys.getD k 0) = false => take_same (by rw [HN.out]; exact hlt) (by rw [← HAB.out]; exact hlt) h HT.out)
            generalize xs.getD k 0 = x at *
            generalize ys.getD k 0 = y at *
            cases hxy : (x != y)
            · go_wp2_with fail
              go_quiet (fail)
              go_wp2_with fail
              go_roundw
              case rel => exact ⟨k + 1, by omega, by go_num, hy.out hxy, below_dn HW.out _⟩
              case measure => simp [intOf]; omega
            · go_wp2_with fail
              go_quiet (fail)
              go_wp2_with fail
              go_ret
              exact ⟨ret_bool (hx.out hxy).symm, below_dn HW.out _⟩
          · have hv := Lib.hid (nums_all (xs := xs) (ys := ys) (HN.out.trans HAB.out) (by rw [HN.out, ← show k = n by omega]; exact HT.out))
            go_wp2_with fail
            go_ret
            exact ⟨ret_bool hv.out.symm, HW.out⟩
      · have hv := Lib.hid (nums_len hab)
        have hq : ((xs.length : Int) != (ys.length : Int)) = true := by rw [bne_iff_ne]; omega
        clear ha hb hi hj hab
        generalize xs.length = n at *
        generalize ys.length = n' at *
        go_enter Try.func21, Try.ntmps21
        go_wp2
        go_ret
        exact ⟨ret_bool hv.out.symm, Below.refl _ _⟩
end Go.Proofs.Ytnofmlkjagdklaa
