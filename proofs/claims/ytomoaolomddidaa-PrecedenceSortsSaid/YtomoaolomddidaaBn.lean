/- Stage 20's law PrecedenceSorts, given what package precedence's functions answer: the empty list; every list. -/
import Derived.Test.YtomoaolomddidaaBm
namespace Go.Proofs.Ytomoaolomddidaa
open Go.RowKit

set_option maxHeartbeats 1000000 in
set_option maxRecDepth 100000 in
theorem l20s_nil (M : PP) (v : Value) (a : Nat) (W : World) (h : CsAt W v []) : Calls Try.prog 5 #[v, .int .u8 a] W fun e w' => e = .returned (.bool true) ∧ Below W.heap.size W w' := by
  have HA := Lib.hid (fun u => c20awake_any M u)
  have HF := Lib.hid (fun v l u h1 h2 => fwd_any v l u h1 h2)
  have HP := Lib.hid (fun v l u h1 h2 => M.so v l u h1 h2)
  have HQ := Lib.hid (fun v u (hv : CsAt u v []) => (show Calls Try.prog 9 #[v] u (fun e w' => e = .returned (.tuple #[cdv zcd, .bool false]) ∧ Below u.heap.size u w') from M.fi v [] u (by simp) hv))
  clear M
  have H := Lib.hid h
  obtain ⟨A, cap, hA, k1, k2, k3⟩ := h
  clear k1 k2 k3
  subst hA
  go_enter Try.func5, Try.ntmps5
  go_wp2_with fail
  refine (HA.out _).mono ?_
  rintro e w1 ⟨rfl, hb1⟩
  have B1 := Lib.hid hb1
  have H1 := Lib.hid (H.out.on hb1)
  clear hb1 H
  go_wp2_with fail
  refine (HF.out _ [] _ (by simp) H1.out).mono ?_
  rintro e w2 ⟨v2, rfl, hv2, hb2⟩
  go_wp2_with fail
  refine (HP.out _ [] _ (by simp) hv2.cs).mono ?_
  rintro e w3 ⟨v5, rfl, hv5, hb3⟩
  have B3 := Lib.hid (below_on (below_on B1.out hb2) hb3)
  have H3 := Lib.hid ((H1.out.on hb2).on hb3)
  obtain ⟨A5, cap5, hA5, k1, k2, k3⟩ := hv5
  rw [show (srtR []).length = 0 from rfl] at hA5
  subst hA5
  clear hb2 hb3 hv2 H1 B1 k1 k2 k3
  go_wp2_with fail
  refine (HF.out _ [] _ (by simp) H3.out).mono ?_
  rintro e w4 ⟨v4, rfl, hv4, hb4⟩
  go_wp2_with fail
  refine (HQ.out _ _ hv4.cs).mono ?_
  rintro e w5 ⟨rfl, hb5⟩
  have hq5 : Below w5.heap.size w5 (w5.alloc (Obj.cells #[.int .i64 0, .int .i64 0, .int .i64 0, .string ⟨#[]⟩] 29)) := (Below.refl _ _).alloc (Nat.le_refl _) _
  have B5 := Lib.hid (below_on (below_on (below_on B3.out hb4) hb5) hq5)
  clear hb4 hb5 hv4 H3 B3 hq5
  go_wp2_with fail
  go_quiet (fail)
  have B6 := Lib.hid (below_dn B5.out nq)
  clear B5
  go_wp2_with fail
  go_loopw [8] (fun iv wr => iv = .int .i64 1 ∧ Below W.heap.size W wr) (fun _ _ => 0)
  case atStart => exact ⟨rfl, B6.out⟩
  case round =>
    obtain ⟨rfl, hb⟩ := hrel
    have HB := Lib.hid hb
    clear hb
    go_wp2_with fail
    go_ret
    exact ⟨rfl, HB.out⟩
theorem l20sorts (M : PP) (v : Value) (l : List Cd) (a : Nat) (ha : a ≤ 255) (W : World) (h : CsAt W v l) : Calls Try.prog 5 #[v, .int .u8 a] W fun e w' => e = .returned (.bool true) ∧ Below W.heap.size W w' := by
  by_cases g : 60 < l.length
  · exact l20s_far M v l a W h g
  · by_cases z : l.length = 0
    · obtain rfl : l = [] := List.eq_nil_of_length_eq_zero z
      exact l20s_nil M v a W h
    · exact l20s_ok M v l a ha (hdR l).k (hdR l).i (hdR l).r (hdR l).id W h (by omega) (by omega) rfl
end Go.Proofs.Ytomoaolomddidaa
