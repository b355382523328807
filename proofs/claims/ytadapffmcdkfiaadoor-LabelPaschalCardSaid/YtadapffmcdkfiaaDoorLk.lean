/- The law's own dayOfYear; awake of stage 8. -/
import Derived.Test.YtadapffmcdkfiaaDoorLh
import Derived.Test.YtadapffmcdkfiaaDoorLj
namespace Go.Proofs.YtadapffmcdkfiaaDoor
open Go.RowKit

theorem nums_yes (va vb : Value) (xs : List Int) (w : World) {A B : Nat} (ha : IntsAt A va xs w) (hb : IntsAt B vb xs w) :
    Calls Tryd.prog 11 #[va, vb] w fun e w' => e = .returned (.bool true) ∧ Below w.heap.size w w' := by
  have := nums_any va vb xs xs w ha hb
  rwa [show numsB xs xs = true by simp [numsB]] at this
theorem lon_is (m d : Int) (xs : List Int) (h : onD m d = xs) (w : World) (ht : LTab w) : Calls Tryd.prog 12 #[.int .i64 m, .int .i64 d] w (RetInts xs w) := by
  rw [← h]; exact lon_any m d w ht
theorem lbears_is (m d l : Int) (b : Bool) (h : bears m d l = b) (w : World) (ht : LTab w) : Calls Tryd.prog 14 #[.int .i64 m, .int .i64 d, .int .i64 l] w fun e w' => e = .returned (.bool b) ∧ Below w.heap.size w w' := by
  rw [← h]; exact lbears_any m d l w ht
theorem lpos_is (m d k p : Int) (b : Bool) (h1 : lunM m d = k) (h2 : posM m d = p) (h3 : okD m d = b) (w : World) (ht : LTab w) :
    Calls Tryd.prog 9 #[.int .i64 m, .int .i64 d] w fun e w' => e = .returned (.tuple #[.int .i64 k, .int .i64 p, .bool b]) ∧ Below w.heap.size w w' := by
  rw [← h1, ← h2, ← h3]; exact lpos_any m d w ht
theorem PairsAt.opens {B : Nat} {v : Value} {ps : List (Int × Int)} {w : World} (h : PairsAt B v ps w) (hp : 0 < ps.length) : ∃ g cap, v = .slice (some ⟨g, 0, none⟩) ps.length cap := by
  rcases h.2 with ⟨_, h0⟩ | ⟨g, cap, _, rfl, _⟩
  · omega
  · exact ⟨g, cap, rfl⟩
theorem days_len (l : Int) (k : Nat) (h : (days l).length = k + 1) (w : World) (ht : LTab w) : Calls Tryd.prog 16 #[.int .i64 l] w fun e w' => (∃ g cap, e = .returned (.slice (some ⟨g, 0, none⟩) (k + 1) cap)) ∧ Below w.heap.size w w' :=
  (days_any l w ht).mono fun e w' hr => by
    obtain ⟨v, rfl, hv, hb⟩ := hr
    obtain ⟨g, cap, rfl⟩ := hv.opens (by omega)
    rw [h]
    exact ⟨⟨g, cap, rfl⟩, hb⟩
/-- A slice of n integers of the call's own, opened. -/
def RetOpen (n : Nat) (xs : List Int) (w : World) (e : Ending) (w' : World) : Prop := ∃ g cap, e = .returned (.slice (some ⟨g, 0, none⟩) n cap) ∧ IntsIn g cap xs w' ∧ Below w.heap.size w w'
theorem RetInts.opened {n : Nat} {xs : List Int} {w : World} {e : Ending} {w' : World} (h : RetInts xs w e w') (hx : xs.length = n) (hn : 0 < n) : RetOpen n xs w e w' := by
  obtain ⟨v, rfl, hv, hb⟩ := h
  rcases hv.get with ⟨_, rfl⟩ | ⟨g, cap, rfl, hi⟩
  · simp at hx; omega
  · exact ⟨g, cap, by rw [hx], hi, hb⟩
theorem lon_open (m d : Int) (n : Nat) (hx : (onD m d).length = n) (hn : 0 < n) (w : World) (ht : LTab w) : Calls Tryd.prog 12 #[.int .i64 m, .int .i64 d] w (RetOpen n (onD m d) w) :=
  (lon_any m d w ht).mono fun _ _ h => h.opened hx hn
theorem rex_is (m d : Int) (b : Bool) (h : okD m d = b) (w : World) : Calls Tryd.prog 19 #[.int .i64 m, .int .i64 d] w fun e w' => e = .returned (.bool b) ∧ w = w' := by
  rw [← h]; exact rex_any m d w
theorem below_al_own {W w : World} (h : Below W.heap.size W w) (o : Obj) : Below W.heap.size W (w.alloc o) := h.alloc h.size o
set_option maxRecDepth 10000 in
set_option maxHeartbeats 1000000 in
theorem c8awake_any (W : World) (ht : LTab W) :
    Calls Tryd.prog 8 #[] W fun e w' => e = .returned (.bool true) ∧ Below W.heap.size W w' := by
  have S0 := Lib.hid (Below.refl W.heap.size W)
  have T0 := Lib.hid ht
  clear ht
  go_enter Tryd.func8, Tryd.ntmps8
  go_wp2_with fail
  refine (lpos_is 4 5 3 5 true rfl rfl rfl _ T0.out).mono ?_
  rintro e w1 ⟨rfl, hb1⟩
  have S1 := Lib.hid (below_on S0.out hb1)
  have T1 := Lib.hid (T0.out.on hb1)
  clear hb1
  go_wp2_with fail
  refine (lpos_is 2 29 0 0 false rfl rfl rfl _ T1.out).mono ?_
  rintro e w2 ⟨rfl, hb2⟩
  have S2 := Lib.hid (below_on S1.out hb2)
  have T2 := Lib.hid (T1.out.on hb2)
  clear hb2
  go_wp2_with fail
  refine (lon_is 1 1 [30] rfl _ T2.out).mono ?_
  rintro e w3 ⟨v3, rfl, hv3, hb3⟩
  have S3 := Lib.hid (below_on S2.out hb3)
  have T3 := Lib.hid (T2.out.on hb3)
  have V3 := Lib.hid hv3
  clear hb3 hv3
  go_wp2_with fail
  refine (nums_yes _ _ [30] _ (V3.out.al _) (IntsAt.made1 _ _)).mono ?_
  rintro e w4 ⟨rfl, hb4⟩
  have S4 := Lib.hid (below_on (below_al_own S3.out _) hb4)
  have T4 := Lib.hid ((T3.out.al _).on hb4)
  clear hb4
  go_wp2_with fail
  refine (lon_is 3 8 [23] rfl _ T4.out).mono ?_
  rintro e w5 ⟨v5, rfl, hv5, hb5⟩
  have S5 := Lib.hid (below_on S4.out hb5)
  have T5 := Lib.hid (T4.out.on hb5)
  have V5 := Lib.hid hv5
  clear hb5 hv5
  go_wp2_with fail
  refine (nums_yes _ _ [23] _ (V5.out.al _) (IntsAt.made1 _ _)).mono ?_
  rintro e w6 ⟨rfl, hb6⟩
  have S6 := Lib.hid (below_on (below_al_own S5.out _) hb6)
  have T6 := Lib.hid ((T5.out.al _).on hb6)
  clear hb6
  go_wp2_with fail
  refine (lon_is 4 4 [31, 26] rfl _ T6.out).mono ?_
  rintro e w7 ⟨v7, rfl, hv7, hb7⟩
  have S7 := Lib.hid (below_on S6.out hb7)
  have T7 := Lib.hid (T6.out.on hb7)
  have V7 := Lib.hid hv7
  clear hb7 hv7
  go_wp2_with fail
  refine (nums_yes _ _ [31, 26] _ (V7.out.al _) (IntsAt.made2 _ _ _)).mono ?_
  rintro e w8 ⟨rfl, hb8⟩
  have S8 := Lib.hid (below_on (below_al_own S7.out _) hb8)
  have T8 := Lib.hid ((T7.out.al _).on hb8)
  clear hb8
  go_wp2_with fail
  refine (lon_is 4 5 [25, 24] rfl _ T8.out).mono ?_
  rintro e w9 ⟨v9, rfl, hv9, hb9⟩
  have S9 := Lib.hid (below_on S8.out hb9)
  have T9 := Lib.hid (T8.out.on hb9)
  have V9 := Lib.hid hv9
  clear hb9 hv9
  go_wp2_with fail
  refine (nums_yes _ _ [25, 24] _ (V9.out.al _) (IntsAt.made2 _ _ _)).mono ?_
  rintro e w10 ⟨rfl, hb10⟩
  have S10 := Lib.hid (below_on (below_al_own S9.out _) hb10)
  have T10 := Lib.hid ((T9.out.al _).on hb10)
  clear hb10
  go_wp2_with fail
  refine (lbears_is 4 5 24 true rfl _ T10.out).mono ?_
  rintro e w11 ⟨rfl, hb11⟩
  have S11 := Lib.hid (below_on S10.out hb11)
  have T11 := Lib.hid (T10.out.on hb11)
  clear hb11
  go_wp2_with fail
  refine (lbears_is 4 5 26 false rfl _ T11.out).mono ?_
  rintro e w12 ⟨rfl, hb12⟩
  have S12 := Lib.hid (below_on S11.out hb12)
  have T12 := Lib.hid (T11.out.on hb12)
  clear hb12
  go_wp2_with fail
  refine (days_len 30 12 (by kernel_rfl) _ T12.out).mono ?_
  rintro e w13 ⟨⟨g, cap, rfl⟩, hb13⟩
  have S13 := Lib.hid (below_on S12.out hb13)
  have T13 := Lib.hid (T12.out.on hb13)
  clear hb13
  go_wp2_with fail
  go_ret
  exact ⟨rfl, S13.out⟩
theorem ldy_any (m d : Int) (w : World) (m1 : 1 ≤ m) (m2 : m ≤ 12) (d1 : 1 ≤ d) (d2 : d ≤ 31) :
    Calls Tryd.prog 18 #[.int .i64 m, .int .i64 d] w fun e w' => e = .returned (.int .i64 (doy m d)) ∧ w = w' := by
  have hz : cum false 1 = 0 := cum_one false
  have HS := Lib.hid (fun k h1 h2 => cum_succ false k h1 h2)
  have HB := Lib.hid (fun k h1 h2 => cum_bd false k h1 h2)
  have HZ := Lib.hid hz
  clear hz
  go_enter Tryd.func18, Tryd.ntmps18
  go_wp2
  go_loop [1, 5] (fun s i => ∃ k : Int, 1 ≤ k ∧ k ≤ m ∧ i = .int .i64 k ∧ s = .int .i64 (cum false k + d)) (fun _ i => (m - intOf i).toNat)
  case atStart => exact ⟨1, by omega, by omega, rfl, by rw [HZ.out]; simp⟩
  case round =>
    obtain ⟨k, hk1, hk, rfl, rfl⟩ := hrel
    have hb := HB.out k (by omega) (by omega)
    have hd := dim_bd false k (by omega) (by omega)
    by_cases hlt : k < m
    · have hs := Lib.hid (HS.out k (by omega) (by omega))
      go_wp2_with fail
      refine (rlen_any _ _ _).mono ?_
      rintro e wq ⟨rfl, rfl⟩
      go_wp2_with fail
      go_round
      case rel => exact ⟨k + 1, by omega, by omega, by go_num, by rw [hs.out]; go_num⟩
      case measure => simp [intOf]; omega
    · go_wp2_with fail
      go_ret
      exact ⟨ret_int (by rw [show k = m by omega]; rfl), rfl⟩
end Go.Proofs.YtadapffmcdkfiaaDoor
