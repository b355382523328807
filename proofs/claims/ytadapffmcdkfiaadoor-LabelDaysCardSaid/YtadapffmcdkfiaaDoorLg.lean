/- The reference's Bears, On, Numbers (computusref08). -/
import Derived.Test.YtadapffmcdkfiaaDoorLf
import Derived.LoopTactic
import Derived.OwnWalk
import Derived.Maps.AppendAt
namespace Go.Proofs.YtadapffmcdkfiaaDoor
open Go.RowKit

theorem rb_full {k p l : Int} (h : (k % 2 == 0) = true) (b : Bool) (e : ((l == 30 - p) || ((l == 31) && (p == 5))) = b) : (onL k p).contains l = b := by
  rw [← e, onL, if_pos (beq_iff_eq.1 h), fullL]
  split
  · rename_i g; subst g; rw [Bool.eq_iff_iff]; simp; omega
  · rename_i g; rw [Bool.eq_iff_iff]; simp; omega
theorem rb_low {k p l : Int} (h : (k % 2 == 0) = false) (g : p ≤ 4) (b : Bool) (e : ((l == 30 - p) || ((l == 31) && (p == 4))) = b) : (onL k p).contains l = b := by
  rw [← e, onL, if_neg (by simpa using h), hollowL]
  split
  · rw [Bool.eq_iff_iff]; simp; omega
  · rw [if_pos (by omega)]; rw [Bool.eq_iff_iff]; simp; omega
theorem rb_five {k p l : Int} (h : (k % 2 == 0) = false) (g : p = 5) (b : Bool) (e : ((l == 25) || (l == 24)) = b) : (onL k p).contains l = b := by
  rw [← e, onL, if_neg (by simpa using h), hollowL, if_neg (by omega), if_neg (by omega), if_pos g]
  rw [Bool.eq_iff_iff]; simp
theorem rb_high {k p l : Int} (h : (k % 2 == 0) = false) (g : 6 ≤ p) (b : Bool) (e : (l == 29 - p) = b) : (onL k p).contains l = b := by
  rw [← e, onL, if_neg (by simpa using h), hollowL, if_neg (by omega), if_neg (by omega), if_neg (by omega)]
  rw [Bool.eq_iff_iff]; simp
theorem rbears_any (m d l : Int) (w : World) :
    Calls Tryd.prog 15 #[.int .i64 m, .int .i64 d, .int .i64 l] w fun e w' => e = .returned (.bool (bears m d l)) ∧ Below w.heap.size w w' := by
  have H := Lib.hid (fun w => rpos_any m d w)
  have hl := lunM_bd m d
  have hp := posM_bd m d
  cases hd : okD m d
  · have hv := Lib.hid (show bears m d l = false by rw [bears, onD_no hd]; rfl)
    rw [hd] at H
    clear hd
    go_enter Tryd.func15, Tryd.ntmps15
    go_wp2_with fail
    refine (H.out _).mono ?_
    rintro e w1 ⟨rfl, hb1⟩
    have HB := Lib.hid hb1
    clear hb1
    go_wp2_with fail
    go_ret
    exact ⟨ret_bool hv.out.symm, HB.out⟩
  · have hv := Lib.hid (show bears m d l = (onL (lunM m d) (posM m d)).contains l by rw [bears, onD_at hd])
    rw [hd] at H
    clear hd
    generalize lunM m d = k at *
    generalize posM m d = p at *
    cases h : (k % 2 == 0)
    · have h' : p ≤ 4 ∨ p = 5 ∨ 6 ≤ p := by omega
      rcases h' with g | g | g
      · cases e1 : (l == 30 - p)
        · cases e2 : (l == 31)
          · have hz := Lib.hid (rb_low h g (l := l) false (by rw [e1, e2]; rfl))
            go_enter Tryd.func15, Tryd.ntmps15
            go_wp2_with fail
            refine (H.out _).mono ?_
            rintro e w1 ⟨rfl, hb1⟩
            have HB := Lib.hid hb1
            clear hb1
            go_wp2_with fail
            go_ret
            exact ⟨ret_bool (hv.out.trans hz.out).symm, HB.out⟩
          · cases e3 : (p == 4)
            · have hz := Lib.hid (rb_low h g (l := l) false (by rw [e1, e2, e3]; rfl))
              go_enter Tryd.func15, Tryd.ntmps15
              go_wp2_with fail
              refine (H.out _).mono ?_
              rintro e w1 ⟨rfl, hb1⟩
              have HB := Lib.hid hb1
              clear hb1
              go_wp2_with fail
              go_ret
              exact ⟨ret_bool (hv.out.trans hz.out).symm, HB.out⟩
            · have hz := Lib.hid (rb_low h g (l := l) true (by rw [e1, e2, e3]; rfl))
              go_enter Tryd.func15, Tryd.ntmps15
              go_wp2_with fail
              refine (H.out _).mono ?_
              rintro e w1 ⟨rfl, hb1⟩
              have HB := Lib.hid hb1
              clear hb1
              go_wp2_with fail
              go_ret
              exact ⟨ret_bool (hv.out.trans hz.out).symm, HB.out⟩
        · have hz := Lib.hid (rb_low h g (l := l) true (by rw [e1]; rfl))
          go_enter Tryd.func15, Tryd.ntmps15
          go_wp2_with fail
          refine (H.out _).mono ?_
          rintro e w1 ⟨rfl, hb1⟩
          have HB := Lib.hid hb1
          clear hb1
          go_wp2_with fail
          go_ret
          exact ⟨ret_bool (hv.out.trans hz.out).symm, HB.out⟩
      · cases e1 : (l == 25)
        · cases e2 : (l == 24)
          all_goals
            have hz := Lib.hid (rb_five h g (l := l) _ (by rw [e1, e2]))
            go_enter Tryd.func15, Tryd.ntmps15
            go_wp2_with fail
            refine (H.out _).mono ?_
            rintro e w1 ⟨rfl, hb1⟩
            have HB := Lib.hid hb1
            clear hb1
            go_wp2_with fail
            go_ret
            exact ⟨ret_bool (hv.out.trans hz.out).symm, HB.out⟩
        · have hz := Lib.hid (rb_five h g (l := l) true (by rw [e1]; rfl))
          go_enter Tryd.func15, Tryd.ntmps15
          go_wp2_with fail
          refine (H.out _).mono ?_
          rintro e w1 ⟨rfl, hb1⟩
          have HB := Lib.hid hb1
          clear hb1
          go_wp2_with fail
          go_ret
          exact ⟨ret_bool (hv.out.trans hz.out).symm, HB.out⟩
      · have e5 : (p == 5) = false := by rw [beq_eq_false_iff_ne]; omega
        have hz := Lib.hid (rb_high h g (l := l) _ rfl)
        go_enter Tryd.func15, Tryd.ntmps15
        go_wp2_with fail
        refine (H.out _).mono ?_
        rintro e w1 ⟨rfl, hb1⟩
        have HB := Lib.hid hb1
        clear hb1
        go_wp2_with fail
        go_ret
        exact ⟨ret_bool (hv.out.trans hz.out).symm, HB.out⟩
    · cases e1 : (l == 30 - p)
      · cases e2 : (l == 31)
        · have hz := Lib.hid (rb_full h (p := p) (l := l) false (by rw [e1, e2]; rfl))
          go_enter Tryd.func15, Tryd.ntmps15
          go_wp2_with fail
          refine (H.out _).mono ?_
          rintro e w1 ⟨rfl, hb1⟩
          have HB := Lib.hid hb1
          clear hb1
          go_wp2_with fail
          go_ret
          exact ⟨ret_bool (hv.out.trans hz.out).symm, HB.out⟩
        · cases e3 : (p == 5)
          all_goals
            have hz := Lib.hid (rb_full h (p := p) (l := l) _ (by rw [e1, e2, e3]))
            go_enter Tryd.func15, Tryd.ntmps15
            go_wp2_with fail
            refine (H.out _).mono ?_
            rintro e w1 ⟨rfl, hb1⟩
            have HB := Lib.hid hb1
            clear hb1
            go_wp2_with fail
            go_ret
            exact ⟨ret_bool (hv.out.trans hz.out).symm, HB.out⟩
      · have hz := Lib.hid (rb_full h (p := p) (l := l) true (by rw [e1]; rfl))
        go_enter Tryd.func15, Tryd.ntmps15
        go_wp2_with fail
        refine (H.out _).mono ?_
        rintro e w1 ⟨rfl, hb1⟩
        have HB := Lib.hid hb1
        clear hb1
        go_wp2_with fail
        go_ret
        exact ⟨ret_bool (hv.out.trans hz.out).symm, HB.out⟩

/-! On -/
theorem infoInt : (Tryd.prog.info? 3).map (fun i => (i.zero, i.size, i.bytes)) = some (some (.int .i64 0), 1, 8) := by kernel_rfl
theorem IntsAt.app {B : Nat} {v v' : Value} {xs : List Int} {a : Int} {w w1 w2 : World} {o : Obj} (hv : IntsAt B v xs w1) (hB : Below B w w1) (hs : B ≤ w1.heap.size)
    (hown : w2.ownsRow B 3 1 v' (xs.length + 1) (xs.map (Value.int .i64) ++ [.int .i64 a])) (hg : (w1.alloc o).grownBy w2 v.ownBlock) : IntsAt B v' (xs ++ [a]) w2 ∧ Below B w w2 := by
  refine ⟨?_, (hB.alloc hs _).grown hg (by simp; omega) (fun k e => (World.ownsRow.lt hv k e).1)⟩
  rw [IntsAt, List.length_append, List.map_append]
  exact hown
def all31 : List Int := [31, 30, 29, 28, 27, 26, 25, 24, 23, 22, 21, 20, 19, 18, 17, 16, 15, 14, 13, 12, 11, 10, 9, 8, 7, 6, 5, 4, 3, 2, 1]
def onP (m d : Int) (k : Nat) : List Int := (all31.take k).filter fun l => bears m d l
theorem all31_at (k : Nat) (hk : k < 31) : all31.take (k + 1) = all31.take k ++ [31 - (k : Int)] := by
  have := all_lt 31 (fun k => all31.take (k + 1) == all31.take k ++ [31 - (k : Int)]) (by kernel_rfl) k hk
  simpa using this
theorem onP_yes {m d : Int} {k : Nat} (hk : k < 31) (h : bears m d (31 - (k : Int)) = true) : onP m d (k + 1) = onP m d k ++ [31 - (k : Int)] := by
  rw [onP, all31_at k hk, List.filter_append, onP]; simp [h]
theorem onP_no {m d : Int} {k : Nat} (hk : k < 31) (h : bears m d (31 - (k : Int)) = false) : onP m d (k + 1) = onP m d k := by
  rw [onP, all31_at k hk, List.filter_append, onP]; simp [h]
theorem onP_le (m d : Int) (k : Nat) : (onP m d k).length ≤ 31 := by
  refine Nat.le_trans (List.length_filter_le _ _) ?_
  rw [List.length_take]; exact Nat.min_le_right _ _
theorem onP_end (m d : Int) : onP m d 31 = onD m d := by
  cases h : okD m d
  · rw [onD_no h, onP]
    have : ∀ l, bears m d l = false := fun l => by rw [bears, onD_no h]; rfl
    simp [this]
  · obtain ⟨m1, m2, d1, d2⟩ := okD_bd h
    have := all_md (fun m d => onP m d 31 == onD m d) (by kernel_rfl) m d m1 m2 d1 d2
    simpa using this
set_option maxHeartbeats 400000 in
theorem ron_any (m d : Int) (w : World) :
    Calls Tryd.prog 13 #[.int .i64 m, .int .i64 d] w (RetInts (onD m d) w) := by
  obtain ⟨i0, hi, hz0, hz1, hz2⟩ := info_parts infoInt
  go_enter Tryd.func13, Tryd.ntmps13
  go_wp2
  go_loopw [5, 6] (fun v l wr => ∃ k : Nat, k ≤ 31 ∧ l = .int .i64 (31 - (k : Int)) ∧ Below w.heap.size w wr ∧ IntsAt w.heap.size v (onP m d k) wr) (fun _ l _ => (intOf l).toNat)
  case atStart => exact ⟨0, by omega, rfl, Below.refl _ _, IntsAt.nil _ _⟩
  case round =>
    obtain ⟨k, hk, rfl, hb, hv⟩ := hrel
    have HB := Lib.hid hb
    have HV := Lib.hid hv
    clear hb hv
    by_cases hlt : k < 31
    · have hle := onP_le m d k
      cases hbr : bears m d (31 - (k : Int))
      · have HP := Lib.hid (onP_no hlt hbr)
        have HR := Lib.hid (fun w => by have := rbears_any m d (31 - (k : Int)) w; rwa [hbr] at this : ∀ w, Calls Tryd.prog 15 #[.int .i64 m, .int .i64 d, .int .i64 (31 - (k : Int))] w fun e w' => e = .returned (.bool false) ∧ Below w.heap.size w w')
        clear hbr
        go_wp2_with fail
        refine (HR.out _).mono ?_
        rintro e w1 ⟨rfl, hb1⟩
        have HB1 := Lib.hid (below_on HB.out hb1)
        have HV1 := Lib.hid (HV.out.on hb1)
        clear hb1
        go_wp2_with fail
        go_roundw
        case rel => exact ⟨k + 1, by omega, by go_num, HB1.out, by rw [HP.out]; exact HV1.out⟩
        case measure => simp [intOf]; omega
      · have HP := Lib.hid (onP_yes hlt hbr)
        have HR := Lib.hid (fun w => by have := rbears_any m d (31 - (k : Int)) w; rwa [hbr] at this : ∀ w, Calls Tryd.prog 15 #[.int .i64 m, .int .i64 d, .int .i64 (31 - (k : Int))] w fun e w' => e = .returned (.bool true) ∧ Below w.heap.size w w')
        clear hbr
        go_wp2_with fail
        refine (HR.out _).mono ?_
        rintro e w1 ⟨rfl, hb1⟩
        have HB1 := Lib.hid (below_on HB.out hb1)
        have HV1 := Lib.hid (HV.out.on hb1)
        have hz := Lib.hid (Nat.le_trans HB.out.size hb1.size)
        clear hb1
        go_wp2_with (at_builtin; refine wpList_append_own _ rfl _ _ 26 rfl w.heap.size 3 i0 (.int .i64 0) 1 8 Tryd.underlying26 hi hz0 hz1 hz2 rfl (by decide) _ _ _ rfl (HV1.out.al _) ⟨w1.heap.size, 0, none⟩ 1 1 [.int .i64 (31 - (k : Int))] rfl rfl (cell_one_new _ _ _) (by simp [Value.oneCell']) (by unfold maxLen; omega) (by omega) (by have := hz.out; simp; omega) ?_; intro v' w2 hown' hgrow _; obtain ⟨hv2, hb2⟩ := HV1.out.app HB1.out hz.out hown' hgrow; have HV2 := Lib.hid hv2; have HB2 := Lib.hid hb2; clear hown' hgrow hv2 hb2)
        go_roundw
        case rel => exact ⟨k + 1, by omega, by go_num, HB2.out, by rw [HP.out]; exact HV2.out⟩
        case measure => simp [intOf]; omega
    · obtain rfl : k = 31 := by omega
      go_wp2_with fail
      go_ret
      exact ⟨_, rfl, by rw [← onP_end]; exact HV.out, HB.out⟩
end Go.Proofs.YtadapffmcdkfiaaDoor
