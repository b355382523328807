/- The law OccurrenceDisplaces of stage 21, given OP. -/
import Derived.Test.YtnofmlkjagdklaaVn
import Derived.Test.YtnofmlkjagdklaaVm
import Derived.Deep.RegionHeld3
namespace Go.Proofs.Ytnofmlkjagdklaa
open Go.RowKit

/-- One number of a list of the call's own is written anew. -/
theorem ints_put {B g cap n : Nat} {L : List Int} {w : World} (h : IntsAt B (.slice (some ⟨g, 0, none⟩) n cap) L w) (hn : L.length = n) (j : Nat) (q : Int) : IntsAt B (.slice (some ⟨g, 0, none⟩) n cap) (L.set j q) (w.setCell ⟨g, j, none⟩ (.int .i64 q)) := by
  subst hn
  have := (World.ownsRow.stored h j (.int .i64 q)).1
  unfold IntsAt
  rw [List.length_set, List.map_set]
  exact this
theorem ints_row {B g cap n : Nat} {L : List Int} {w : World} (h : IntsAt B (.slice (some ⟨g, 0, none⟩) n cap) L w) : B ≤ g ∧ ∃ cur, w.heap[g]? = some (.cells cur 3 (0, 0)) := by
  rcases h.2 with ⟨e, _⟩ | ⟨g', cap', cur, e, hb, hg, _⟩
  · cases e
  · injection e with e1
    injection e1 with e1
    injection e1 with e1
    subst e1
    exact ⟨hb, cur, hg⟩
set_option maxHeartbeats 4000000 in
set_option maxRecDepth 100000 in
theorem l21d_main (c : Cat) (vs vf : Value) (y day : Int) (W : World) (l : List Cd) (x : Cd) (xs ys zs P1 P2 : List Int) (hll : l.length ≤ 1000) (l1 : xs.length ≤ 40) (l2 : ys.length ≤ 40) (l3 : zs.length ≤ 40) (hp : Hid ((x.k = 1 ∧ P1 = xs ∧ P2 = ys) ∨ (x.k = 2 ∧ P1 = x.i :: xs ∧ P2 = ys) ∨ (x.k = 2 ∧ P1 = xs ∧ P2 = x.i :: ys)))
    (QW : Hid (∀ u, Calls Try.prog 7 #[] u fun e w' => e = .returned (.bool true) ∧ Below u.heap.size u w'))
    (QR17 : Hid (∀ u, Below W.heap.size W u → Calls Try.prog 8 #[(.agg #[.int .i64 c.free, vs, vf])] u fun e w' => e = .returned (.bool true) ∧ Below u.heap.size u w'))
    (QF : Hid (∀ u, Below W.heap.size W u → Calls Try.prog 9 #[(.agg #[.int .i64 c.free, vs, vf]), .int .i64 y, .int .i64 day] u fun e w' => e = .returned (.int .i64 0) ∧ Below u.heap.size u w'))
    (QO' : Hid (∀ u, Below W.heap.size W u → Calls Try.prog 10 #[(.agg #[.int .i64 c.free, vs, vf]), .int .i64 y, .int .i64 day] u (RetCs 39 u l)))
    (QR' : Hid (∀ u v, Below W.heap.size W u → CsAt u v l → Calls Try.prog 11 #[(.agg #[.int .i64 c.free, vs, vf]), v] u fun e w' => ∃ a1 a2 a3, e = .returned (.agg (occRow x a1 a2 a3)) ∧ R3 u.heap.size a1 a2 a3 xs ys zs w' ∧ Below u.heap.size u w'))
    (QD' : Hid (∀ u a1 a2 a3, Below W.heap.size W u → SlI a1 xs u → SlI a2 ys u → SlI a3 zs u → Calls Try.prog 16 #[(.agg #[.int .i64 c.free, vs, vf]), rsq x a1 a2 a3] u (RetRes u zcd P1 P2 zs))) :
    Calls Try.prog 5 #[(.agg #[.int .i64 c.free, vs, vf]), .int .i64 y, .int .i64 day] W fun e w' => e = .returned (.bool true) ∧ Below W.heap.size W w' := by
  have B0 := Lib.hid ((Below.refl W.heap.size W).alloc (Nat.le_refl _) (.cells #[.int .i64 c.free, vs, vf] 25))
  have R0 := Lib.hid (heap_alloc_new W (.cells #[.int .i64 c.free, vs, vf] 25))
  have ZW : (W.alloc (.cells #[.int .i64 c.free, vs, vf] 25)).heap.size = W.heap.size + 1 := by simp
  go_enter Try.func5, Try.ntmps5
  go_wp2_with fail
  generalize hW1 : W.alloc (.cells #[.int .i64 c.free, vs, vf] 25) = W1 at *
  refine (QW.out _).mono ?_
  rintro e w1 ⟨rfl, hb1⟩
  have B1 := Lib.hid hb1
  clear hb1
  obtain ⟨y0, y1, y2, -, -, -, yz⟩ := row3 (row_on R0.out B1.out)
  go_wp2_with fail
  refine (QR17.out _ (below_on B0.out B1.out)).mono ?_
  rintro e w2 ⟨rfl, hb2⟩
  have B2 := Lib.hid (below_on B1.out hb2)
  clear hb2 y0 y1 y2 yz
  obtain ⟨y0, y1, y2, -, -, -, yz⟩ := row3 (row_on R0.out B2.out)
  go_wp2_with fail
  refine (QF.out _ (below_on B0.out B2.out)).mono ?_
  rintro e w3 ⟨rfl, hb3⟩
  have B3 := Lib.hid (below_on B2.out hb3)
  clear hb3 y0 y1 y2 yz
  obtain ⟨y0, y1, y2, -, -, -, yz⟩ := row3 (row_on R0.out B3.out)
  have R1 := Lib.hid R0.out
  have hWW : W.heap.size < W1.heap.size := by omega
  go_wp2_with fail
  have QO3 := Lib.hid (fun u (hu : Below w3.heap.size w3 u) => QO'.out u (below_on B0.out (below_on B3.out hu)))
  have QR3 := Lib.hid (fun u v (hu : Below w3.heap.size w3 u) hv => QR'.out u v (below_on B0.out (below_on B3.out hu)) hv)
  have hk : W.heap.size < w3.heap.size := Nat.lt_of_lt_of_le hWW B3.out.size
  have lp1 : P1.length ≤ 41 := by rcases hp.out with ⟨_, e, _⟩ | ⟨_, e, _⟩ | ⟨_, e, _⟩ <;> rw [e] <;> (try rw [List.length_cons]) <;> omega
  have lp2 : P2.length ≤ 41 := by rcases hp.out with ⟨_, _, e⟩ | ⟨_, _, e⟩ | ⟨_, _, e⟩ <;> rw [e] <;> (try rw [List.length_cons]) <;> omega
  refine dis_region _ c vs vf y day W.heap.size _ _ _ _ _ _ _ _ _ _ _ _ _ _ _ _ _ _ _ _ _ _ _ _ _ w3 l hll x _ _ _ QO3 QR3 (fun _ a d _ _ h => by cases d <;> exact h) hk y0 y1 y2 (fun x7 x27 x28 x29 a1 a2 a3 kb w4 hb hr e1 e2 e3 => ?_) _
  subst e1
  have B4 := Lib.hid (below_on B3.out hb)
  have R4 := Lib.hid e3
  have H4 := Lib.hid hr
  obtain ⟨Aq1, c1, rfl⟩ := ints_form hr.fa
  obtain ⟨Aq2, c2, rfl⟩ := ints_form hr.fb
  obtain ⟨Aq3, c3, rfl⟩ := ints_form hr.fc
  clear hb hr e3 y0 y1 y2 yz QO3 QR3
  obtain ⟨s0, s1, s2, s3, s4, s5, s6, -, -, -, -, -, -, -, gz⟩ := row7 R4.out
  go_wp2_with fail
  refine dis4_region _ _ _ _ _ _ _ _ _ _ _ _ _ _ _ _ _ _ _ _ _ _ _ _ _ _ _ _ _ _ _ _ _ _ _ _ (.slice Aq1 xs.length c1) (.slice Aq2 ys.length c2) (.slice Aq3 zs.length c3) w4 kb xs ys zs (by omega) gz s4 s5 s6 (fun u hu => SlI_of (H4.out.fa.on hu)) (fun u hu => SlI_of (H4.out.fb.on hu)) (fun u hu => SlI_of (H4.out.fc.on hu)) (fun _ a d _ _ h => by cases d <;> exact h) (fun x5 x7 x11 x15 x19 u1 u2 u3 sb w5 hb hr e1 e2 e3 => ?_)
  subst e1
  have B5 := Lib.hid (below_on B4.out hb)
  have RR5 := Lib.hid (row_on R4.out hb)
  have RS5 := Lib.hid e3
  have H5 := Lib.hid (H4.out.on hb)
  have G5 := Lib.hid hr
  have RC5 := Lib.hid (row_on R0.out B5.out)
  have BW5 := Lib.hid (below_on B0.out B5.out)
  obtain ⟨Uq1, f1, rfl⟩ := ints_form hr.fa
  obtain ⟨Uq2, f2, rfl⟩ := ints_form hr.fb
  obtain ⟨Uq3, f3, rfl⟩ := ints_form hr.fc
  clear hb hr e3 s0 s1 s2 s3 s4 s5 s6 gz H4 R4
  obtain ⟨s0, s1, s2, s3, s4, s5, s6, -⟩ := row7 RR5.out
  obtain ⟨y0, y1, y2, -, -, -, yz⟩ := row3 RC5.out
  go_wp2_with fail
  refine (QD'.out _ _ _ _ BW5.out (SlI_of H5.out.fa) (SlI_of H5.out.fb) (SlI_of H5.out.fc)).mono ?_
  rintro e w6 ⟨d1, d2, d3, rfl, hr6, hb6⟩
  obtain ⟨Dq1, g1, rfl⟩ := ints_form hr6.fa
  obtain ⟨Dq2, g2, rfl⟩ := ints_form hr6.fb
  obtain ⟨Dq3, g3, rfl⟩ := ints_form hr6.fc
  have B6 := Lib.hid (hb6.alloc hb6.size (.cells #[.int .i64 zcd.k, .int .i64 zcd.i, .int .i64 zcd.r, .string zcd.id, .slice Dq1 P1.length g1, .slice Dq2 P2.length g2, .slice Dq3 zs.length g3] 35))
  have RD := Lib.hid (heap_alloc_new w6 (.cells #[.int .i64 zcd.k, .int .i64 zcd.i, .int .i64 zcd.r, .string zcd.id, .slice Dq1 P1.length g1, .slice Dq2 P2.length g2, .slice Dq3 zs.length g3] 35))
  have H6 := Lib.hid (hr6.al (.cells #[.int .i64 zcd.k, .int .i64 zcd.i, .int .i64 zcd.r, .string zcd.id, .slice Dq1 P1.length g1, .slice Dq2 P2.length g2, .slice Dq3 zs.length g3] 35))
  have zd := Lib.hid hb6.size
  clear hr6 hb6 s0 s1 s2 s3 s4 s5 s6 y0 y1 y2 yz
  go_wp2_with fail
  generalize hX : w6.alloc (.cells #[.int .i64 zcd.k, .int .i64 zcd.i, .int .i64 zcd.r, .string zcd.id, .slice Dq1 P1.length g1, .slice Dq2 P2.length g2, .slice Dq3 zs.length g3] 35) = X at *
  go_loopw [10] (fun iv wr => ∃ (j : Nat) (L : List Int), j ≤ P1.length ∧ iv = .int .i64 j ∧ L.length = P1.length ∧ Below w5.heap.size w5 wr ∧ wr.heap[w6.heap.size]? = some (.cells #[.int .i64 zcd.k, .int .i64 zcd.i, .int .i64 zcd.r, .string zcd.id, .slice Dq1 P1.length g1, .slice Dq2 P2.length g2, .slice Dq3 zs.length g3] 35 (0, 0)) ∧ R3 w5.heap.size (.slice Dq1 P1.length g1) (.slice Dq2 P2.length g2) (.slice Dq3 zs.length g3) L P2 zs wr) (fun iv _ => P1.length - (intOf iv).toNat)
  case atStart => exact ⟨0, P1, Nat.zero_le _, rfl, rfl, B6.out, RD.out, H6.out⟩
  case round =>
    obtain ⟨j, L, hj, rfl, hL, hb, hd, hr⟩ := hrel
    have HB := Lib.hid hb
    have HD := Lib.hid hd
    have HR := Lib.hid hr
    have HL := Lib.hid hL
    obtain ⟨s0, s1, s2, s3, s4, s5, s6, -, -, -, -, -, -, -, gz⟩ := row7 hd
    clear hb hd
    by_cases hlt : j < P1.length
    · rcases hr.fa.get with ⟨_, rfl⟩ | ⟨g, cap, e, hI⟩
      · simp at hL; omega
      · injection e with ea _ ec
        subst ea
        subst ec
        have hcj := hI.cell j (by omega)
        have hmx := hI.mx
        have hle := hI.le
        unfold maxLen at hmx
        rw [hL] at hle
        obtain ⟨hBg, cur, hrow⟩ := ints_row hr.fa
        have hfz := frozen_of_row wr g j _ _ hrow
        have hgd : w6.heap.size ≠ g := fun e => by
          have := HD.out
          rw [e, hrow] at this
          injection this with this
          injection this with _ h2
          exact absurd h2 (by decide)
        generalize L.getD j 0 = q at *
        clear hr hI hL
        go_wp2_with fail
        go_roundw
        case rel => exact ⟨j + 1, L.set j _, by omega, by go_num, by rw [List.length_set]; exact HL.out, HB.out.setCell (p := ⟨g, j, none⟩) hBg _, (heap_setCell_other _ _ _ _ (by simpa using hgd)).trans HD.out, ⟨ints_put HR.out.fa HL.out j _, setc_ints HR.out.fb (fun e => HR.out.ab g rfl e) _, setc_ints HR.out.fc (fun e => HR.out.ac g rfl e) _, HR.out.ab, HR.out.ac, HR.out.bc⟩⟩
        case measure => simp [intOf]; omega
    · obtain rfl : j = P1.length := by omega
      clear hr hL
      go_wp2_with fail
      clear s0 s1 s2 s3 s4 s5 s6 gz
      go_loopw [11] (fun iv wr => ∃ (j : Nat) (L0 L : List Int), j ≤ zs.length ∧ iv = .int .i64 j ∧ L.length = zs.length ∧ Below w5.heap.size w5 wr ∧ wr.heap[w6.heap.size]? = some (.cells #[.int .i64 zcd.k, .int .i64 zcd.i, .int .i64 zcd.r, .string zcd.id, .slice Dq1 P1.length g1, .slice Dq2 P2.length g2, .slice Dq3 zs.length g3] 35 (0, 0)) ∧ R3 w5.heap.size (.slice Dq1 P1.length g1) (.slice Dq2 P2.length g2) (.slice Dq3 zs.length g3) L0 P2 L wr) (fun iv _ => zs.length - (intOf iv).toNat)
      case atStart => exact ⟨0, L, zs, Nat.zero_le _, rfl, rfl, HB.out, HD.out, HR.out⟩
      case round =>
        obtain ⟨j, L0, L, hj, rfl, hL, hb, hd, hr⟩ := hrel
        have HB := Lib.hid hb
        have HD := Lib.hid hd
        have HR := Lib.hid hr
        have HL := Lib.hid hL
        obtain ⟨s0, s1, s2, s3, s4, s5, s6, -, -, -, -, -, -, -, gz⟩ := row7 hd
        clear hb hd
        by_cases hlt : j < zs.length
        · rcases hr.fc.get with ⟨_, rfl⟩ | ⟨g, cap, e, hI⟩
          · simp at hL; omega
          · injection e with ea _ ec
            subst ea
            subst ec
            have hcj := hI.cell j (by omega)
            have hmx := hI.mx
            have hle := hI.le
            unfold maxLen at hmx
            rw [hL] at hle
            obtain ⟨hBg, cur, hrow⟩ := ints_row hr.fc
            have hfz := frozen_of_row wr g j _ _ hrow
            have hgd : w6.heap.size ≠ g := fun e => by
              have := HD.out
              rw [e, hrow] at this
              injection this with this
              injection this with _ h2
              exact absurd h2 (by decide)
            generalize L.getD j 0 = q at *
            clear hr hI hL
            go_wp2_with fail
            go_roundw
            case rel => exact ⟨j + 1, L0, L.set j _, by omega, by go_num, by rw [List.length_set]; exact HL.out, HB.out.setCell (p := ⟨g, j, none⟩) hBg _, (heap_setCell_other _ _ _ _ (by simpa using hgd)).trans HD.out, ⟨setc_ints HR.out.fa (fun e => apart_symm HR.out.ac g rfl e) _, setc_ints HR.out.fb (fun e => apart_symm HR.out.bc g rfl e) _, ints_put HR.out.fc HL.out j _, HR.out.ab, HR.out.ac, HR.out.bc⟩⟩
            case measure => simp [intOf]; omega
        · obtain rfl : j = zs.length := by omega
          clear hr hL s0 s1 s2 s3 s4 s5 s6 gz
          have RR6 := Lib.hid (row_on RR5.out HB.out)
          have RC6 := Lib.hid (row_on RC5.out HB.out)
          have RS6 := Lib.hid (row_on RS5.out HB.out)
          have H7 := Lib.hid (H5.out.on HB.out)
          have G7 := Lib.hid (G5.out.on HB.out)
          have BW6 := Lib.hid (below_on BW5.out HB.out)
          obtain ⟨s0, s1, s2, s3, s4, s5, s6, -⟩ := row7 RR6.out
          obtain ⟨y0, y1, y2, -, -, -, yz⟩ := row3 RC6.out
          obtain ⟨dd0, dd1, dd2, dd3, dd4, dd5, dd6, -⟩ := row7 HD.out
          clear HD HR HL
          go_wp2_with fail
          refine (QD'.out _ _ _ _ BW6.out (SlI_of H7.out.fa) (SlI_of H7.out.fb) (SlI_of H7.out.fc)).mono ?_
          rintro e w8 ⟨d1, d2, d3, rfl, hr8, hb8⟩
          obtain ⟨Eq1, p1, rfl⟩ := ints_form hr8.fa
          obtain ⟨Eq2, p2, rfl⟩ := ints_form hr8.fb
          obtain ⟨Eq3, p3, rfl⟩ := ints_form hr8.fc
          have B8 := Lib.hid ((below_on (Below.refl _ _) hb8).alloc hb8.size (.cells #[.int .i64 zcd.k, .int .i64 zcd.i, .int .i64 zcd.r, .string zcd.id, .slice Eq1 P1.length p1, .slice Eq2 P2.length p2, .slice Eq3 zs.length p3] 35))
          have RE8 := Lib.hid (heap_alloc_new w8 (.cells #[.int .i64 zcd.k, .int .i64 zcd.i, .int .i64 zcd.r, .string zcd.id, .slice Eq1 P1.length p1, .slice Eq2 P2.length p2, .slice Eq3 zs.length p3] 35))
          have H8 := Lib.hid (hr8.al (.cells #[.int .i64 zcd.k, .int .i64 zcd.i, .int .i64 zcd.r, .string zcd.id, .slice Eq1 P1.length p1, .slice Eq2 P2.length p2, .slice Eq3 zs.length p3] 35))
          have RR7 := Lib.hid (row_on RR6.out hb8)
          have RS7 := Lib.hid (row_on RS6.out hb8)
          clear hr8 hb8 s0 s1 s2 s3 s4 s5 s6 y0 y1 y2 yz dd0 dd1 dd2 dd3 dd4 dd5 dd6
          have RR8 := Lib.hid (row_on RR6.out B8.out)
          have RS8 := Lib.hid (row_on RS6.out B8.out)
          have K8 := Lib.hid (H7.out.on B8.out)
          have G8 := Lib.hid (G7.out.on B8.out)
          have BW8 := Lib.hid (below_on BW6.out B8.out)
          obtain ⟨t0, t1, t2, t3, t4, t5, t6, -, -, -, -, -, -, -, tz⟩ := row7 RS7.out
          obtain ⟨s0, s1, s2, s3, s4, s5, s6, -, -, -, -, -, -, -, sz⟩ := row7 RR7.out
          go_wp2_with fail
          clear t0 t1 t2 t3 t4 t5 t6 tz s0 s1 s2 s3 s4 s5 s6 sz
          generalize hX8 : w8.alloc (.cells #[.int .i64 zcd.k, .int .i64 zcd.i, .int .i64 zcd.r, .string zcd.id, .slice Eq1 P1.length p1, .slice Eq2 P2.length p2, .slice Eq3 zs.length p3] 35) = X8 at *
          generalize hnn : ((P1.length : Int) + (P2.length : Int) - (xs.length : Int) - (ys.length : Int)) = nn
          have HN := Lib.hid hnn
          clear hnn
          refine (nums_yes _ _ xs X8 K8.out.fa G8.out.fa).mono ?_
          rintro e v1 ⟨rfl, hv1⟩
          have V1 := Lib.hid hv1
          clear hv1
          obtain ⟨s0, s1, s2, s3, s4, s5, s6, -⟩ := row7 (row_on RR8.out V1.out)
          obtain ⟨t0, t1, t2, t3, t4, t5, t6, -⟩ := row7 (row_on RS8.out V1.out)
          go_wp2_with fail
          refine (nums_yes _ _ ys v1 (K8.out.on V1.out).fb (G8.out.on V1.out).fb).mono ?_
          rintro e v2 ⟨rfl, hv2⟩
          have V2 := Lib.hid (below_on V1.out hv2)
          clear hv2 s0 s1 s2 s3 s4 s5 s6 t0 t1 t2 t3 t4 t5 t6
          obtain ⟨s0, s1, s2, s3, s4, s5, s6, -⟩ := row7 (row_on RR8.out V2.out)
          obtain ⟨t0, t1, t2, t3, t4, t5, t6, -⟩ := row7 (row_on RS8.out V2.out)
          go_wp2_with fail
          refine (nums_yes _ _ zs v2 (K8.out.on V2.out).fc (G8.out.on V2.out).fc).mono ?_
          rintro e v3 ⟨rfl, hv3⟩
          have V3 := Lib.hid (below_on V2.out hv3)
          clear hv3 s0 s1 s2 s3 s4 s5 s6 t0 t1 t2 t3 t4 t5 t6
          obtain ⟨t0, t1, t2, t3, t4, t5, t6, -⟩ := row7 (row_on RS8.out V3.out)
          obtain ⟨s0, s1, s2, s3, s4, s5, s6, -⟩ := row7 (row_on RE8.out V3.out)
          go_wp2_with fail
          refine (nums_yes _ _ zs v3 (H8.out.on V3.out).fc (G8.out.on V3.out).fc).mono ?_
          rintro e v4 ⟨rfl, hv4⟩
          have V4 := Lib.hid (below_on V3.out hv4)
          have BZ := Lib.hid (below_on BW8.out V4.out)
          have H9 := Lib.hid (H8.out.on V4.out)
          clear hv4 s0 s1 s2 s3 s4 s5 s6 t0 t1 t2 t3 t4 t5 t6
          obtain ⟨t0, t1, t2, t3, t4, t5, t6, -⟩ := row7 (row_on RS8.out V4.out)
          obtain ⟨s0, s1, s2, s3, s4, s5, s6, -⟩ := row7 (row_on RE8.out V4.out)
          obtain ⟨r0, r1, r2, r3, r4, r5, r6, -⟩ := row7 (row_on RR8.out V4.out)
          rcases hp.out with ⟨hk1, e1, e2⟩ | ⟨hk1, e1, e2⟩ | ⟨hk1, e1, e2⟩
          · have hn0 : nn = 0 := by rw [← HN.out, e1, e2]; omega
            subst hn0
            have dk : (x.k == 1) = true := beq_iff_eq.2 hk1
            clear hk1 e1 e2
            go_wp2_with fail
            go_ret
            exact ⟨rfl, BZ.out⟩
          · have hn0 : nn = 1 := by rw [← HN.out, e1, e2, List.length_cons]; omega
            subst hn0
            have dk : (x.k == 1) = false := beq_eq_false_iff_ne.2 (by omega)
            have hgt : xs.length < P1.length := by rw [e1, List.length_cons]; omega
            have hgi : (xs.length : Int) < (P1.length : Int) := by omega
            have hps : 0 < P1.length := by omega
            have hx0 : P1.getD 0 0 = x.i := by rw [e1]; rfl
            rcases H9.out.fa.get with ⟨_, e⟩ | ⟨ge, cap, e, hI⟩
            · rw [e] at hps; exact absurd hps (by decide)
            · injection e with ea _ ec
              subst ea
              subst ec
              have hc0 := hI.cell 0 hps
              rw [hx0] at hc0
              clear hk1 e1 e2 hI hx0
              go_wp2_with fail
              refine wp_region_held_drew (S := fun u => (u.cell? ⟨w8.heap.size, 4, none⟩ = some (.slice (some ⟨ge, 0, none⟩) P1.length p1) ∧ u.cell? ⟨w8.heap.size, 5, none⟩ = some (.slice Eq2 P2.length p2) ∧ u.cell? ⟨sb, 4, none⟩ = some (.slice Uq1 xs.length f1) ∧ u.cell? ⟨sb, 5, none⟩ = some (.slice Uq2 ys.length f2) ∧ u.cell? ⟨kb, 1, none⟩ = some (.int .i64 x.i) ∧ u.cell? ⟨ge, 0, none⟩ = some (.int .i64 x.i))) (by kernel_rfl) ⟨s4, s5, t4, t5, r1, hc0⟩ (fun hHeld => ?_)
              refine wpAnyH_take (i := 0) (oi := { dst := some 134, op := _, type := _, pos := _, after := _, guard := _ }) (v := ?v1_0) rfl (by kernel_rfl) (by kernel_rfl) (by kernel_rfl) (fun _ _ _ h => h) (Or.inl ⟨by rfl, ?hy1_0⟩) hHeld ?_
              case hy1_0 => (intro w hSw; (try dsimp only at hSw); go_simp; try with_reducible rfl)
              simp only [Act.put, List.setIfInBounds_toArray, List.set_cons_zero, List.set_cons_succ]
              refine wpAnyH_take (i := 1) (oi := { dst := some 135, op := _, type := _, pos := _, after := _, guard := _ }) (v := ?v1_1) rfl (by kernel_rfl) (by kernel_rfl) (by kernel_rfl) (fun _ _ _ h => h) (Or.inl ⟨by rfl, ?hy1_1⟩) hHeld ?_
              case hy1_1 => (intro w hSw; (try dsimp only at hSw); go_simp; try with_reducible rfl)
              simp only [Act.put, List.setIfInBounds_toArray, List.set_cons_zero, List.set_cons_succ]
              refine wpAnyH_take (i := 2) (oi := { dst := some 136, op := _, type := _, pos := _, after := _, guard := _ }) (v := ?v1_2) rfl (by kernel_rfl) (by kernel_rfl) (by kernel_rfl) (fun _ _ _ h => h) (Or.inl ⟨by rfl, ?hy1_2⟩) hHeld ?_
              case hy1_2 => (intro w hSw; (try dsimp only at hSw); go_simp; try with_reducible rfl)
              simp only [Act.put, List.setIfInBounds_toArray, List.set_cons_zero, List.set_cons_succ]
              refine wpAnyH_take (i := 3) (oi := { dst := some 137, op := _, type := _, pos := _, after := _, guard := _ }) (v := ?v1_3) rfl (by kernel_rfl) (by kernel_rfl) (by kernel_rfl) (fun _ _ _ h => h) (Or.inl ⟨by rfl, ?hy1_3⟩) hHeld ?_
              case hy1_3 => (intro w hSw; (try dsimp only at hSw); go_simp; try with_reducible rfl)
              simp only [Act.put, List.setIfInBounds_toArray, List.set_cons_zero, List.set_cons_succ]
              refine wpAnyH_take (i := 4) (oi := { dst := some 138, op := _, type := _, pos := _, after := _, guard := _ }) (v := ?v1_4) rfl (by kernel_rfl) (by kernel_rfl) (by kernel_rfl) (fun _ _ _ h => h) (Or.inl ⟨by rfl, ?hy1_4⟩) hHeld ?_
              case hy1_4 => (intro w hSw; (try dsimp only at hSw); go_simp; try with_reducible rfl)
              simp only [Act.put, List.setIfInBounds_toArray, List.set_cons_zero, List.set_cons_succ]
              refine wpAnyH_take (i := 5) (oi := { dst := some 139, op := _, type := _, pos := _, after := _, guard := _ }) (v := ?v1_5) rfl (by kernel_rfl) (by kernel_rfl) (by kernel_rfl) (fun _ _ _ h => h) (Or.inl ⟨by rfl, ?hy1_5⟩) hHeld ?_
              case hy1_5 => (intro w hSw; (try dsimp only at hSw); go_simp; try with_reducible rfl)
              simp only [Act.put, List.setIfInBounds_toArray, List.set_cons_zero, List.set_cons_succ]
              refine wpAnyH_take (i := 6) (oi := { dst := some 140, op := _, type := _, pos := _, after := _, guard := _ }) (v := ?v1_6) rfl (by kernel_rfl) (by kernel_rfl) (by kernel_rfl) (fun _ _ _ h => h) (Or.inl ⟨by rfl, ?hy1_6⟩) hHeld ?_
              case hy1_6 => (intro w hSw; (try dsimp only at hSw); go_simp; try with_reducible rfl)
              simp only [Act.put, List.setIfInBounds_toArray, List.set_cons_zero, List.set_cons_succ]
              refine wpAnyH_take (i := 7) (oi := { dst := some 141, op := _, type := _, pos := _, after := _, guard := _ }) (v := ?v1_7) rfl (by kernel_rfl) (by kernel_rfl) (by kernel_rfl) (fun _ _ _ h => h) (Or.inl ⟨by rfl, ?hy1_7⟩) hHeld ?_
              case hy1_7 => (intro w hSw; (try dsimp only at hSw); go_simp; try with_reducible rfl)
              simp only [Act.put, List.setIfInBounds_toArray, List.set_cons_zero, List.set_cons_succ]
              refine wpAnyH_take (i := 8) (oi := { dst := some 142, op := _, type := _, pos := _, after := _, guard := _ }) (v := ?v1_8) rfl (by kernel_rfl) (by kernel_rfl) (by kernel_rfl) (fun _ _ _ h => h) (Or.inl ⟨by rfl, ?hy1_8⟩) hHeld ?_
              case hy1_8 => (intro w hSw; (try dsimp only at hSw); go_simp; try with_reducible rfl)
              simp only [Act.put, List.setIfInBounds_toArray, List.set_cons_zero, List.set_cons_succ]
              refine wpAnyH_take (i := 9) (oi := { dst := some 143, op := _, type := _, pos := _, after := _, guard := _ }) (v := ?v1_9) rfl (by kernel_rfl) (by kernel_rfl) (by kernel_rfl) (fun _ _ _ h => h) (Or.inl ⟨by rfl, ?hy1_9⟩) hHeld ?_
              case hy1_9 => (intro w hSw; (try dsimp only at hSw); go_simp; try with_reducible rfl)
              simp only [Act.put, List.setIfInBounds_toArray, List.set_cons_zero, List.set_cons_succ]
              refine wpAnyH_take (i := 10) (oi := { dst := some 144, op := _, type := _, pos := _, after := _, guard := _ }) (v := ?v1_10) rfl (by kernel_rfl) (by kernel_rfl) (by kernel_rfl) (fun _ _ _ h => h) (Or.inl ⟨by rfl, ?hy1_10⟩) hHeld ?_
              case hy1_10 => (intro w hSw; (try dsimp only at hSw); go_simp; try with_reducible rfl)
              simp only [Act.put, List.setIfInBounds_toArray, List.set_cons_zero, List.set_cons_succ]
              refine wpAnyH_take (i := 11) (oi := { dst := some 145, op := _, type := _, pos := _, after := _, guard := _ }) (v := ?v1_11) rfl (by kernel_rfl) (by kernel_rfl) (by kernel_rfl) (fun _ _ _ h => h) (Or.inl ⟨by rfl, ?hy1_11⟩) hHeld ?_
              case hy1_11 => (intro w hSw; (try dsimp only at hSw); go_simp; try with_reducible rfl)
              simp only [Act.put, List.setIfInBounds_toArray, List.set_cons_zero, List.set_cons_succ]
              refine wpAnyH_take (i := 12) (oi := { dst := some 146, op := _, type := _, pos := _, after := _, guard := _ }) (v := ?v1_12) rfl (by kernel_rfl) (by kernel_rfl) (by kernel_rfl) (fun _ _ _ h => h) (Or.inl ⟨by rfl, ?hy1_12⟩) hHeld ?_
              case hy1_12 => (intro w hSw; (try dsimp only at hSw); go_simp; try with_reducible rfl)
              simp only [Act.put, List.setIfInBounds_toArray, List.set_cons_zero, List.set_cons_succ]
              refine wpAnyH_take (i := 13) (oi := { dst := some 147, op := _, type := _, pos := _, after := _, guard := _ }) (v := ?v1_13) rfl (by kernel_rfl) (by kernel_rfl) (by kernel_rfl) (fun _ _ _ h => h) (Or.inl ⟨by rfl, ?hy1_13⟩) hHeld ?_
              case hy1_13 => (intro w hSw; (try dsimp only at hSw); go_simp; try with_reducible rfl)
              simp only [Act.put, List.setIfInBounds_toArray, List.set_cons_zero, List.set_cons_succ]
              refine wpAnyH_take (i := 14) (oi := { dst := some 148, op := _, type := _, pos := _, after := _, guard := _ }) (v := ?v1_14) rfl (by kernel_rfl) (by kernel_rfl) (by kernel_rfl) (fun _ _ _ h => h) (Or.inl ⟨by rfl, ?hy1_14⟩) hHeld ?_
              case hy1_14 => (intro w hSw; (try dsimp only at hSw); go_simp; try with_reducible rfl)
              simp only [Act.put, List.setIfInBounds_toArray, List.set_cons_zero, List.set_cons_succ]
              refine wpAnyH_take (i := 15) (oi := { dst := some 149, op := _, type := _, pos := _, after := _, guard := _ }) (v := ?v1_15) rfl (by kernel_rfl) (by kernel_rfl) (by kernel_rfl) (fun _ _ _ h => h) (Or.inl ⟨by rfl, ?hy1_15⟩) hHeld ?_
              case hy1_15 => (intro w hSw; (try dsimp only at hSw); go_simp; try with_reducible rfl)
              simp only [Act.put, List.setIfInBounds_toArray, List.set_cons_zero, List.set_cons_succ]
              refine wpAnyH_take (i := 16) (oi := { dst := some 150, op := _, type := _, pos := _, after := _, guard := _ }) (v := ?v1_16) rfl (by kernel_rfl) (by kernel_rfl) (by kernel_rfl) (fun _ _ _ h => h) (Or.inl ⟨by rfl, ?hy1_16⟩) hHeld ?_
              case hy1_16 => (intro w hSw; (try dsimp only at hSw); go_simp; try with_reducible rfl)
              simp only [Act.put, List.setIfInBounds_toArray, List.set_cons_zero, List.set_cons_succ]
              refine wpAnyH_take (i := 17) (oi := { dst := some 151, op := _, type := _, pos := _, after := _, guard := _ }) (v := ?v1_17) rfl (by kernel_rfl) (by kernel_rfl) (by kernel_rfl) (fun _ _ _ h => h) (Or.inl ⟨by rfl, ?hy1_17⟩) hHeld ?_
              case hy1_17 => (intro w hSw; (try dsimp only at hSw); go_simp; try with_reducible rfl)
              simp only [Act.put, List.setIfInBounds_toArray, List.set_cons_zero, List.set_cons_succ]
              refine wpAnyH_take (i := 18) (oi := { dst := some 152, op := _, type := _, pos := _, after := _, guard := _ }) (v := ?v1_18) rfl (by kernel_rfl) (by kernel_rfl) (by kernel_rfl) (fun _ _ _ h => h) (Or.inl ⟨by rfl, ?hy1_18⟩) hHeld ?_
              case hy1_18 => (intro w hSw; (try dsimp only at hSw); go_simp; try with_reducible rfl)
              simp only [Act.put, List.setIfInBounds_toArray, List.set_cons_zero, List.set_cons_succ]
              refine wpAnyH_take (i := 19) (oi := { dst := some 153, op := _, type := _, pos := _, after := _, guard := _ }) (v := ?v1_19) rfl (by kernel_rfl) (by kernel_rfl) (by kernel_rfl) (fun _ _ _ h => h) (Or.inl ⟨by rfl, ?hy1_19⟩) hHeld ?_
              case hy1_19 => (intro w hSw; (try dsimp only at hSw); go_simp; try with_reducible rfl)
              simp only [Act.put, List.setIfInBounds_toArray, List.set_cons_zero, List.set_cons_succ]
              refine wpAnyH_take (i := 20) (oi := { dst := some 154, op := _, type := _, pos := _, after := _, guard := _ }) (v := ?v1_20) rfl (by kernel_rfl) (by kernel_rfl) (by kernel_rfl) (fun _ _ _ h => h) (Or.inl ⟨by rfl, ?hy1_20⟩) hHeld ?_
              case hy1_20 => (intro w hSw; (try dsimp only at hSw); go_simp; try with_reducible rfl)
              simp only [Act.put, List.setIfInBounds_toArray, List.set_cons_zero, List.set_cons_succ]
              refine wpAnyH_take (i := 21) (oi := { dst := some 155, op := _, type := _, pos := _, after := _, guard := _ }) (v := undef) rfl (by kernel_rfl) (by kernel_rfl) (by kernel_rfl) (fun _ _ _ h => h) (Or.inr ⟨by rfl, rfl⟩) hHeld ?_
              simp only [Act.put, List.setIfInBounds_toArray, List.set_cons_zero, List.set_cons_succ]
              refine wpAnyH_take (i := 22) (oi := { dst := some 156, op := _, type := _, pos := _, after := _, guard := _ }) (v := undef) rfl (by kernel_rfl) (by kernel_rfl) (by kernel_rfl) (fun _ _ _ h => h) (Or.inr ⟨by rfl, rfl⟩) hHeld ?_
              simp only [Act.put, List.setIfInBounds_toArray, List.set_cons_zero, List.set_cons_succ]
              refine wpAnyH_take (i := 23) (oi := { dst := some 157, op := _, type := _, pos := _, after := _, guard := _ }) (v := undef) rfl (by kernel_rfl) (by kernel_rfl) (by kernel_rfl) (fun _ _ _ h => h) (Or.inr ⟨by rfl, rfl⟩) hHeld ?_
              simp only [Act.put, List.setIfInBounds_toArray, List.set_cons_zero, List.set_cons_succ]
              refine wpAnyH_take (i := 24) (oi := { dst := some 158, op := _, type := _, pos := _, after := _, guard := _ }) (v := undef) rfl (by kernel_rfl) (by kernel_rfl) (by kernel_rfl) (fun _ _ _ h => h) (Or.inr ⟨by rfl, rfl⟩) hHeld ?_
              simp only [Act.put, List.setIfInBounds_toArray, List.set_cons_zero, List.set_cons_succ]
              refine wpAnyH_take (i := 25) (oi := { dst := some 159, op := _, type := _, pos := _, after := _, guard := _ }) (v := undef) rfl (by kernel_rfl) (by kernel_rfl) (by kernel_rfl) (fun _ _ _ h => h) (Or.inr ⟨by rfl, rfl⟩) hHeld ?_
              simp only [Act.put, List.setIfInBounds_toArray, List.set_cons_zero, List.set_cons_succ]
              refine wpAnyH_take (i := 26) (oi := { dst := some 160, op := _, type := _, pos := _, after := _, guard := _ }) (v := undef) rfl (by kernel_rfl) (by kernel_rfl) (by kernel_rfl) (fun _ _ _ h => h) (Or.inr ⟨by rfl, rfl⟩) hHeld ?_
              simp only [Act.put, List.setIfInBounds_toArray, List.set_cons_zero, List.set_cons_succ]
              refine wpAnyH_take (i := 27) (oi := { dst := some 161, op := _, type := _, pos := _, after := _, guard := _ }) (v := undef) rfl (by kernel_rfl) (by kernel_rfl) (by kernel_rfl) (fun _ _ _ h => h) (Or.inr ⟨by rfl, rfl⟩) hHeld ?_
              simp only [Act.put, List.setIfInBounds_toArray, List.set_cons_zero, List.set_cons_succ]
              refine wpAnyH_take (i := 28) (oi := { dst := some 162, op := _, type := _, pos := _, after := _, guard := _ }) (v := undef) rfl (by kernel_rfl) (by kernel_rfl) (by kernel_rfl) (fun _ _ _ h => h) (Or.inr ⟨by rfl, rfl⟩) hHeld ?_
              simp only [Act.put, List.setIfInBounds_toArray, List.set_cons_zero, List.set_cons_succ]
              refine wpAnyH_take (i := 29) (oi := { dst := some 163, op := _, type := _, pos := _, after := _, guard := _ }) (v := undef) rfl (by kernel_rfl) (by kernel_rfl) (by kernel_rfl) (fun _ _ _ h => h) (Or.inr ⟨by rfl, rfl⟩) hHeld ?_
              simp only [Act.put, List.setIfInBounds_toArray, List.set_cons_zero, List.set_cons_succ]
              refine wpAnyH_take (i := 30) (oi := { dst := some 164, op := _, type := _, pos := _, after := _, guard := _ }) (v := undef) rfl (by kernel_rfl) (by kernel_rfl) (by kernel_rfl) (fun _ _ _ h => h) (Or.inr ⟨by rfl, rfl⟩) hHeld ?_
              simp only [Act.put, List.setIfInBounds_toArray, List.set_cons_zero, List.set_cons_succ]
              refine wpAnyH_take (i := 31) (oi := { dst := some 165, op := _, type := _, pos := _, after := _, guard := _ }) (v := undef) rfl (by kernel_rfl) (by kernel_rfl) (by kernel_rfl) (fun _ _ _ h => h) (Or.inr ⟨by rfl, rfl⟩) hHeld ?_
              simp only [Act.put, List.setIfInBounds_toArray, List.set_cons_zero, List.set_cons_succ]
              refine wpAnyH_take (i := 32) (oi := { dst := some 166, op := _, type := _, pos := _, after := _, guard := _ }) (v := undef) rfl (by kernel_rfl) (by kernel_rfl) (by kernel_rfl) (fun _ _ _ h => h) (Or.inr ⟨by rfl, rfl⟩) hHeld ?_
              simp only [Act.put, List.setIfInBounds_toArray, List.set_cons_zero, List.set_cons_succ]
              refine wpAnyH_take (i := 33) (oi := { dst := some 167, op := _, type := _, pos := _, after := _, guard := _ }) (v := undef) rfl (by kernel_rfl) (by kernel_rfl) (by kernel_rfl) (fun _ _ _ h => h) (Or.inr ⟨by rfl, rfl⟩) hHeld ?_
              simp only [Act.put, List.setIfInBounds_toArray, List.set_cons_zero, List.set_cons_succ]
              refine wpAnyH_take (i := 34) (oi := { dst := some 168, op := _, type := _, pos := _, after := _, guard := _ }) (v := undef) rfl (by kernel_rfl) (by kernel_rfl) (by kernel_rfl) (fun _ _ _ h => h) (Or.inr ⟨by rfl, rfl⟩) hHeld ?_
              simp only [Act.put, List.setIfInBounds_toArray, List.set_cons_zero, List.set_cons_succ]
              refine wpAnyH_take (i := 35) (oi := { dst := some 169, op := _, type := _, pos := _, after := _, guard := _ }) (v := undef) rfl (by kernel_rfl) (by kernel_rfl) (by kernel_rfl) (fun _ _ _ h => h) (Or.inr ⟨by rfl, rfl⟩) hHeld ?_
              simp only [Act.put, List.setIfInBounds_toArray, List.set_cons_zero, List.set_cons_succ]
              refine wpAnyH_take (i := 36) (oi := { dst := some 170, op := _, type := _, pos := _, after := _, guard := _ }) (v := undef) rfl (by kernel_rfl) (by kernel_rfl) (by kernel_rfl) (fun _ _ _ h => h) (Or.inr ⟨by rfl, rfl⟩) hHeld ?_
              simp only [Act.put, List.setIfInBounds_toArray, List.set_cons_zero, List.set_cons_succ]
              refine wpAnyH_take (i := 37) (oi := { dst := some 171, op := _, type := _, pos := _, after := _, guard := _ }) (v := undef) rfl (by kernel_rfl) (by kernel_rfl) (by kernel_rfl) (fun _ _ _ h => h) (Or.inr ⟨by rfl, rfl⟩) hHeld ?_
              simp only [Act.put, List.setIfInBounds_toArray, List.set_cons_zero, List.set_cons_succ]
              refine wpAnyH_take (i := 38) (oi := { dst := some 172, op := _, type := _, pos := _, after := _, guard := _ }) (v := ?v1_38) rfl (by kernel_rfl) (by kernel_rfl) (by kernel_rfl) (fun _ _ _ h => h) (Or.inl ⟨by rfl, ?hy1_38⟩) hHeld ?_
              case hy1_38 => (intro w hSw; (try dsimp only at hSw); go_simp; try with_reducible rfl)
              simp only [Act.put, List.setIfInBounds_toArray, List.set_cons_zero, List.set_cons_succ]
              refine wpAnyH_take (i := 39) (oi := { dst := some 173, op := _, type := _, pos := _, after := _, guard := _ }) (v := ?v1_39) rfl (by kernel_rfl) (by kernel_rfl) (by kernel_rfl) (fun _ _ _ h => h) (Or.inl ⟨by rfl, ?hy1_39⟩) hHeld ?_
              case hy1_39 => (intro w hSw; (try dsimp only at hSw); go_simp; try with_reducible rfl)
              simp only [Act.put, List.setIfInBounds_toArray, List.set_cons_zero, List.set_cons_succ]
              refine wpAnyH_take (i := 40) (oi := { dst := some 6, op := _, type := _, pos := _, after := _, guard := _ }) (v := ?v1_40) rfl (by kernel_rfl) (by kernel_rfl) (by kernel_rfl) (fun _ _ _ h => h) (Or.inl ⟨by rfl, ?hy1_40⟩) hHeld ?_
              case hy1_40 => (intro w hSw; (try dsimp only at hSw); go_simp; try with_reducible rfl)
              simp only [Act.put, List.setIfInBounds_toArray, List.set_cons_zero, List.set_cons_succ]
              refine wpAnyH_done (by kernel_rfl) ?_ _
              clear hHeld
              go_wp2_with fail
              go_ret
              exact ⟨rfl, below_dn BZ.out 1⟩
          · have hn0 : nn = 1 := by rw [← HN.out, e1, e2, List.length_cons]; omega
            subst hn0
            have dk : (x.k == 1) = false := beq_eq_false_iff_ne.2 (by omega)
            have hng : ¬ xs.length < P1.length := by rw [e1]; omega
            have hgt : ys.length < P2.length := by rw [e2, List.length_cons]; omega
            have hgi : (ys.length : Int) < (P2.length : Int) := by omega
            have hps : 0 < P2.length := by omega
            have hx0 : P2.getD 0 0 = x.i := by rw [e2]; rfl
            rcases H9.out.fb.get with ⟨_, e⟩ | ⟨ge, cap, e, hI⟩
            · rw [e] at hps; exact absurd hps (by decide)
            · injection e with ea _ ec
              subst ea
              subst ec
              have hc0 := hI.cell 0 hps
              rw [hx0] at hc0
              clear hk1 e1 e2 hI hx0
              go_wp2_with fail
              refine wp_region_held_drew (S := fun u => (u.cell? ⟨w8.heap.size, 4, none⟩ = some (.slice Eq1 P1.length p1) ∧ u.cell? ⟨w8.heap.size, 5, none⟩ = some (.slice (some ⟨ge, 0, none⟩) P2.length p2) ∧ u.cell? ⟨sb, 4, none⟩ = some (.slice Uq1 xs.length f1) ∧ u.cell? ⟨sb, 5, none⟩ = some (.slice Uq2 ys.length f2) ∧ u.cell? ⟨kb, 1, none⟩ = some (.int .i64 x.i) ∧ u.cell? ⟨ge, 0, none⟩ = some (.int .i64 x.i))) (by kernel_rfl) ⟨s4, s5, t4, t5, r1, hc0⟩ (fun hHeld => ?_)
              refine wpAnyH_take (i := 0) (oi := { dst := some 134, op := _, type := _, pos := _, after := _, guard := _ }) (v := ?v2_0) rfl (by kernel_rfl) (by kernel_rfl) (by kernel_rfl) (fun _ _ _ h => h) (Or.inl ⟨by rfl, ?hy2_0⟩) hHeld ?_
              case hy2_0 => (intro w hSw; (try dsimp only at hSw); go_simp; try with_reducible rfl)
              simp only [Act.put, List.setIfInBounds_toArray, List.set_cons_zero, List.set_cons_succ]
              refine wpAnyH_take (i := 1) (oi := { dst := some 135, op := _, type := _, pos := _, after := _, guard := _ }) (v := ?v2_1) rfl (by kernel_rfl) (by kernel_rfl) (by kernel_rfl) (fun _ _ _ h => h) (Or.inl ⟨by rfl, ?hy2_1⟩) hHeld ?_
              case hy2_1 => (intro w hSw; (try dsimp only at hSw); go_simp; try with_reducible rfl)
              simp only [Act.put, List.setIfInBounds_toArray, List.set_cons_zero, List.set_cons_succ]
              refine wpAnyH_take (i := 2) (oi := { dst := some 136, op := _, type := _, pos := _, after := _, guard := _ }) (v := ?v2_2) rfl (by kernel_rfl) (by kernel_rfl) (by kernel_rfl) (fun _ _ _ h => h) (Or.inl ⟨by rfl, ?hy2_2⟩) hHeld ?_
              case hy2_2 => (intro w hSw; (try dsimp only at hSw); go_simp; try with_reducible rfl)
              simp only [Act.put, List.setIfInBounds_toArray, List.set_cons_zero, List.set_cons_succ]
              refine wpAnyH_take (i := 3) (oi := { dst := some 137, op := _, type := _, pos := _, after := _, guard := _ }) (v := ?v2_3) rfl (by kernel_rfl) (by kernel_rfl) (by kernel_rfl) (fun _ _ _ h => h) (Or.inl ⟨by rfl, ?hy2_3⟩) hHeld ?_
              case hy2_3 => (intro w hSw; (try dsimp only at hSw); go_simp; try with_reducible rfl)
              simp only [Act.put, List.setIfInBounds_toArray, List.set_cons_zero, List.set_cons_succ]
              refine wpAnyH_take (i := 4) (oi := { dst := some 138, op := _, type := _, pos := _, after := _, guard := _ }) (v := ?v2_4) rfl (by kernel_rfl) (by kernel_rfl) (by kernel_rfl) (fun _ _ _ h => h) (Or.inl ⟨by rfl, ?hy2_4⟩) hHeld ?_
              case hy2_4 => (intro w hSw; (try dsimp only at hSw); go_simp; try with_reducible rfl)
              simp only [Act.put, List.setIfInBounds_toArray, List.set_cons_zero, List.set_cons_succ]
              refine wpAnyH_take (i := 5) (oi := { dst := some 139, op := _, type := _, pos := _, after := _, guard := _ }) (v := ?v2_5) rfl (by kernel_rfl) (by kernel_rfl) (by kernel_rfl) (fun _ _ _ h => h) (Or.inl ⟨by rfl, ?hy2_5⟩) hHeld ?_
              case hy2_5 => (intro w hSw; (try dsimp only at hSw); go_simp; try with_reducible rfl)
              simp only [Act.put, List.setIfInBounds_toArray, List.set_cons_zero, List.set_cons_succ]
              refine wpAnyH_take (i := 6) (oi := { dst := some 140, op := _, type := _, pos := _, after := _, guard := _ }) (v := ?v2_6) rfl (by kernel_rfl) (by kernel_rfl) (by kernel_rfl) (fun _ _ _ h => h) (Or.inl ⟨by rfl, ?hy2_6⟩) hHeld ?_
              case hy2_6 => (intro w hSw; (try dsimp only at hSw); go_simp; try with_reducible rfl)
              simp only [Act.put, List.setIfInBounds_toArray, List.set_cons_zero, List.set_cons_succ]
              refine wpAnyH_take (i := 7) (oi := { dst := some 141, op := _, type := _, pos := _, after := _, guard := _ }) (v := ?v2_7) rfl (by kernel_rfl) (by kernel_rfl) (by kernel_rfl) (fun _ _ _ h => h) (Or.inl ⟨by rfl, ?hy2_7⟩) hHeld ?_
              case hy2_7 => (intro w hSw; (try dsimp only at hSw); go_simp; try with_reducible rfl)
              simp only [Act.put, List.setIfInBounds_toArray, List.set_cons_zero, List.set_cons_succ]
              refine wpAnyH_take (i := 8) (oi := { dst := some 142, op := _, type := _, pos := _, after := _, guard := _ }) (v := ?v2_8) rfl (by kernel_rfl) (by kernel_rfl) (by kernel_rfl) (fun _ _ _ h => h) (Or.inl ⟨by rfl, ?hy2_8⟩) hHeld ?_
              case hy2_8 => (intro w hSw; (try dsimp only at hSw); go_simp; try with_reducible rfl)
              simp only [Act.put, List.setIfInBounds_toArray, List.set_cons_zero, List.set_cons_succ]
              refine wpAnyH_take (i := 9) (oi := { dst := some 143, op := _, type := _, pos := _, after := _, guard := _ }) (v := ?v2_9) rfl (by kernel_rfl) (by kernel_rfl) (by kernel_rfl) (fun _ _ _ h => h) (Or.inl ⟨by rfl, ?hy2_9⟩) hHeld ?_
              case hy2_9 => (intro w hSw; (try dsimp only at hSw); go_simp; try with_reducible rfl)
              simp only [Act.put, List.setIfInBounds_toArray, List.set_cons_zero, List.set_cons_succ]
              refine wpAnyH_take (i := 10) (oi := { dst := some 144, op := _, type := _, pos := _, after := _, guard := _ }) (v := ?v2_10) rfl (by kernel_rfl) (by kernel_rfl) (by kernel_rfl) (fun _ _ _ h => h) (Or.inl ⟨by rfl, ?hy2_10⟩) hHeld ?_
              case hy2_10 => (intro w hSw; (try dsimp only at hSw); go_simp; try with_reducible rfl)
              simp only [Act.put, List.setIfInBounds_toArray, List.set_cons_zero, List.set_cons_succ]
              refine wpAnyH_take (i := 11) (oi := { dst := some 145, op := _, type := _, pos := _, after := _, guard := _ }) (v := undef) rfl (by kernel_rfl) (by kernel_rfl) (by kernel_rfl) (fun _ _ _ h => h) (Or.inr ⟨by rfl, rfl⟩) hHeld ?_
              simp only [Act.put, List.setIfInBounds_toArray, List.set_cons_zero, List.set_cons_succ]
              refine wpAnyH_take (i := 12) (oi := { dst := some 146, op := _, type := _, pos := _, after := _, guard := _ }) (v := undef) rfl (by kernel_rfl) (by kernel_rfl) (by kernel_rfl) (fun _ _ _ h => h) (Or.inr ⟨by rfl, rfl⟩) hHeld ?_
              simp only [Act.put, List.setIfInBounds_toArray, List.set_cons_zero, List.set_cons_succ]
              refine wpAnyH_take (i := 13) (oi := { dst := some 147, op := _, type := _, pos := _, after := _, guard := _ }) (v := undef) rfl (by kernel_rfl) (by kernel_rfl) (by kernel_rfl) (fun _ _ _ h => h) (Or.inr ⟨by rfl, rfl⟩) hHeld ?_
              simp only [Act.put, List.setIfInBounds_toArray, List.set_cons_zero, List.set_cons_succ]
              refine wpAnyH_take (i := 14) (oi := { dst := some 148, op := _, type := _, pos := _, after := _, guard := _ }) (v := undef) rfl (by kernel_rfl) (by kernel_rfl) (by kernel_rfl) (fun _ _ _ h => h) (Or.inr ⟨by rfl, rfl⟩) hHeld ?_
              simp only [Act.put, List.setIfInBounds_toArray, List.set_cons_zero, List.set_cons_succ]
              refine wpAnyH_take (i := 15) (oi := { dst := some 149, op := _, type := _, pos := _, after := _, guard := _ }) (v := undef) rfl (by kernel_rfl) (by kernel_rfl) (by kernel_rfl) (fun _ _ _ h => h) (Or.inr ⟨by rfl, rfl⟩) hHeld ?_
              simp only [Act.put, List.setIfInBounds_toArray, List.set_cons_zero, List.set_cons_succ]
              refine wpAnyH_take (i := 16) (oi := { dst := some 150, op := _, type := _, pos := _, after := _, guard := _ }) (v := undef) rfl (by kernel_rfl) (by kernel_rfl) (by kernel_rfl) (fun _ _ _ h => h) (Or.inr ⟨by rfl, rfl⟩) hHeld ?_
              simp only [Act.put, List.setIfInBounds_toArray, List.set_cons_zero, List.set_cons_succ]
              refine wpAnyH_take (i := 17) (oi := { dst := some 151, op := _, type := _, pos := _, after := _, guard := _ }) (v := undef) rfl (by kernel_rfl) (by kernel_rfl) (by kernel_rfl) (fun _ _ _ h => h) (Or.inr ⟨by rfl, rfl⟩) hHeld ?_
              simp only [Act.put, List.setIfInBounds_toArray, List.set_cons_zero, List.set_cons_succ]
              refine wpAnyH_take (i := 18) (oi := { dst := some 152, op := _, type := _, pos := _, after := _, guard := _ }) (v := undef) rfl (by kernel_rfl) (by kernel_rfl) (by kernel_rfl) (fun _ _ _ h => h) (Or.inr ⟨by rfl, rfl⟩) hHeld ?_
              simp only [Act.put, List.setIfInBounds_toArray, List.set_cons_zero, List.set_cons_succ]
              refine wpAnyH_take (i := 19) (oi := { dst := some 153, op := _, type := _, pos := _, after := _, guard := _ }) (v := ?v2_19) rfl (by kernel_rfl) (by kernel_rfl) (by kernel_rfl) (fun _ _ _ h => h) (Or.inl ⟨by rfl, ?hy2_19⟩) hHeld ?_
              case hy2_19 => (intro w hSw; (try dsimp only at hSw); go_simp; try with_reducible rfl)
              simp only [Act.put, List.setIfInBounds_toArray, List.set_cons_zero, List.set_cons_succ]
              refine wpAnyH_take (i := 20) (oi := { dst := some 154, op := _, type := _, pos := _, after := _, guard := _ }) (v := ?v2_20) rfl (by kernel_rfl) (by kernel_rfl) (by kernel_rfl) (fun _ _ _ h => h) (Or.inl ⟨by rfl, ?hy2_20⟩) hHeld ?_
              case hy2_20 => (intro w hSw; (try dsimp only at hSw); go_simp; try with_reducible rfl)
              simp only [Act.put, List.setIfInBounds_toArray, List.set_cons_zero, List.set_cons_succ]
              refine wpAnyH_take (i := 21) (oi := { dst := some 155, op := _, type := _, pos := _, after := _, guard := _ }) (v := ?v2_21) rfl (by kernel_rfl) (by kernel_rfl) (by kernel_rfl) (fun _ _ _ h => h) (Or.inl ⟨by rfl, ?hy2_21⟩) hHeld ?_
              case hy2_21 => (intro w hSw; (try dsimp only at hSw); go_simp; try with_reducible rfl)
              simp only [Act.put, List.setIfInBounds_toArray, List.set_cons_zero, List.set_cons_succ]
              refine wpAnyH_take (i := 22) (oi := { dst := some 156, op := _, type := _, pos := _, after := _, guard := _ }) (v := ?v2_22) rfl (by kernel_rfl) (by kernel_rfl) (by kernel_rfl) (fun _ _ _ h => h) (Or.inl ⟨by rfl, ?hy2_22⟩) hHeld ?_
              case hy2_22 => (intro w hSw; (try dsimp only at hSw); go_simp; try with_reducible rfl)
              simp only [Act.put, List.setIfInBounds_toArray, List.set_cons_zero, List.set_cons_succ]
              refine wpAnyH_take (i := 23) (oi := { dst := some 157, op := _, type := _, pos := _, after := _, guard := _ }) (v := ?v2_23) rfl (by kernel_rfl) (by kernel_rfl) (by kernel_rfl) (fun _ _ _ h => h) (Or.inl ⟨by rfl, ?hy2_23⟩) hHeld ?_
              case hy2_23 => (intro w hSw; (try dsimp only at hSw); go_simp; try with_reducible rfl)
              simp only [Act.put, List.setIfInBounds_toArray, List.set_cons_zero, List.set_cons_succ]
              refine wpAnyH_take (i := 24) (oi := { dst := some 158, op := _, type := _, pos := _, after := _, guard := _ }) (v := ?v2_24) rfl (by kernel_rfl) (by kernel_rfl) (by kernel_rfl) (fun _ _ _ h => h) (Or.inl ⟨by rfl, ?hy2_24⟩) hHeld ?_
              case hy2_24 => (intro w hSw; (try dsimp only at hSw); go_simp; try with_reducible rfl)
              simp only [Act.put, List.setIfInBounds_toArray, List.set_cons_zero, List.set_cons_succ]
              refine wpAnyH_take (i := 25) (oi := { dst := some 159, op := _, type := _, pos := _, after := _, guard := _ }) (v := ?v2_25) rfl (by kernel_rfl) (by kernel_rfl) (by kernel_rfl) (fun _ _ _ h => h) (Or.inl ⟨by rfl, ?hy2_25⟩) hHeld ?_
              case hy2_25 => (intro w hSw; (try dsimp only at hSw); go_simp; try with_reducible rfl)
              simp only [Act.put, List.setIfInBounds_toArray, List.set_cons_zero, List.set_cons_succ]
              refine wpAnyH_take (i := 26) (oi := { dst := some 160, op := _, type := _, pos := _, after := _, guard := _ }) (v := ?v2_26) rfl (by kernel_rfl) (by kernel_rfl) (by kernel_rfl) (fun _ _ _ h => h) (Or.inl ⟨by rfl, ?hy2_26⟩) hHeld ?_
              case hy2_26 => (intro w hSw; (try dsimp only at hSw); go_simp; try with_reducible rfl)
              simp only [Act.put, List.setIfInBounds_toArray, List.set_cons_zero, List.set_cons_succ]
              refine wpAnyH_take (i := 27) (oi := { dst := some 161, op := _, type := _, pos := _, after := _, guard := _ }) (v := ?v2_27) rfl (by kernel_rfl) (by kernel_rfl) (by kernel_rfl) (fun _ _ _ h => h) (Or.inl ⟨by rfl, ?hy2_27⟩) hHeld ?_
              case hy2_27 => (intro w hSw; (try dsimp only at hSw); go_simp; try with_reducible rfl)
              simp only [Act.put, List.setIfInBounds_toArray, List.set_cons_zero, List.set_cons_succ]
              refine wpAnyH_take (i := 28) (oi := { dst := some 162, op := _, type := _, pos := _, after := _, guard := _ }) (v := ?v2_28) rfl (by kernel_rfl) (by kernel_rfl) (by kernel_rfl) (fun _ _ _ h => h) (Or.inl ⟨by rfl, ?hy2_28⟩) hHeld ?_
              case hy2_28 => (intro w hSw; (try dsimp only at hSw); go_simp; try with_reducible rfl)
              simp only [Act.put, List.setIfInBounds_toArray, List.set_cons_zero, List.set_cons_succ]
              refine wpAnyH_take (i := 29) (oi := { dst := some 163, op := _, type := _, pos := _, after := _, guard := _ }) (v := ?v2_29) rfl (by kernel_rfl) (by kernel_rfl) (by kernel_rfl) (fun _ _ _ h => h) (Or.inl ⟨by rfl, ?hy2_29⟩) hHeld ?_
              case hy2_29 => (intro w hSw; (try dsimp only at hSw); go_simp; try with_reducible rfl)
              simp only [Act.put, List.setIfInBounds_toArray, List.set_cons_zero, List.set_cons_succ]
              refine wpAnyH_take (i := 30) (oi := { dst := some 164, op := _, type := _, pos := _, after := _, guard := _ }) (v := ?v2_30) rfl (by kernel_rfl) (by kernel_rfl) (by kernel_rfl) (fun _ _ _ h => h) (Or.inl ⟨by rfl, ?hy2_30⟩) hHeld ?_
              case hy2_30 => (intro w hSw; (try dsimp only at hSw); go_simp; try with_reducible rfl)
              simp only [Act.put, List.setIfInBounds_toArray, List.set_cons_zero, List.set_cons_succ]
              refine wpAnyH_take (i := 31) (oi := { dst := some 165, op := _, type := _, pos := _, after := _, guard := _ }) (v := ?v2_31) rfl (by kernel_rfl) (by kernel_rfl) (by kernel_rfl) (fun _ _ _ h => h) (Or.inl ⟨by rfl, ?hy2_31⟩) hHeld ?_
              case hy2_31 => (intro w hSw; (try dsimp only at hSw); go_simp; try with_reducible rfl)
              simp only [Act.put, List.setIfInBounds_toArray, List.set_cons_zero, List.set_cons_succ]
              refine wpAnyH_take (i := 32) (oi := { dst := some 166, op := _, type := _, pos := _, after := _, guard := _ }) (v := ?v2_32) rfl (by kernel_rfl) (by kernel_rfl) (by kernel_rfl) (fun _ _ _ h => h) (Or.inl ⟨by rfl, ?hy2_32⟩) hHeld ?_
              case hy2_32 => (intro w hSw; (try dsimp only at hSw); go_simp; try with_reducible rfl)
              simp only [Act.put, List.setIfInBounds_toArray, List.set_cons_zero, List.set_cons_succ]
              refine wpAnyH_take (i := 33) (oi := { dst := some 167, op := _, type := _, pos := _, after := _, guard := _ }) (v := ?v2_33) rfl (by kernel_rfl) (by kernel_rfl) (by kernel_rfl) (fun _ _ _ h => h) (Or.inl ⟨by rfl, ?hy2_33⟩) hHeld ?_
              case hy2_33 => (intro w hSw; (try dsimp only at hSw); go_simp; try with_reducible rfl)
              simp only [Act.put, List.setIfInBounds_toArray, List.set_cons_zero, List.set_cons_succ]
              refine wpAnyH_take (i := 34) (oi := { dst := some 168, op := _, type := _, pos := _, after := _, guard := _ }) (v := ?v2_34) rfl (by kernel_rfl) (by kernel_rfl) (by kernel_rfl) (fun _ _ _ h => h) (Or.inl ⟨by rfl, ?hy2_34⟩) hHeld ?_
              case hy2_34 => (intro w hSw; (try dsimp only at hSw); go_simp; try with_reducible rfl)
              simp only [Act.put, List.setIfInBounds_toArray, List.set_cons_zero, List.set_cons_succ]
              refine wpAnyH_take (i := 35) (oi := { dst := some 169, op := _, type := _, pos := _, after := _, guard := _ }) (v := ?v2_35) rfl (by kernel_rfl) (by kernel_rfl) (by kernel_rfl) (fun _ _ _ h => h) (Or.inl ⟨by rfl, ?hy2_35⟩) hHeld ?_
              case hy2_35 => (intro w hSw; (try dsimp only at hSw); go_simp; try with_reducible rfl)
              simp only [Act.put, List.setIfInBounds_toArray, List.set_cons_zero, List.set_cons_succ]
              refine wpAnyH_take (i := 36) (oi := { dst := some 170, op := _, type := _, pos := _, after := _, guard := _ }) (v := ?v2_36) rfl (by kernel_rfl) (by kernel_rfl) (by kernel_rfl) (fun _ _ _ h => h) (Or.inl ⟨by rfl, ?hy2_36⟩) hHeld ?_
              case hy2_36 => (intro w hSw; (try dsimp only at hSw); go_simp; try with_reducible rfl)
              simp only [Act.put, List.setIfInBounds_toArray, List.set_cons_zero, List.set_cons_succ]
              refine wpAnyH_take (i := 37) (oi := { dst := some 171, op := _, type := _, pos := _, after := _, guard := _ }) (v := ?v2_37) rfl (by kernel_rfl) (by kernel_rfl) (by kernel_rfl) (fun _ _ _ h => h) (Or.inl ⟨by rfl, ?hy2_37⟩) hHeld ?_
              case hy2_37 => (intro w hSw; (try dsimp only at hSw); go_simp; try with_reducible rfl)
              simp only [Act.put, List.setIfInBounds_toArray, List.set_cons_zero, List.set_cons_succ]
              refine wpAnyH_take (i := 38) (oi := { dst := some 172, op := _, type := _, pos := _, after := _, guard := _ }) (v := ?v2_38) rfl (by kernel_rfl) (by kernel_rfl) (by kernel_rfl) (fun _ _ _ h => h) (Or.inl ⟨by rfl, ?hy2_38⟩) hHeld ?_
              case hy2_38 => (intro w hSw; (try dsimp only at hSw); go_simp; try with_reducible rfl)
              simp only [Act.put, List.setIfInBounds_toArray, List.set_cons_zero, List.set_cons_succ]
              refine wpAnyH_take (i := 39) (oi := { dst := some 173, op := _, type := _, pos := _, after := _, guard := _ }) (v := ?v2_39) rfl (by kernel_rfl) (by kernel_rfl) (by kernel_rfl) (fun _ _ _ h => h) (Or.inl ⟨by rfl, ?hy2_39⟩) hHeld ?_
              case hy2_39 => (intro w hSw; (try dsimp only at hSw); go_simp; try with_reducible rfl)
              simp only [Act.put, List.setIfInBounds_toArray, List.set_cons_zero, List.set_cons_succ]
              refine wpAnyH_take (i := 40) (oi := { dst := some 6, op := _, type := _, pos := _, after := _, guard := _ }) (v := ?v2_40) rfl (by kernel_rfl) (by kernel_rfl) (by kernel_rfl) (fun _ _ _ h => h) (Or.inl ⟨by rfl, ?hy2_40⟩) hHeld ?_
              case hy2_40 => (intro w hSw; (try dsimp only at hSw); go_simp; try with_reducible rfl)
              simp only [Act.put, List.setIfInBounds_toArray, List.set_cons_zero, List.set_cons_succ]
              refine wpAnyH_done (by kernel_rfl) ?_ _
              clear hHeld
              go_wp2_with fail
              go_ret
              exact ⟨rfl, below_dn BZ.out 1⟩
/-! the law -/
section
variable (M : OP) (c : Cat) (vs vf : Value) (y day : Int) (W : World) (h : CatAt W (.agg #[.int .i64 c.free, vs, vf]) c) (ht : PT W)
include M h ht
omit ht in
set_option maxRecDepth 100000 in
theorem l21d_no (hr : (fewB c && catB c) = false) : Calls Try.prog 5 #[(.agg #[.int .i64 c.free, vs, vf]), .int .i64 y, .int .i64 day] W fun e w' => e = .returned (.bool true) ∧ Below W.heap.size W w' := by
  have B0 := Lib.hid ((Below.refl W.heap.size W).alloc (Nat.le_refl _) (.cells #[.int .i64 c.free, vs, vf] 25))
  have R0 := Lib.hid (heap_alloc_new W (.cells #[.int .i64 c.free, vs, vf] 25))
  have QW := Lib.hid (fun u => c21awake_any M u)
  have QR := Lib.hid (fun u (hu : Below W.heap.size W u) => by have := r17rt_any c _ u (h.on hu); rwa [hr] at this)
  clear hr
  go_enter Try.func5, Try.ntmps5
  go_wp2_with fail
  generalize hW1 : W.alloc (.cells #[.int .i64 c.free, vs, vf] 25) = W1 at *
  refine (QW.out _).mono ?_
  rintro e w1 ⟨rfl, hb1⟩
  have B1 := Lib.hid (below_on B0.out hb1)
  have R1 := Lib.hid (row_on R0.out hb1)
  clear hb1
  obtain ⟨y0, y1, y2, -, -, -, yz⟩ := row3 R1.out
  go_wp2_with fail
  refine (QR.out _ B1.out).mono ?_
  rintro e w2 ⟨rfl, hb2⟩
  have B2 := Lib.hid (below_on B1.out hb2)
  clear hb2 y0 y1 y2 yz
  go_wp2_with fail
  refine (QW.out _).mono ?_
  rintro e w3 ⟨rfl, hb3⟩
  have B3 := Lib.hid (below_on B2.out hb3)
  clear hb3
  go_wp2_with fail
  go_ret
  exact ⟨rfl, B3.out⟩
omit ht in
set_option maxRecDepth 100000 in
theorem l21d_bad (hr : (fewB c && catB c) = true) (hf : (snE c y day != 0) = true) : Calls Try.prog 5 #[(.agg #[.int .i64 c.free, vs, vf]), .int .i64 y, .int .i64 day] W fun e w' => e = .returned (.bool true) ∧ Below W.heap.size W w' := by
  have B0 := Lib.hid ((Below.refl W.heap.size W).alloc (Nat.le_refl _) (.cells #[.int .i64 c.free, vs, vf] 25))
  have R0 := Lib.hid (heap_alloc_new W (.cells #[.int .i64 c.free, vs, vf] 25))
  have QW := Lib.hid (fun u => c21awake_any M u)
  have QR := Lib.hid (fun u (hu : Below W.heap.size W u) => by have := r17rt_any c _ u (h.on hu); rwa [hr] at this)
  have QF := Lib.hid (fun u (hu : Below W.heap.size W u) => r18fl_any c y day _ u (h.on hu))
  generalize snE c y day = E at *
  clear hr
  go_enter Try.func5, Try.ntmps5
  go_wp2_with fail
  generalize hW1 : W.alloc (.cells #[.int .i64 c.free, vs, vf] 25) = W1 at *
  refine (QW.out _).mono ?_
  rintro e w1 ⟨rfl, hb1⟩
  have B1 := Lib.hid (below_on B0.out hb1)
  have R1 := Lib.hid (row_on R0.out hb1)
  clear hb1
  obtain ⟨y0, y1, y2, -, -, -, yz⟩ := row3 R1.out
  go_wp2_with fail
  refine (QR.out _ B1.out).mono ?_
  rintro e w2 ⟨rfl, hb2⟩
  have B2 := Lib.hid (below_on B1.out hb2)
  have R2 := Lib.hid (row_on R1.out hb2)
  clear hb2 y0 y1 y2 yz
  obtain ⟨y0, y1, y2, -, -, -, yz⟩ := row3 R2.out
  go_wp2_with fail
  refine (QF.out _ B2.out).mono ?_
  rintro e w3 ⟨rfl, hb3⟩
  have B3 := Lib.hid (below_on B2.out hb3)
  clear hb3 y0 y1 y2 yz
  go_wp2_with fail
  refine (QW.out _).mono ?_
  rintro e w4 ⟨rfl, hb4⟩
  have B4 := Lib.hid (below_on B3.out hb4)
  clear hb4
  go_wp2_with fail
  go_ret
  exact ⟨rfl, B4.out⟩
theorem l21d_ok (hr : (fewB c && catB c) = true) (hf : snE c y day = 0) : Calls Try.prog 5 #[(.agg #[.int .i64 c.free, vs, vf]), .int .i64 y, .int .i64 day] W fun e w' => e = .returned (.bool true) ∧ Below W.heap.size W w' := by
  obtain ⟨hc, g, -, -⟩ := snE_zero hf
  have hw : fewB c = true := by rw [Bool.and_eq_true] at hr; exact hr.1
  have hfl : c.fs.length ≤ 39 := by unfold fewB at hw; simp only [Bool.and_eq_true, decide_eq_true_eq] at hw; omega
  have hok := cds_ok hc hfl (itsD c.ss y) (itsD c.fs y) day
  obtain ⟨x, rest, hs⟩ : ∃ x rest, srtR (cdsOf c y day) = x :: rest := by
    cases e : srtR (cdsOf c y day) with
    | nil => have := srtR_len (cdsOf c y day); rw [e] at this; have := hok.ne; unfold cdsOf at *; simp at *; omega
    | cons x rest => exact ⟨x, rest, rfl⟩
  have hll : (cdsOf c y day).length ≤ 1000 := by have := hok.le; unfold cdsOf; omega
  have sd := sn_day hf
  have hyr : inR day = true := inR_iff.2 (by omega)
  have QW := Lib.hid (fun u => c21awake_any M u)
  have QR17 := Lib.hid (fun u (hu : Below W.heap.size W u) => by have := r17rt_any c _ u (h.on hu); rwa [hr] at this)
  have QF := Lib.hid (fun u (hu : Below W.heap.size W u) => by have := r18fl_any c y day _ u (h.on hu); rwa [hf] at this)
  have QO' := Lib.hid (fun u (hu : Below W.heap.size W u) => r19of_any c y day _ u (h.on hu) hc g hyr (ht.on hu))
  have hrl : rest.length + 1 = (cdsOf c y day).length := by have := srtR_len (cdsOf c y day); rw [hs] at this; exact this
  have hle : (cdsOf c y day).length ≤ 40 := hok.le
  have pl := fun p => polL_len (c := c) (p := p) (s := rest)
  have pl1 := pl 1
  have pl2 := pl 2
  have pl3 := pl 3
  have hxm : x ∈ cdsOf c y day := spl_fst hs
  have hkd := hok.kd x hxm
  have hfx := hok.fs x hxm
  have HP := Lib.hid (show (x.k = 1 ∧ dspC c x (polL c 2 rest) = polL c 2 rest ∧ dspO c x (polL c 3 rest) = polL c 3 rest) ∨ (x.k = 2 ∧ dspC c x (polL c 2 rest) = x.i :: polL c 2 rest ∧ dspO c x (polL c 3 rest) = polL c 3 rest) ∨ (x.k = 2 ∧ dspC c x (polL c 2 rest) = polL c 2 rest ∧ dspO c x (polL c 3 rest) = x.i :: polL c 3 rest) by
    unfold dspC dspO
    rcases hkd with q | q
    · exact .inl ⟨q, if_neg (by omega), if_neg (by omega)⟩
    · by_cases q3 : polOf c x = 3
      · exact .inr (.inr ⟨q, if_neg (fun r => r.2 q3), if_pos ⟨q, q3⟩⟩)
      · exact .inr (.inl ⟨q, if_pos ⟨q, q3⟩, if_neg (fun r => q3 r.2)⟩))
  have QR' := Lib.hid (fun u v (hu : Below W.heap.size W u) (hcs : CsAt u v (cdsOf c y day)) => M.rs c _ v _ x rest u (h.on hu) hcs hfl hok hs)
  have QD' := Lib.hid (fun u a1 a2 a3 (hu : Below W.heap.size W u) (s1 : SlI a1 (polL c 2 rest) u) (s2 : SlI a2 (polL c 3 rest) u) (s3 : SlI a3 (polL c 1 rest) u) => M.di c _ x a1 a2 a3 _ _ _ u (h.on hu) s1.sf s2.sf s3.sf hfl (by omega) (by omega) (by omega) hkd hfx)
  exact l21d_main c vs vf y day W _ x _ _ _ _ _ hll (by omega) (by omega) (by omega) HP QW QR17 QF QO' QR' QD'
theorem l21d_any : Calls Try.prog 5 #[(.agg #[.int .i64 c.free, vs, vf]), .int .i64 y, .int .i64 day] W fun e w' => e = .returned (.bool true) ∧ Below W.heap.size W w' := by
  cases hr : fewB c && catB c
  · exact l21d_no M c vs vf y day W h hr
  · by_cases hf : snE c y day = 0
    · exact l21d_ok M c vs vf y day W h ht hr hf
    · exact l21d_bad M c vs vf y day W h hr (bne_iff_ne.2 hf)
end
end Go.Proofs.Ytnofmlkjagdklaa
