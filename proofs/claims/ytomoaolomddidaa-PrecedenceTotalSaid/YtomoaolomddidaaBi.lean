/- Stage 20's reference: Sort; Same of stage 19's. -/
import Derived.Test.YtomoaolomddidaaBh
import Derived.Deep.Cut
namespace Go.Proofs.Ytomoaolomddidaa
open Go.RowKit

theorem any_succ {c y : Cd} {xs : List Cd} {j : Nat} (h : xs[j]? = some y) : (xs.take (j + 1)).any (prc c) = ((xs.take j).any (prc c) || prc c y) := by
  rw [take_succ_cd h, List.any_append]; simp
set_option maxHeartbeats 4000000 in
set_option maxRecDepth 100000 in
theorem r20so_any (v : Value) (l : List Cd) (W : World) (hl : l.length ≤ 1000) (h : CsAt W v l) : Calls Try.prog 8 #[v] W (RetCs 24 W (srtR l)) := by
  obtain ⟨i0, hi, hz0, hz1, hz2⟩ := info_parts infoCr
  obtain ⟨A, cap, rfl, h1, h2, h3⟩ := h
  have Q := Lib.hid h3
  have HP := Lib.hid (fun a b u => r20pr_any a b u)
  clear h3
  go_enter Try.func8, Try.ntmps8
  go_wp2_with fail
  go_loopw [3, 4] (fun v i wr => ∃ k : Nat, k ≤ l.length ∧ i = .int .i64 k ∧ Below W.heap.size W wr ∧ CdsAt 24 W.heap.size v (srtR (l.take k)) wr) (fun _ i _ => l.length - (intOf i).toNat)
  case atStart => exact ⟨0, Nat.zero_le _, rfl, Below.refl _ _, CdsAt.emp _ _ _⟩
  case round =>
    obtain ⟨k, hk, rfl, hb, hv⟩ := hrel
    have HB := Lib.hid hb
    have HV := Lib.hid hv
    clear hb hv
    by_cases hlt : k < l.length
    · obtain ⟨c, hc⟩ : ∃ c, l[k]? = some c := ⟨_, List.getElem?_eq_getElem hlt⟩
      obtain ⟨b, p, hA, hit⟩ := Q.out k c hc
      subst hA
      have hbW : b < W.heap.size := hit.lt
      have HI := Lib.hid (hit.on HB.out)
      have hmap := Lib.hid (show srtR (l.take (k + 1)) = insR c (srtR (l.take k)) by rw [take_succ_cd hc, srtR_succ])
      obtain ⟨xs, hx⟩ : ∃ xs, xs = srtR (l.take k) := ⟨_, rfl⟩
      have hle1 : xs.length ≤ k := by rw [hx, srtR_len, List.length_take]; omega
      have hle2 : k ≤ xs.length := by rw [hx, srtR_len, List.length_take]; omega
      rw [← hx] at HV hmap
      clear hx hit hc
      obtain ⟨A', cap', hv', g1, g2, g3⟩ := HV.out.cs
      have hQ := Lib.hid g3
      subst hv'
      clear g3 HV
      obtain ⟨w0, hw0⟩ : ∃ w0 : World, w0 = wr := ⟨_, rfl⟩
      have hW0 := Lib.hid HB.out.size
      go_wp2_with fail
      rw [← hw0] at HB HI hQ hW0
      go_loopw [5, 6, 7] (fun nv dv jv wr => ∃ (j : Nat) (d : Bool), j ≤ xs.length ∧ jv = .int .i64 j ∧ dv = .bool d ∧ Hid (d = (xs.take j).any (prc c)) ∧ Below w0.heap.size w0 wr ∧ CdsAt 24 w0.heap.size nv (if d = true then insR c (xs.take j) else xs.take j) wr) (fun _ _ jv _ => xs.length - (intOf jv).toNat)
      case atStart => exact ⟨0, false, Nat.zero_le _, rfl, rfl, Lib.hid rfl, by rw [hw0]; exact Below.refl _ _, CdsAt.emp _ _ _⟩
      case round =>
        clear hw0
        obtain ⟨j, d, hj, rfl, rfl, hd, hb, hv⟩ := hrel
        have HB0 := Lib.hid hb
        have HN := Lib.hid hv
        have hz := Lib.hid hb.size
        clear hb hv
        by_cases hjl : j < xs.length
        · obtain ⟨y, hy⟩ : ∃ y, xs[j]? = some y := ⟨_, List.getElem?_eq_getElem hjl⟩
          obtain ⟨b', p', hA', hit'⟩ := hQ.out j y hy
          subst hA'
          have HI' := Lib.hid hit'
          have ha := any_succ (c := c) hy
          have ht := Lib.hid (take_succ_cd hy)
          have hln : (xs.take j).length = j := by rw [List.length_take]; omega
          have hP1 := Lib.hid (fun u => HP.out c y u)
          clear hit' hy
          have C1 := Lib.hid (HI.out.on HB0.out)
          have C2 := Lib.hid (HI'.out.on HB0.out)
          obtain ⟨c1, c2, c3, c4⟩ := c
          obtain ⟨y1, y2, y3, y4⟩ := y
          obtain ⟨q0, q1, q2, q3⟩ := C1.out
          obtain ⟨r0, r1, r2, r3⟩ := C2.out
          cases d
          · have hd' : (xs.take j).any (prc ⟨c1, c2, c3, c4⟩) = false := hd.out.symm
            rw [if_neg (by decide)] at HN
            rw [hd', Bool.false_or] at ha
            go_wp2_with fail
            have Hs := Lib.hid (show wr.drew.cell? ⟨b, p + k * 4, none⟩ = some (.int .i64 c1) ∧ wr.drew.cell? ⟨b, p + k * 4 + 1, none⟩ = some (.int .i64 c2) ∧ wr.drew.cell? ⟨b, p + k * 4 + 2, none⟩ = some (.int .i64 c3) ∧ wr.drew.cell? ⟨b, p + k * 4 + 3, none⟩ = some (.string c4) ∧ wr.drew.cell? ⟨b', p' + j * 4, none⟩ = some (.int .i64 y1) ∧ wr.drew.cell? ⟨b', p' + j * 4 + 1, none⟩ = some (.int .i64 y2) ∧ wr.drew.cell? ⟨b', p' + j * 4 + 2, none⟩ = some (.int .i64 y3) ∧ wr.drew.cell? ⟨b', p' + j * 4 + 3, none⟩ = some (.string y4) ∧ Below wr.heap.size wr wr.drew from ⟨q0, q1, q2, q3, r0, r1, r2, r3, below_dn (Below.refl _ _) 1⟩)
            have XP := Lib.hid (fun u (hu : u.cell? ⟨b, p + k * 4, none⟩ = some (.int .i64 c1) ∧ u.cell? ⟨b, p + k * 4 + 1, none⟩ = some (.int .i64 c2) ∧ u.cell? ⟨b, p + k * 4 + 2, none⟩ = some (.int .i64 c3) ∧ u.cell? ⟨b, p + k * 4 + 3, none⟩ = some (.string c4) ∧ u.cell? ⟨b', p' + j * 4, none⟩ = some (.int .i64 y1) ∧ u.cell? ⟨b', p' + j * 4 + 1, none⟩ = some (.int .i64 y2) ∧ u.cell? ⟨b', p' + j * 4 + 2, none⟩ = some (.int .i64 y3) ∧ u.cell? ⟨b', p' + j * 4 + 3, none⟩ = some (.string y4) ∧ Below wr.heap.size wr u) => (hP1.out u).mono (R' := fun e u' => e = .returned (.bool (prc ⟨c1, c2, c3, c4⟩ ⟨y1, y2, y3, y4⟩)) ∧ (u'.cell? ⟨b, p + k * 4, none⟩ = some (.int .i64 c1) ∧ u'.cell? ⟨b, p + k * 4 + 1, none⟩ = some (.int .i64 c2) ∧ u'.cell? ⟨b, p + k * 4 + 2, none⟩ = some (.int .i64 c3) ∧ u'.cell? ⟨b, p + k * 4 + 3, none⟩ = some (.string c4) ∧ u'.cell? ⟨b', p' + j * 4, none⟩ = some (.int .i64 y1) ∧ u'.cell? ⟨b', p' + j * 4 + 1, none⟩ = some (.int .i64 y2) ∧ u'.cell? ⟨b', p' + j * 4 + 2, none⟩ = some (.int .i64 y3) ∧ u'.cell? ⟨b', p' + j * 4 + 3, none⟩ = some (.string y4) ∧ Below wr.heap.size wr u')) fun e u' ⟨he, hq⟩ => ⟨he, cell_below hu.1 hq, cell_below hu.2.1 hq, cell_below hu.2.2.1 hq, cell_below hu.2.2.2.1 hq, cell_below hu.2.2.2.2.1 hq, cell_below hu.2.2.2.2.2.1 hq, cell_below hu.2.2.2.2.2.2.1 hq, cell_below hu.2.2.2.2.2.2.2.1 hq, below_on hu.2.2.2.2.2.2.2.2 hq⟩)
            refine wp_region_held_drew (S := fun u => u.cell? ⟨b, p + k * 4, none⟩ = some (.int .i64 c1) ∧ u.cell? ⟨b, p + k * 4 + 1, none⟩ = some (.int .i64 c2) ∧ u.cell? ⟨b, p + k * 4 + 2, none⟩ = some (.int .i64 c3) ∧ u.cell? ⟨b, p + k * 4 + 3, none⟩ = some (.string c4) ∧ u.cell? ⟨b', p' + j * 4, none⟩ = some (.int .i64 y1) ∧ u.cell? ⟨b', p' + j * 4 + 1, none⟩ = some (.int .i64 y2) ∧ u.cell? ⟨b', p' + j * 4 + 2, none⟩ = some (.int .i64 y3) ∧ u.cell? ⟨b', p' + j * 4 + 3, none⟩ = some (.string y4) ∧ Below wr.heap.size wr u) (by kernel_rfl) Hs.out (fun hHeld => ?_)
            refine wpAnyH_take (i := 0) (oi := { dst := some 20, op := _, type := _, pos := _, after := _, guard := _ }) (v := ?v1_0) rfl (by kernel_rfl) (by kernel_rfl) (by kernel_rfl) (fun _ _ _ h => h) (Or.inl ⟨by rfl, ?hy1_0⟩) hHeld ?_
            case hy1_0 => (intro w hSw; (try dsimp only at hSw); go_simp; try with_reducible rfl)
            simp only [Act.put, List.setIfInBounds_toArray, List.set_cons_zero, List.set_cons_succ]
            refine wpAnyH_take (i := 1) (oi := { dst := some 21, op := _, type := _, pos := _, after := _, guard := _ }) (v := ?v1_1) rfl (by kernel_rfl) (by kernel_rfl) (by kernel_rfl) (fun _ _ _ h => h) (Or.inl ⟨by rfl, ?hy1_1⟩) hHeld ?_
            case hy1_1 => (intro w hSw; (try dsimp only at hSw); go_simp; try with_reducible rfl)
            simp only [Act.put, List.setIfInBounds_toArray, List.set_cons_zero, List.set_cons_succ]
            refine wpAnyH_take (i := 2) (oi := { dst := some 22, op := _, type := _, pos := _, after := _, guard := _ }) (v := ?v1_2) rfl (by kernel_rfl) (by kernel_rfl) (by kernel_rfl) (fun _ _ _ h => h) (Or.inl ⟨by rfl, ?hy1_2⟩) hHeld ?_
            case hy1_2 => (intro w hSw; (try dsimp only at hSw); go_simp; try with_reducible rfl)
            simp only [Act.put, List.setIfInBounds_toArray, List.set_cons_zero, List.set_cons_succ]
            refine wpAnyH_take (i := 3) (oi := { dst := some 23, op := _, type := _, pos := _, after := _, guard := _ }) (v := ?v1_3) rfl (by kernel_rfl) (by kernel_rfl) (by kernel_rfl) (fun _ _ _ h => h) (Or.inl ⟨by rfl, ?hy1_3⟩) hHeld ?_
            case hy1_3 => (intro w hSw; (try dsimp only at hSw); go_simp; try with_reducible rfl)
            simp only [Act.put, List.setIfInBounds_toArray, List.set_cons_zero, List.set_cons_succ]
            refine wpAnyH_take (i := 4) (oi := { dst := some 24, op := _, type := _, pos := _, after := _, guard := _ }) (v := ?v1_4) rfl (by kernel_rfl) (by kernel_rfl) (by kernel_rfl) (fun _ _ _ h => h) (Or.inl ⟨by rfl, ?hy1_4⟩) hHeld ?_
            case hy1_4 => (intro w hSw; (try dsimp only at hSw); go_simp; try with_reducible rfl)
            simp only [Act.put, List.setIfInBounds_toArray, List.set_cons_zero, List.set_cons_succ]
            refine wpAnyH_take (i := 5) (oi := { dst := some 25, op := _, type := _, pos := _, after := _, guard := _ }) (v := ?v1_5) rfl (by kernel_rfl) (by kernel_rfl) (by kernel_rfl) (fun _ _ _ h => h) (Or.inl ⟨by rfl, ?hy1_5⟩) hHeld ?_
            case hy1_5 => (intro w hSw; (try dsimp only at hSw); go_simp; try with_reducible rfl)
            simp only [Act.put, List.setIfInBounds_toArray, List.set_cons_zero, List.set_cons_succ]
            refine wpAnyH_take (i := 6) (oi := { dst := some 26, op := _, type := _, pos := _, after := _, guard := _ }) (v := ?v1_6) rfl (by kernel_rfl) (by kernel_rfl) (by kernel_rfl) (fun _ _ _ h => h) (Or.inl ⟨by rfl, ?hy1_6⟩) hHeld ?_
            case hy1_6 => (intro w hSw; (try dsimp only at hSw); go_simp; try with_reducible rfl)
            simp only [Act.put, List.setIfInBounds_toArray, List.set_cons_zero, List.set_cons_succ]
            refine wpAnyH_take (i := 7) (oi := { dst := some 27, op := _, type := _, pos := _, after := _, guard := _ }) (v := ?v1_7) rfl (by kernel_rfl) (by kernel_rfl) (by kernel_rfl) (fun _ _ _ h => h) (Or.inl ⟨by rfl, ?hy1_7⟩) hHeld ?_
            case hy1_7 => (intro w hSw; (try dsimp only at hSw); go_simp; try with_reducible rfl)
            simp only [Act.put, List.setIfInBounds_toArray, List.set_cons_zero, List.set_cons_succ]
            refine wpAnyH_take (i := 8) (oi := { dst := some 28, op := _, type := _, pos := _, after := _, guard := _ }) (v := ?v1_8) rfl (by kernel_rfl) (by kernel_rfl) (by kernel_rfl) (fun _ _ _ h => h) (Or.inl ⟨by rfl, ?hy1_8⟩) hHeld ?_
            case hy1_8 => (intro w hSw; (try dsimp only at hSw); go_simp; try with_reducible rfl)
            simp only [Act.put, List.setIfInBounds_toArray, List.set_cons_zero, List.set_cons_succ]
            refine wpAnyH_take (i := 9) (oi := { dst := some 29, op := _, type := _, pos := _, after := _, guard := _ }) (v := ?v1_9) rfl (by kernel_rfl) (by kernel_rfl) (by kernel_rfl) (fun _ _ _ h => h) (Or.inl ⟨by rfl, ?hy1_9⟩) hHeld ?_
            case hy1_9 => (intro w hSw; (try dsimp only at hSw); go_simp; try with_reducible rfl)
            simp only [Act.put, List.setIfInBounds_toArray, List.set_cons_zero, List.set_cons_succ]
            refine wpAnyH_take (i := 10) (oi := { dst := some 30, op := _, type := _, pos := _, after := _, guard := _ }) (v := ?v1_10) rfl (by kernel_rfl) (by kernel_rfl) (by kernel_rfl) (fun _ _ _ h => h) (Or.inl ⟨by rfl, ?hy1_10⟩) hHeld ?_
            case hy1_10 => (intro w hSw; (try dsimp only at hSw); go_simp; try with_reducible rfl)
            simp only [Act.put, List.setIfInBounds_toArray, List.set_cons_zero, List.set_cons_succ]
            refine wpAnyH_ready (rs := [11]) (by kernel_rfl) (by simp) ?_
            refine AllReadyH.cons (o := { dst := some 31, op := _, type := _, pos := _, after := _, guard := _ }) rfl (fun K hK => ?_) AllReadyH.nil
            go_simp
            go_at_call 11
            refine (XP.out _ (by assumption)).mono ?_
            rintro e1 w1 ⟨rfl, hs1⟩
            refine hK.out _ _ hs1 (fun hHeld => ?_)
            clear hK K
            refine wpAnyH_take (i := 12) (oi := { dst := some 32, op := _, type := _, pos := _, after := _, guard := _ }) (v := ?v1_12) rfl (by kernel_rfl) (by kernel_rfl) (by kernel_rfl) (fun _ _ _ h => h) (Or.inl ⟨by rfl, ?hy1_12⟩) hHeld ?_
            case hy1_12 => (intro w hSw; (try dsimp only at hSw); go_simp; try with_reducible rfl)
            simp only [Act.put, List.setIfInBounds_toArray, List.set_cons_zero, List.set_cons_succ]
            refine wpAnyH_done (by kernel_rfl) ?_ _
            have B1 := Lib.hid hs1.2.2.2.2.2.2.2.2
            have HB1 := Lib.hid (below_on HB0.out B1.out)
            have hz1' := Lib.hid HB1.out.size
            have HN1 := Lib.hid (HN.out.on B1.out)
            clear q0 q1 q2 q3 r0 r1 r2 r3 hs1 Hs XP
            obtain ⟨q0, q1, q2, q3⟩ := HI.out.on HB1.out
            obtain ⟨r0, r1, r2, r3⟩ := HI'.out.on HB1.out
            cases hp : prc ⟨c1, c2, c3, c4⟩ ⟨y1, y2, y3, y4⟩
            · rw [hp] at ha
              go_wp2_with (at_builtin; refine wpList_append_own _ rfl _ _ 22 rfl w0.heap.size 24 i0 (cdv zcd) 4 40 Try.underlying22 hi hz0 hz1 hz2 rfl (by decide) _ _ _ rfl (HN1.out.al _) ⟨w1.heap.size, 0, none⟩ 1 1 [.int .i64 y1, .int .i64 y2, .int .i64 y3, .string y4] rfl rfl (cell_four_new _ _ _ _ _ _) (by simp [Value.oneCell']) (by unfold maxLen; omega) (by omega) (by have := hz1'.out; simp; omega) ?_; intro vaA waA hown' hgrow _; obtain ⟨hv2, hb2⟩ := HN1.out.app (c := ⟨y1, y2, y3, y4⟩) HB1.out hz1'.out hown' hgrow; have HVA := Lib.hid hv2; have HBA := Lib.hid hb2; have hzA := Lib.hid hb2.size; clear hown' hgrow hv2 hb2)
              go_roundw
              case rel => exact ⟨j + 1, false, by omega, by go_num, rfl, Lib.hid ha.symm, HBA.out, by rw [if_neg (by decide), ht.out]; exact HVA.out⟩
              case measure => simp [intOf]; omega
            · rw [hp] at ha
              have hf := Lib.hid (insR_first hd' hp)
              go_upto_region 13 with (at_builtin; refine wpList_append_own _ rfl _ _ 22 rfl w0.heap.size 24 i0 (cdv zcd) 4 40 Try.underlying22 hi hz0 hz1 hz2 rfl (by decide) _ _ _ rfl (HN1.out.al _) ⟨w1.heap.size, 0, none⟩ 1 1 [.int .i64 c1, .int .i64 c2, .int .i64 c3, .string c4] rfl rfl (cell_four_new _ _ _ _ _ _) (by simp [Value.oneCell']) (by unfold maxLen; omega) (by omega) (by have := hz1'.out; simp; omega) ?_; intro vaA waA hown' hgrow _; obtain ⟨hv2, hb2⟩ := HN1.out.app (c := ⟨c1, c2, c3, c4⟩) HB1.out hz1'.out hown' hgrow; have HVA := Lib.hid hv2; have HBA := Lib.hid hb2; have hzA := Lib.hid hb2.size; clear hown' hgrow hv2 hb2)
              clear q0 q1 q2 q3 r0 r1 r2 r3
              obtain ⟨r0, r1, r2, r3⟩ := HI'.out.on HBA.out
              have hln2 : (xs.take j ++ [(⟨c1, c2, c3, c4⟩ : Cd)]).length = j + 1 := by rw [List.length_append, hln]; rfl
              go_wp2_with (at_builtin; refine wpList_append_own _ rfl _ _ 22 rfl w0.heap.size 24 i0 (cdv zcd) 4 40 Try.underlying22 hi hz0 hz1 hz2 rfl (by decide) _ _ _ rfl (HVA.out.al _) ⟨waA.heap.size, 0, none⟩ 1 1 [.int .i64 y1, .int .i64 y2, .int .i64 y3, .string y4] rfl rfl (cell_four_new _ _ _ _ _ _) (by simp [Value.oneCell']) (by unfold maxLen; omega) (by omega) (by have := hzA.out; simp; omega) ?_; intro vaC waC hown' hgrow _; obtain ⟨hv2, hb2⟩ := HVA.out.app (c := ⟨y1, y2, y3, y4⟩) HBA.out hzA.out hown' hgrow; have HVC := Lib.hid hv2; have HBC := Lib.hid hb2; have hzC := Lib.hid hb2.size; clear hown' hgrow hv2 hb2)
              go_roundw
              case rel => exact ⟨j + 1, true, by omega, by go_num, rfl, Lib.hid ha.symm, HBC.out, by rw [if_pos rfl, ht.out, hf.out]; exact HVC.out⟩
              case measure => simp [intOf]; omega
          · have hd' : (xs.take j).any (prc ⟨c1, c2, c3, c4⟩) = true := hd.out.symm
            rw [if_pos rfl] at HN
            rw [hd', Bool.true_or] at ha
            have hf := Lib.hid (insR_any (y := ⟨y1, y2, y3, y4⟩) hd')
            have hln3 : (insR ⟨c1, c2, c3, c4⟩ (xs.take j)).length = j + 1 := by rw [insR_len, hln]
            go_wp2_with fail
            have Hs := Lib.hid (show wr.drew.cell? ⟨b, p + k * 4, none⟩ = some (.int .i64 c1) ∧ wr.drew.cell? ⟨b, p + k * 4 + 1, none⟩ = some (.int .i64 c2) ∧ wr.drew.cell? ⟨b, p + k * 4 + 2, none⟩ = some (.int .i64 c3) ∧ wr.drew.cell? ⟨b, p + k * 4 + 3, none⟩ = some (.string c4) ∧ wr.drew.cell? ⟨b', p' + j * 4, none⟩ = some (.int .i64 y1) ∧ wr.drew.cell? ⟨b', p' + j * 4 + 1, none⟩ = some (.int .i64 y2) ∧ wr.drew.cell? ⟨b', p' + j * 4 + 2, none⟩ = some (.int .i64 y3) ∧ wr.drew.cell? ⟨b', p' + j * 4 + 3, none⟩ = some (.string y4) ∧ Below wr.heap.size wr wr.drew from ⟨q0, q1, q2, q3, r0, r1, r2, r3, below_dn (Below.refl _ _) 1⟩)
            refine wp_region_held_drew (S := fun u => u.cell? ⟨b, p + k * 4, none⟩ = some (.int .i64 c1) ∧ u.cell? ⟨b, p + k * 4 + 1, none⟩ = some (.int .i64 c2) ∧ u.cell? ⟨b, p + k * 4 + 2, none⟩ = some (.int .i64 c3) ∧ u.cell? ⟨b, p + k * 4 + 3, none⟩ = some (.string c4) ∧ u.cell? ⟨b', p' + j * 4, none⟩ = some (.int .i64 y1) ∧ u.cell? ⟨b', p' + j * 4 + 1, none⟩ = some (.int .i64 y2) ∧ u.cell? ⟨b', p' + j * 4 + 2, none⟩ = some (.int .i64 y3) ∧ u.cell? ⟨b', p' + j * 4 + 3, none⟩ = some (.string y4) ∧ Below wr.heap.size wr u) (by kernel_rfl) Hs.out (fun hHeld => ?_)
            refine wpAnyH_take (i := 0) (oi := { dst := some 20, op := _, type := _, pos := _, after := _, guard := _ }) (v := ?v2_0) rfl (by kernel_rfl) (by kernel_rfl) (by kernel_rfl) (fun _ _ _ h => h) (Or.inl ⟨by rfl, ?hy2_0⟩) hHeld ?_
            case hy2_0 => (intro w hSw; (try dsimp only at hSw); go_simp; try with_reducible rfl)
            simp only [Act.put, List.setIfInBounds_toArray, List.set_cons_zero, List.set_cons_succ]
            refine wpAnyH_take (i := 1) (oi := { dst := some 21, op := _, type := _, pos := _, after := _, guard := _ }) (v := ?v2_1) rfl (by kernel_rfl) (by kernel_rfl) (by kernel_rfl) (fun _ _ _ h => h) (Or.inl ⟨by rfl, ?hy2_1⟩) hHeld ?_
            case hy2_1 => (intro w hSw; (try dsimp only at hSw); go_simp; try with_reducible rfl)
            simp only [Act.put, List.setIfInBounds_toArray, List.set_cons_zero, List.set_cons_succ]
            refine wpAnyH_take (i := 2) (oi := { dst := some 22, op := _, type := _, pos := _, after := _, guard := _ }) (v := ?v2_2) rfl (by kernel_rfl) (by kernel_rfl) (by kernel_rfl) (fun _ _ _ h => h) (Or.inl ⟨by rfl, ?hy2_2⟩) hHeld ?_
            case hy2_2 => (intro w hSw; (try dsimp only at hSw); go_simp; try with_reducible rfl)
            simp only [Act.put, List.setIfInBounds_toArray, List.set_cons_zero, List.set_cons_succ]
            refine wpAnyH_take (i := 3) (oi := { dst := some 23, op := _, type := _, pos := _, after := _, guard := _ }) (v := undef) rfl (by kernel_rfl) (by kernel_rfl) (by kernel_rfl) (fun _ _ _ h => h) (Or.inr ⟨by rfl, rfl⟩) hHeld ?_
            simp only [Act.put, List.setIfInBounds_toArray, List.set_cons_zero, List.set_cons_succ]
            refine wpAnyH_take (i := 4) (oi := { dst := some 24, op := _, type := _, pos := _, after := _, guard := _ }) (v := undef) rfl (by kernel_rfl) (by kernel_rfl) (by kernel_rfl) (fun _ _ _ h => h) (Or.inr ⟨by rfl, rfl⟩) hHeld ?_
            simp only [Act.put, List.setIfInBounds_toArray, List.set_cons_zero, List.set_cons_succ]
            refine wpAnyH_take (i := 5) (oi := { dst := some 25, op := _, type := _, pos := _, after := _, guard := _ }) (v := undef) rfl (by kernel_rfl) (by kernel_rfl) (by kernel_rfl) (fun _ _ _ h => h) (Or.inr ⟨by rfl, rfl⟩) hHeld ?_
            simp only [Act.put, List.setIfInBounds_toArray, List.set_cons_zero, List.set_cons_succ]
            refine wpAnyH_take (i := 6) (oi := { dst := some 26, op := _, type := _, pos := _, after := _, guard := _ }) (v := undef) rfl (by kernel_rfl) (by kernel_rfl) (by kernel_rfl) (fun _ _ _ h => h) (Or.inr ⟨by rfl, rfl⟩) hHeld ?_
            simp only [Act.put, List.setIfInBounds_toArray, List.set_cons_zero, List.set_cons_succ]
            refine wpAnyH_take (i := 7) (oi := { dst := some 27, op := _, type := _, pos := _, after := _, guard := _ }) (v := undef) rfl (by kernel_rfl) (by kernel_rfl) (by kernel_rfl) (fun _ _ _ h => h) (Or.inr ⟨by rfl, rfl⟩) hHeld ?_
            simp only [Act.put, List.setIfInBounds_toArray, List.set_cons_zero, List.set_cons_succ]
            refine wpAnyH_take (i := 8) (oi := { dst := some 28, op := _, type := _, pos := _, after := _, guard := _ }) (v := undef) rfl (by kernel_rfl) (by kernel_rfl) (by kernel_rfl) (fun _ _ _ h => h) (Or.inr ⟨by rfl, rfl⟩) hHeld ?_
            simp only [Act.put, List.setIfInBounds_toArray, List.set_cons_zero, List.set_cons_succ]
            refine wpAnyH_take (i := 9) (oi := { dst := some 29, op := _, type := _, pos := _, after := _, guard := _ }) (v := undef) rfl (by kernel_rfl) (by kernel_rfl) (by kernel_rfl) (fun _ _ _ h => h) (Or.inr ⟨by rfl, rfl⟩) hHeld ?_
            simp only [Act.put, List.setIfInBounds_toArray, List.set_cons_zero, List.set_cons_succ]
            refine wpAnyH_take (i := 10) (oi := { dst := some 30, op := _, type := _, pos := _, after := _, guard := _ }) (v := undef) rfl (by kernel_rfl) (by kernel_rfl) (by kernel_rfl) (fun _ _ _ h => h) (Or.inr ⟨by rfl, rfl⟩) hHeld ?_
            simp only [Act.put, List.setIfInBounds_toArray, List.set_cons_zero, List.set_cons_succ]
            refine wpAnyH_take (i := 11) (oi := { dst := some 31, op := _, type := _, pos := _, after := _, guard := _ }) (v := undef) rfl (by kernel_rfl) (by kernel_rfl) (by kernel_rfl) (fun _ _ _ h => h) (Or.inr ⟨by rfl, rfl⟩) hHeld ?_
            simp only [Act.put, List.setIfInBounds_toArray, List.set_cons_zero, List.set_cons_succ]
            refine wpAnyH_take (i := 12) (oi := { dst := some 32, op := _, type := _, pos := _, after := _, guard := _ }) (v := ?v2_12) rfl (by kernel_rfl) (by kernel_rfl) (by kernel_rfl) (fun _ _ _ h => h) (Or.inl ⟨by rfl, ?hy2_12⟩) hHeld ?_
            case hy2_12 => (intro w hSw; (try dsimp only at hSw); go_simp; try with_reducible rfl)
            simp only [Act.put, List.setIfInBounds_toArray, List.set_cons_zero, List.set_cons_succ]
            refine wpAnyH_done (by kernel_rfl) ?_ _
            have B1 : Hid (Below wr.heap.size wr wr.drew) := Lib.hid (below_dn (Below.refl wr.heap.size wr) 1)
            have HB1 := Lib.hid (below_on HB0.out B1.out)
            have hz1' := Lib.hid HB1.out.size
            have HN1 := Lib.hid (HN.out.on B1.out)
            have D0 := Lib.hid (HI'.out.on HB1.out)
            clear q0 q1 q2 q3 r0 r1 r2 r3 Hs
            obtain ⟨w1, hw1⟩ : ∃ w1 : World, w1 = wr.drew := ⟨_, rfl⟩
            try rw [← hw1]
            rw [← hw1] at B1 HB1 hz1' HN1 D0
            clear hw1
            obtain ⟨r0, r1, r2, r3⟩ := D0.out
            go_wp2_with (at_builtin; refine wpList_append_own _ rfl _ _ 22 rfl w0.heap.size 24 i0 (cdv zcd) 4 40 Try.underlying22 hi hz0 hz1 hz2 rfl (by decide) _ _ _ rfl (HN1.out.al _) ⟨w1.heap.size, 0, none⟩ 1 1 [.int .i64 y1, .int .i64 y2, .int .i64 y3, .string y4] rfl rfl (cell_four_new _ _ _ _ _ _) (by simp [Value.oneCell']) (by unfold maxLen; omega) (by omega) (by have := hz1'.out; simp; omega) ?_; intro vaA waA hown' hgrow _; obtain ⟨hv2, hb2⟩ := HN1.out.app (c := ⟨y1, y2, y3, y4⟩) HB1.out hz1'.out hown' hgrow; have HVA := Lib.hid hv2; have HBA := Lib.hid hb2; have hzA := Lib.hid hb2.size; clear hown' hgrow hv2 hb2)
            go_roundw
            case rel => exact ⟨j + 1, true, by omega, by go_num, rfl, Lib.hid ha.symm, HBA.out, by rw [if_pos rfl, ht.out, hf.out]; exact HVA.out⟩
            case measure => simp [intOf]; omega
        · obtain rfl : j = xs.length := by omega
          rw [List.take_length] at hd HN
          have HBo := Lib.hid (below_on HB.out HB0.out)
          obtain ⟨q0, q1, q2, q3⟩ := HI.out.on HB0.out
          cases d
          · have hn := Lib.hid (insR_none hd.out.symm)
            rw [if_neg (by decide)] at HN
            obtain ⟨c1, c2, c3, c4⟩ := c
            go_wp2_with (at_builtin; refine wpList_append_own _ rfl _ _ 22 rfl w0.heap.size 24 i0 (cdv zcd) 4 40 Try.underlying22 hi hz0 hz1 hz2 rfl (by decide) _ _ _ rfl (HN.out.al _) ⟨wr.heap.size, 0, none⟩ 1 1 [.int .i64 c1, .int .i64 c2, .int .i64 c3, .string c4] rfl rfl (cell_four_new _ _ _ _ _ _) (by simp [Value.oneCell']) (by unfold maxLen; omega) (by omega) (by have := hz.out; simp; omega) ?_; intro vaA waA hown' hgrow _; obtain ⟨hv2, hb2⟩ := HN.out.app (c := ⟨c1, c2, c3, c4⟩) HB0.out hz.out hown' hgrow; have HVA := Lib.hid hv2; have HBA := Lib.hid hb2; have hzA := Lib.hid hb2.size; clear hown' hgrow hv2 hb2)
            have HBp := Lib.hid (below_on HB.out HBA.out)
            go_roundw
            case rel => exact ⟨k + 1, by omega, by go_num, HBp.out, by rw [hmap.out, hn.out]; exact HVA.out.lower hW0.out⟩
            case measure => simp [intOf]; omega
          · rw [if_pos rfl] at HN
            go_wp2_with fail
            go_roundw
            case rel => exact ⟨k + 1, by omega, by go_num, HBo.out, by rw [hmap.out]; exact HN.out.lower hW0.out⟩
            case measure => simp [intOf]; omega
    · obtain rfl : k = l.length := by omega
      go_wp2_with fail
      go_ret
      exact ⟨_, rfl, by have := HV.out; rwa [List.take_length] at this, HB.out⟩
end Go.Proofs.Ytomoaolomddidaa
