/- The reference's Parse; Same; the law Matches. -/
import Derived.Test.YthmfhgehahpgbaaGreatDoorYv
import Derived.Test.YthmfhgehahpgbaaGreatDoorYx
import Derived.Test.YthmfhgehahpgbaaGreatDoorKz
namespace Go.Proofs.YthmfhgehahpgbaaGreatDoor
open Go.RowKit

theorem r26par {S : ByteArray} {N : Nat} {w : World} (hs : S.size ≤ 100000) (h1 : S.size + 1 < N) (hN : N ≤ 1000000) :
    Calls Tryz.prog 10 #[.string S] w fun r w' => ((pEnd N S).b = true → r = .returned (.tuple #[.agg #[.int .i64 0, .slice none 0 0, .slice none 0 0], .int .i64 (pEnd N S).k, .bool false]) ∧ Below w.heap.size w w') ∧
      ((pEnd N S).b = false → ∃ vS vF, r = .returned (.tuple #[.agg #[.int .i64 (pBody N S ⟨0, false⟩).1.free, vS, vF], .int .i64 0, .bool true]) ∧ SlAt w' vS (pBody N S ⟨0, false⟩).1.ss ∧ SlAt w' vF (pBody N S ⟨0, false⟩).1.fs ∧ Below w.heap.size w w') := by
  have k1 := ((gd_W [wCaf]).le S ⟨0, false⟩ (Nat.zero_le _)).2
  have k2 := (gd_rNu.le S _ k1).2
  have k3 := ((gd_W [wLf]).le S _ k2).2
  have hf : msr S (yW [wLf] S (rNu S (yW [wCaf] S ⟨0, false⟩).2).2).2 < N := by unfold msr; split <;> omega
  obtain ⟨B1, B2⟩ := body_same h1
  have H := r26par_go (w := w) (S := S) (N := N) (M := rGo N true [] [] S (yW [wLf] S (rNu S (yW [wCaf] S ⟨0, false⟩).2).2).2) (j := (yW [wCaf] S ⟨0, false⟩).1) (j3 := (yW [wLf] S (rNu S (yW [wCaf] S ⟨0, false⟩).2).2).1)
    (fun u => rw_one (x := ⟨0, false⟩) u (Nat.zero_le _) hs wds_wCaf) (fun u => r26num k1 hs u) (fun u => rw_one u k2 hs wds_wLf)
    (fun u k t g cap hI hk => rw_sc (x := ⟨k, false⟩) hk hs hI (wds_lB t)) (fun u k bb => re_all S k bb u) (fun u y hy => r26ide hy hs u) (fun u y hy => r26num hy hs u) (fun u y hy => r26cho3 u hy hs wds_lPo) (fun u y hy => r26anc hy hs u) hN k3 hf rfl
  have eM : (rGo N true [] [] S (yW [wLf] S (rNu S (yW [wCaf] S ⟨0, false⟩).2).2).2).2 = pEnd N S := B1
  rw [eM] at H
  refine H.mono ?_
  rintro e w' ⟨g1, g2⟩
  refine ⟨g1, fun hb => ?_⟩
  obtain ⟨vS, vF, e1, e2, e3, e4⟩ := g2 hb
  have e := B2 hb
  rw [← e]
  exact ⟨vS, vF, e1, e2, e3, e4⟩
theorem many_len {c : Int} (hc : c ≠ 0) {f : Prs Itm} (G : Gk f) (A : Adv f) (S : ByteArray) : ∀ (n : Nat) (l : List Itm) (x : Sc), x.k ≤ S.size → (pMany c f n l S x).1.length ≤ l.length + msr S x
  | 0, l, x, _ => Nat.le_add_right _ _
  | n + 1, l, x, hx => by
    rw [pMany_step]
    split
    · rename_i q
      have hb : x.b = false := by
        cases e : x.b
        · rfl
        · rw [e] at q; exact absurd q.symm hc
      have h1 := many_len hc G A S n (l ++ [(f S x).1]) (f S x).2 (G.le S x hx).2
      have h2 := msr_step G A hx hb
      rw [List.length_append] at h1
      have : [(f S x).1].length = 1 := rfl
      omega
    · exact Nat.le_add_right _ _
theorem body_len (S : ByteArray) (N : Nat) : (pBody N S ⟨0, false⟩).1.ss.length ≤ S.size + 1 ∧ (pBody N S ⟨0, false⟩).1.fs.length ≤ S.size + 1 := by
  have Gh : Gk (yB (yW [wCat]) fun _ => yB (yW [wFre]) fun _ => zN wLf) := gd_B (gd_W _) fun _ => gd_B (gd_W _) fun _ => gd_zN _
  generalize hy : (yB (yW [wCat]) fun _ => yB (yW [wFre]) fun _ => zN wLf) S ⟨0, false⟩ = y
  have hk := (Gh.le S ⟨0, false⟩ (Nat.zero_le _)).2
  rw [hy] at hk
  have eP : pBody N S ⟨0, false⟩ = (⟨y.1, (pMany 115 pSea N [] S y.2).1, (pMany 102 pFea N [] S (pMany 115 pSea N [] S y.2).2).1⟩, (yW [wEnd] S (pMany 102 pFea N [] S (pMany 115 pSea N [] S y.2).2).2).2) := by rw [← hy]; rfl
  have k2 := ((gd_Many (by decide) gd_Sea N []).le S y.2 hk : _ ∧ (pMany 115 pSea N [] S y.2).2.k ≤ S.size).2
  have h1 := many_len (c := 115) (by decide) gd_Sea adv_Sea S N [] y.2 hk
  have h2 := many_len (c := 102) (by decide) gd_Fea adv_Fea S N [] _ k2
  have m : ∀ x : Sc, msr S x ≤ S.size + 1 := fun x => by unfold msr; split <;> omega
  have m1 := m y.2
  have m2 := m (pMany 115 pSea N [] S y.2).2
  rw [eP]
  rw [List.length_nil] at h1 h2
  exact ⟨by show (pMany 115 pSea N [] S y.2).1.length ≤ _; omega, by show (pMany 102 pFea N [] S (pMany 115 pSea N [] S y.2).2).1.length ≤ _; omega⟩
section
theorem neq_sea26 (t : Itm) (u : World) : (binOp .neq 41 (.agg t.vals) (.agg t.vals)).run Tryz.prog u = .ok (.bool false) u := by simp [go_sem]
theorem neq_fea26 (t : Itm) (u : World) : (binOp .neq 43 (.agg t.vals) (.agg t.vals)).run Tryz.prog u = .ok (.bool false) u := by simp [go_sem]
set_option maxHeartbeats 4000000 in
set_option maxRecDepth 100000 in
theorem r17same_big (free : Int) (v1 v2 v1' v2' : Value) (ss fs : List Itm) (W : World) (hs : ss.length ≤ 100000) (hf : fs.length ≤ 100000) (h1 : SlAt W v1 ss) (h2 : SlAt W v2 fs) (h1' : SlAt W v1' ss) (h2' : SlAt W v2' fs) :
    Calls Tryz.prog 11 #[.agg #[.int .i64 free, v1, v2], .agg #[.int .i64 free, v1', v2']] W fun e w' => e = .returned (.bool true) ∧ Below W.heap.size W w' := by
  obtain ⟨A1, c1, rfl, _, _, a1⟩ := h1
  obtain ⟨A2, c2, rfl, _, _, a2⟩ := h2
  obtain ⟨E1, e1, rfl, _, _, b1⟩ := h1'
  obtain ⟨E2, e2, rfl, _, _, b2⟩ := h2'
  have Q1 := Lib.hid a1
  have Q2 := Lib.hid a2
  have P1 := Lib.hid b1
  have P2 := Lib.hid b2
  clear a1 a2 b1 b2
  have B0 := Lib.hid (((Below.refl W.heap.size W).alloc (Nat.le_refl _) (catO free (.slice A1 ss.length c1) (.slice A2 fs.length c2))).alloc (by simp) (catO free (.slice E1 ss.length e1) (.slice E2 fs.length e2)))
  have R0 := Lib.hid (heap_alloc2_old W (catO free (.slice A1 ss.length c1) (.slice A2 fs.length c2)) (catO free (.slice E1 ss.length e1) (.slice E2 fs.length e2)))
  have R1 := Lib.hid (heap_alloc2_new W (catO free (.slice A1 ss.length c1) (.slice A2 fs.length c2)) (catO free (.slice E1 ss.length e1) (.slice E2 fs.length e2)))
  go_enter Tryz.func11, Tryz.ntmps11
  go_wp2_with fail
  generalize hW1 : (W.alloc (catO free (.slice A1 ss.length c1) (.slice A2 fs.length c2))).alloc (catO free (.slice E1 ss.length e1) (.slice E2 fs.length e2)) = Wz at *
  clear hW1
  go_loopw [5] (fun i wr => ∃ k : Nat, k ≤ ss.length ∧ i = .int .i64 k ∧ Below Wz.heap.size Wz wr) (fun i _ => ss.length - (intOf i).toNat)
  case atStart => exact ⟨0, Nat.zero_le _, rfl, Below.refl _ _⟩
  case round =>
    obtain ⟨k, hk, rfl, hb⟩ := hrel
    have HB := Lib.hid (below_on B0.out hb)
    have HC := Lib.hid hb
    obtain ⟨r0, r1, r2, g0, g1, g2, rz⟩ := row3 (row_on R0.out hb)
    obtain ⟨s0, s1, s2, k0, k1, k2, sz⟩ := row3 (row_on R1.out hb)
    by_cases hlt : k < ss.length
    · obtain ⟨c, hc⟩ : ∃ c, ss[k]? = some c := ⟨_, List.getElem?_eq_getElem hlt⟩
      obtain ⟨b, p, hA, hl1, hit⟩ := Q1.out k c hc
      obtain ⟨b', p', hA', hl2, hit'⟩ := P1.out k c hc
      subst hA hA'
      have C1 := hit.on HB.out hl1
      have C2 := hit'.on HB.out hl2
      have hE1 := neq_sea26 c
      clear hit hit' hc hb hl1 hl2
      obtain ⟨id, x, y, a1, a2, a3, a4, a5, a6⟩ := c
      obtain ⟨q0, q1, q2, q3, q4, q5, q6, q7, q8⟩ := C1.nine
      obtain ⟨w0, w1, w2, w3, w4, w5, w6, w7, w8⟩ := C2.nine
      clear C1 C2
      go_wp2_with fail
      go_quiet (fail)
      go_wp2_with fail
      go_roundw
      case rel => exact ⟨k + 1, by omega, by go_num, below_dn HC.out _⟩
      case measure => simp [intOf]; omega
    · obtain rfl : k = ss.length := by omega
      have HD := Lib.hid hb
      clear hb
      go_wp2_with fail
      clear r0 r1 r2 g0 g1 g2 rz s0 s1 s2 k0 k1 k2 sz
      go_loopw [6] (fun i wr => ∃ k : Nat, k ≤ fs.length ∧ i = .int .i64 k ∧ Below Wz.heap.size Wz wr) (fun i _ => fs.length - (intOf i).toNat)
      case atStart => exact ⟨0, Nat.zero_le _, rfl, HD.out⟩
      case round =>
        clear HB HC HD
        obtain ⟨k, hk, rfl, hb⟩ := hrel
        have HB := Lib.hid (below_on B0.out hb)
        have HC := Lib.hid hb
        obtain ⟨r0, r1, r2, g0, g1, g2, rz⟩ := row3 (row_on R0.out hb)
        obtain ⟨s0, s1, s2, k0, k1, k2, sz⟩ := row3 (row_on R1.out hb)
        by_cases hlt : k < fs.length
        · obtain ⟨c, hc⟩ : ∃ c, fs[k]? = some c := ⟨_, List.getElem?_eq_getElem hlt⟩
          obtain ⟨b, p, hA, hl1, hit⟩ := Q2.out k c hc
          obtain ⟨b', p', hA', hl2, hit'⟩ := P2.out k c hc
          subst hA hA'
          have C1 := hit.on HB.out hl1
          have C2 := hit'.on HB.out hl2
          have hE1 := neq_fea26 c
          clear hit hit' hc hb hl1 hl2
          obtain ⟨id, x, y, a1, a2, a3, a4, a5, a6⟩ := c
          obtain ⟨q0, q1, q2, q3, q4, q5, q6, q7, q8⟩ := C1.nine
          obtain ⟨w0, w1, w2, w3, w4, w5, w6, w7, w8⟩ := C2.nine
          clear C1 C2
          go_wp2_with fail
          go_quiet (fail)
          go_wp2_with fail
          go_roundw
          case rel => exact ⟨k + 1, by omega, by go_num, below_dn HC.out _⟩
          case measure => simp [intOf]; omega
        · obtain rfl : k = fs.length := by omega
          have HD := Lib.hid hb
          clear hb
          go_wp2_with fail
          go_ret
          exact ⟨rfl, HB.out⟩
end

set_option maxRecDepth 100000 in
set_option maxHeartbeats 4000000 in
theorem l26m_any (S : ByteArray) (W : World) (hT : T26 W) : Calls Tryz.prog 3 #[.string S] W fun e w' => e = .returned (.bool true) ∧ Below W.heap.size W w' := by
  have HA := Lib.hid (fun (u : World) (h : T26 u) => c26awake_any u h)
  have hT := Lib.hid hT
  by_cases hlen : S.size ≤ 5000
  · have c5 : ¬ (5000 : Int) < (S.size : Int) := by omega
    have HP := Lib.hid (fun (u : World) (h : T26 u) (hb : (pEnd 5002 S).b = false) => p26par_yes (S := S) (N := 5002) (w := u) (by omega) (by omega) (by omega) h.wk hb)
    have HN := Lib.hid (fun (u : World) (h : T26 u) (hb : (pEnd 5002 S).b = true) => p26par_no (S := S) (N := 5002) (w := u) (by omega) (by omega) (by omega) h.wk hb)
    have HR := Lib.hid (fun (u : World) => r26par (S := S) (N := 5002) (w := u) (by omega) (by omega) (by omega))
    obtain ⟨L1, L2⟩ := body_len S 5002
    generalize hB : (pBody 5002 S ⟨0, false⟩).1 = B at *
    clear hB
    obtain ⟨free, ss, fs⟩ := B
    simp only at L1 L2 HP HR
    have HS := Lib.hid (fun (v1 v2 v1' v2' : Value) (u : World) => r17same_big free v1 v2 v1' v2' ss fs u (by omega) (by omega))
    have HZ := Lib.hid (fun (u : World) => r17same_big 0 (.slice none 0 0) (.slice none 0 0) (.slice none 0 0) (.slice none 0 0) [] [] u (by simp) (by simp) (slat_nil u) (slat_nil u) (slat_nil u) (slat_nil u))
    generalize pEnd 5002 S = E at *
    obtain ⟨ek, eb⟩ := E
    simp only at HP HN HR
    go_enter Tryz.func3, Tryz.ntmps3
    go_wp2_with fail
    refine (HA.out _ hT.out).mono ?_
    rintro e u1 ⟨rfl, hb1⟩
    have B1 := Lib.hid hb1
    clear hb1
    go_wp2_with fail
    cases eb
    · refine (HP.out _ (hT.out.on B1.out) rfl).mono ?_
      rintro e u2 ⟨vS, vF, rfl, hS, hF, hb2⟩
      have hS0 := hS
      have hF0 := hF
      obtain ⟨AS, cS, rfl, -⟩ := hS0
      obtain ⟨AF, cF, rfl, -⟩ := hF0
      have B2 := Lib.hid ((below_on B1.out hb2).trans ((al1 u2 (.cells #[.int .i64 free, .slice AS ss.length cS, .slice AF fs.length cF] 26)).mono (below_on B1.out hb2).size))
      have S2 := Lib.hid (hS.on (al1 u2 (.cells #[.int .i64 free, .slice AS ss.length cS, .slice AF fs.length cF] 26)))
      have F2 := Lib.hid (hF.on (al1 u2 (.cells #[.int .i64 free, .slice AS ss.length cS, .slice AF fs.length cF] 26)))
      have R2 := Lib.hid (heap_alloc_new u2 (.cells #[.int .i64 free, .slice AS ss.length cS, .slice AF fs.length cF] 26))
      clear hS hF hb2 B1
      go_wp2_with fail
      refine (HR.out _).mono ?_
      rintro e u3 ⟨-, hy⟩
      obtain ⟨vS', vF', rfl, hS', hF', hb3⟩ := hy (by first | rfl | trivial)
      have hS0 := hS'
      have hF0 := hF'
      obtain ⟨AS', cS', rfl, -⟩ := hS0
      obtain ⟨AF', cF', rfl, -⟩ := hF0
      have hb3' := hb3.trans ((al1 u3 (.cells #[.int .i64 free, .slice AS' ss.length cS', .slice AF' fs.length cF'] 26)).mono hb3.size)
      have R3 := heap_alloc_new u3 (.cells #[.int .i64 free, .slice AS' ss.length cS', .slice AF' fs.length cF'] 26)
      have R2' := row_kept R2.out hb3'
      have B3 := Lib.hid (below_on B2.out hb3')
      have S3 := Lib.hid (S2.out.on hb3')
      have F3 := Lib.hid (F2.out.on hb3')
      have S3' := Lib.hid (hS'.on (al1 u3 (.cells #[.int .i64 free, .slice AS' ss.length cS', .slice AF' fs.length cF'] 26)))
      have F3' := Lib.hid (hF'.on (al1 u3 (.cells #[.int .i64 free, .slice AS' ss.length cS', .slice AF' fs.length cF'] 26)))
      clear hy hS' hF' hb3 hb3' R2 B2 S2 F2
      generalize hu3 : u3.alloc (.cells #[.int .i64 free, .slice AS' ss.length cS', .slice AF' fs.length cF'] 26) = u4 at *
      have a0 : u4.cell? ⟨u2.heap.size, 0, none⟩ = some (.int .i64 free) := by rw [cell_of_row _ _ _ _ _ _ R2']; rfl
      have a1 : u4.cell? ⟨u2.heap.size, 1, none⟩ = some (.slice AS ss.length cS) := by rw [cell_of_row _ _ _ _ _ _ R2']; rfl
      have a2 : u4.cell? ⟨u2.heap.size, 2, none⟩ = some (.slice AF fs.length cF) := by rw [cell_of_row _ _ _ _ _ _ R2']; rfl
      have b0 : u4.cell? ⟨u3.heap.size, 0, none⟩ = some (.int .i64 free) := by rw [cell_of_row _ _ _ _ _ _ R3]; rfl
      have b1 : u4.cell? ⟨u3.heap.size, 1, none⟩ = some (.slice AS' ss.length cS') := by rw [cell_of_row _ _ _ _ _ _ R3]; rfl
      have b2 : u4.cell? ⟨u3.heap.size, 2, none⟩ = some (.slice AF' fs.length cF') := by rw [cell_of_row _ _ _ _ _ _ R3]; rfl
      go_wp2_with fail
      clear a0 a1 a2 b0 b1 b2
      refine (HS.out _ _ _ _ _ S3.out F3.out S3'.out F3'.out).mono ?_
      rintro e u5 ⟨rfl, hb5⟩
      have B5 := Lib.hid (below_on B3.out hb5)
      clear hb5 B3 S3 F3 S3' F3'
      go_wp2_with fail
      go_ret
      exact ⟨rfl, B5.out⟩
    · refine (HN.out _ (hT.out.on B1.out) rfl).mono ?_
      rintro e u2 ⟨rfl, hb2⟩
      have B2 := Lib.hid ((below_on B1.out hb2).trans ((al1 u2 (.cells #[.int .i64 0, .slice none 0 0, .slice none 0 0] 26)).mono (below_on B1.out hb2).size))
      have R2 := Lib.hid (heap_alloc_new u2 (.cells #[.int .i64 0, .slice none 0 0, .slice none 0 0] 26))
      clear hb2 B1
      go_wp2_with fail
      refine (HR.out _).mono ?_
      rintro e u3 ⟨hy, -⟩
      obtain ⟨rfl, hb3⟩ := hy (by first | rfl | trivial)
      have hb3' := hb3.trans ((al1 u3 (.cells #[.int .i64 0, .slice none 0 0, .slice none 0 0] 26)).mono hb3.size)
      have R3 := heap_alloc_new u3 (.cells #[.int .i64 0, .slice none 0 0, .slice none 0 0] 26)
      have R2' := row_kept R2.out hb3'
      have B3 := Lib.hid (below_on B2.out hb3')
      clear hy hb3 hb3' R2 B2
      have a0 : (u3.alloc (.cells #[.int .i64 0, .slice none 0 0, .slice none 0 0] 26)).cell? ⟨u2.heap.size, 0, none⟩ = some (.int .i64 0) := by rw [cell_of_row _ _ _ _ _ _ R2']; rfl
      have a1 : (u3.alloc (.cells #[.int .i64 0, .slice none 0 0, .slice none 0 0] 26)).cell? ⟨u2.heap.size, 1, none⟩ = some (.slice none 0 0) := by rw [cell_of_row _ _ _ _ _ _ R2']; rfl
      have a2 : (u3.alloc (.cells #[.int .i64 0, .slice none 0 0, .slice none 0 0] 26)).cell? ⟨u2.heap.size, 2, none⟩ = some (.slice none 0 0) := by rw [cell_of_row _ _ _ _ _ _ R2']; rfl
      have b0 : (u3.alloc (.cells #[.int .i64 0, .slice none 0 0, .slice none 0 0] 26)).cell? ⟨u3.heap.size, 0, none⟩ = some (.int .i64 0) := by rw [cell_of_row _ _ _ _ _ _ R3]; rfl
      have b1 : (u3.alloc (.cells #[.int .i64 0, .slice none 0 0, .slice none 0 0] 26)).cell? ⟨u3.heap.size, 1, none⟩ = some (.slice none 0 0) := by rw [cell_of_row _ _ _ _ _ _ R3]; rfl
      have b2 : (u3.alloc (.cells #[.int .i64 0, .slice none 0 0, .slice none 0 0] 26)).cell? ⟨u3.heap.size, 2, none⟩ = some (.slice none 0 0) := by rw [cell_of_row _ _ _ _ _ _ R3]; rfl
      go_wp2_with fail
      clear a0 a1 a2 b0 b1 b2
      refine (HZ.out _).mono ?_
      rintro e u5 ⟨rfl, hb5⟩
      have B5 := Lib.hid (below_on B3.out hb5)
      clear hb5 B3
      go_wp2_with fail
      go_ret
      exact ⟨rfl, B5.out⟩
  · have c5 : (5000 : Int) < (S.size : Int) := by omega
    go_enter Tryz.func3, Tryz.ntmps3
    go_wp2_with fail
    refine (HA.out _ hT.out).mono ?_
    rintro e u1 ⟨rfl, hb1⟩
    have B1 := Lib.hid hb1
    clear hb1
    go_wp2_with fail
    refine (HA.out _ (hT.out.on B1.out)).mono ?_
    rintro e u2 ⟨rfl, hb2⟩
    have B2 := Lib.hid (below_on B1.out hb2)
    clear hb2 B1
    go_wp2_with fail
    go_ret
    exact ⟨rfl, B2.out⟩
end Go.Proofs.YthmfhgehahpgbaaGreatDoor
