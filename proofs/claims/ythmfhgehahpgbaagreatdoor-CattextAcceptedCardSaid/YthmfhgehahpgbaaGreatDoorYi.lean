/- Package cattext: catalogue and Parse. -/
import Derived.Test.YthmfhgehahpgbaaGreatDoorYh
namespace Go.Proofs.YthmfhgehahpgbaaGreatDoor
open Go.RowKit

theorem ItsAt.form {t : TypeId} {B : Nat} {v : Value} {xs : List Itm} {w : World} (h : ItsAt t B v xs w) : ∃ a n c, v = .slice a n c := by
  rcases h.2 with ⟨rfl, _⟩ | ⟨g, cap, cur, rfl, _⟩
  · exact ⟨_, _, _, rfl⟩
  · exact ⟨_, _, _, rfl⟩
theorem ItsAt.base {t : TypeId} {B B' : Nat} {v : Value} {xs : List Itm} {w : World} (h : ItsAt t B v xs w) (hB : B' ≤ B) : ItsAt t B' v xs w := by
  refine ⟨h.1, ?_⟩
  rcases h.2 with h2 | ⟨g, cap, cur, e, hb, r⟩
  · exact .inl h2
  · exact .inr ⟨g, cap, cur, e, Nat.le_trans hB hb, r⟩
def zE : Prs Unit := fun S x => ((), ⟨x.k, feB x.b S x.k⟩)
set_option maxRecDepth 100000 in
set_option maxHeartbeats 4000000 in
theorem p26cat_go {S : ByteArray} {b N : Nat} {x : Sc} {w : World} {j j2 j6 free : Int} {y1 y2 y3 y6 y7 : Sc} {M1 M2 : List Itm × Sc} (h : w.heap[b]? = some (scX S x)) (hT : WTab w) (hN : N ≤ 1000000) (H1 : ∀ u : World, u.heap[b]? = some (scX S x) → Calls Tryz.prog 38 #[xp b, .slice (some ⟨u.heap.size, 0, none⟩) 1 1] (u.alloc (.cells #[.string ⟨#[99, 97, 116, 97, 108, 111, 103, 117, 101, 10]⟩] 9)) fun r w' => r = .returned (.int .i64 j) ∧ w'.heap[b]? = some (scX S y1) ∧ Bt b u w') (H2 : ∀ u : World, u.heap[b]? = some (scX S y1) → Calls Tryz.prog 38 #[xp b, .slice (some ⟨u.heap.size, 0, none⟩) 1 1] (u.alloc (.cells #[.string ⟨#[102, 114, 101, 101, 32]⟩] 9)) fun r w' => r = .returned (.int .i64 j2) ∧ w'.heap[b]? = some (scX S y2) ∧ Bt b u w') (H3 : ∀ u : World, u.heap[b]? = some (scX S y2) → Calls Tryz.prog 39 #[pv b, .string wLf] u fun r w' => r = .returned (.int .i64 free) ∧ w'.heap[b]? = some (scX S y3) ∧ Bt b u w') (hy3 : y3.k ≤ S.size) (hf : msr S y3 < N) (HB1 : ∀ (u : World) (y : Sc), u.heap[b]? = some (scX S y) → y.k ≤ S.size → Calls Tryz.prog 40 #[pv b, .string ⟨#[115, 101, 97, 115, 111, 110]⟩] u fun e w' => e = .returned (.bool (fpV y.b S y.k == 115)) ∧ Below u.heap.size u w') (HS : ∀ (u : World) (y : Sc), u.heap[b]? = some (scX S y) → y.k ≤ S.size → WTab u → Calls Tryz.prog 41 #[pv b] u fun r w' => r = .returned (.agg (pSea S y).1.vals) ∧ w'.heap[b]? = some (scX S (pSea S y).2) ∧ Bt b u w') (hM1 : pMany 115 pSea N [] S y3 = M1) (HB2 : ∀ (u : World) (y : Sc), u.heap[b]? = some (scX S y) → y.k ≤ S.size → Calls Tryz.prog 40 #[pv b, .string ⟨#[102, 101, 97, 115, 116]⟩] u fun e w' => e = .returned (.bool (fpV y.b S y.k == 102)) ∧ Below u.heap.size u w') (HF : ∀ (u : World) (y : Sc), u.heap[b]? = some (scX S y) → y.k ≤ S.size → WTab u → Calls Tryz.prog 42 #[pv b] u fun r w' => r = .returned (.agg (pFea S y).1.vals) ∧ w'.heap[b]? = some (scX S (pFea S y).2) ∧ Bt b u w') (hM2 : pMany 102 pFea N [] S M1.2 = M2) (hf2 : msr S M1.2 < N) (H6 : ∀ u : World, u.heap[b]? = some (scX S M2.2) → Calls Tryz.prog 38 #[xp b, .slice (some ⟨u.heap.size, 0, none⟩) 1 1] (u.alloc (.cells #[.string ⟨#[101, 110, 100, 10]⟩] 9)) fun r w' => r = .returned (.int .i64 j6) ∧ w'.heap[b]? = some (scX S y6) ∧ Bt b u w') (H7 : ∀ u : World, u.heap[b]? = some (scX S y6) → Calls Tryz.prog 43 #[xp b] u fun e w' => e = .returned (.tuple #[]) ∧ w'.heap[b]? = some (scX S y7) ∧ Bt b u w') :
    Calls Tryz.prog 17 #[pv b] w fun r w' => ∃ vS vF, r = .returned (.agg #[.int .i64 free, vS, vF]) ∧ ItsAt 41 w.heap.size vS M1.1 w' ∧ ItsAt 43 w.heap.size vF M2.1 w' ∧ w'.heap[b]? = some (scX S y7) ∧ Bt b w w' := by
  have H1 := Lib.hid H1
  have H2 := Lib.hid H2
  have H3 := Lib.hid H3
  have HB1 := Lib.hid HB1
  have HS := Lib.hid HS
  have HB2 := Lib.hid HB2
  have HF := Lib.hid HF
  have H6 := Lib.hid H6
  have H7 := Lib.hid H7
  obtain ⟨iS, hiS, hS0, hS1, hS2⟩ := info_parts infoSea
  obtain ⟨iF, hiF, hF0, hF1, hF2⟩ := info_parts infoFea
  have HM1 := Lib.hid hM1
  have HM2 := Lib.hid hM2
  have HY3 := Lib.hid hy3
  have HF1 := Lib.hid hf
  have HF2 := Lib.hid hf2
  have HKM := Lib.hid (show M1.2.k ≤ S.size by rw [← hM1]; exact ((gd_Many (by decide) gd_Sea N []).le S y3 hy3).2)
  clear hM1 hM2 hy3 hf hf2
  go_enter Tryz.func17, Tryz.ntmps17
  go_wp2_with fail
  obtain ⟨u, hu⟩ : ∃ u, u = (((w.alloc (.cells #[xp b] 47)).alloc (.cells #[.int .i64 0, .slice none 0 0, .slice none 0 0] 26)).alloc (.cells #[.int .i64 0, .slice none 0 0, .slice none 0 0] 26)) := ⟨_, rfl⟩
  have B0 : Below w.heap.size w u := hu ▸ al3 w _ _ _
  have rs := row_kept h B0
  have rP : u.heap[w.heap.size]? = some (.cells #[xp b] 47 (0, 0)) := hu ▸ row_on (heap_alloc_new _ _) (al2 _ _ _)
  have rR : u.heap[w.heap.size + 1]? = some (.cells #[.int .i64 0, .slice none 0 0, .slice none 0 0] 26 (0, 0)) := hu ▸ row_on (row_new1 _ _ _) (al1 _ _)
  have rQ : u.heap[w.heap.size + 1 + 1]? = some (.cells #[.int .i64 0, .slice none 0 0, .slice none 0 0] 26 (0, 0)) := hu ▸ row_new2 _ _ _ _
  have hz : w.heap.size + 1 + 1 + 1 = u.heap.size := by rw [hu]; simp
  rw [← hu]
  clear hu
  have hb := Bt.of_below (b := b) B0
  generalize hP : w.heap.size = P at *
  generalize hR : P + 1 = R at *
  generalize hQ : R + 1 = Q at *
  have lb : b < P := by have := row_lt h; omega
  rw [hz]
  clear hz
  have lg : 1 < P := by have := hT.heap; omega
  have HT := Lib.hid (hT.below B0 lg)
  have cP0_0 : u.cell? ⟨P, 0, none⟩ = some (xp b) := by rw [cell_of_row _ P 0 _ _ _ rP]; rfl
  refine (H1.out u rs).mono ?_
  clear cP0_0
  rintro e1 w1 ⟨rfl, rs1, g1⟩
  have rP_1 := g1.row (show P ≠ b by omega) rP
  have rR_1 := g1.row (show R ≠ b by omega) rR
  have rQ_1 := g1.row (show Q ≠ b by omega) rQ
  have hb1 := hb.trans g1
  have HT1 := Lib.hid (HT.out.mv g1 (ne_scan HT.out rs))
  have cP0_1 : w1.cell? ⟨P, 0, none⟩ = some (xp b) := by rw [cell_of_row _ P 0 _ _ _ rP_1]; rfl
  go_wp2_with fail
  refine (H2.out w1 rs1).mono ?_
  clear cP0_1
  rintro e2 w2 ⟨rfl, rs2, g2⟩
  have rP_2 := g2.row (show P ≠ b by omega) rP_1
  have rR_2 := g2.row (show R ≠ b by omega) rR_1
  have rQ_2 := g2.row (show Q ≠ b by omega) rQ_1
  have hb2 := hb1.trans g2
  have HT2 := Lib.hid (HT1.out.mv g2 (ne_scan HT1.out rs1))
  have cP0_2 : w2.cell? ⟨P, 0, none⟩ = some (xp b) := by rw [cell_of_row _ P 0 _ _ _ rP_2]; rfl
  go_wp2_with fail
  refine (H3.out w2 rs2).mono ?_
  clear cP0_2
  rintro e3 w3 ⟨rfl, rs3, g3⟩
  have rP_3 := g3.row (show P ≠ b by omega) rP_2
  have rR_3 := g3.row (show R ≠ b by omega) rR_2
  have rQ_3 := g3.row (show Q ≠ b by omega) rQ_2
  have hb3 := hb2.trans g3
  have HT3 := Lib.hid (HT2.out.mv g3 (ne_scan HT2.out rs2))
  have cQ0_3 : w3.cell? ⟨Q, 0, none⟩ = some (.int .i64 0) := by rw [cell_of_row _ Q 0 _ _ _ rQ_3]; rfl
  have fQ0_3 : w3.frozen? ⟨Q, 0, none⟩ = false := frozen_of_row _ Q 0 _ _ rQ_3
  have t1 : Bt Q w3 (w3.setCell ⟨Q, 0, none⟩ (.int .i64 free)) := Bt.sets Q [(.int .i64 free)] 0 w3
  have pQ1 : (w3.setCell ⟨Q, 0, none⟩ (.int .i64 free)).heap[Q]? = some (.cells #[.int .i64 free, .slice none 0 0, .slice none 0 0] 26 (0, 0)) := heap_setCell_same _ Q 0 _ _ _ rQ_3
  have pP1 := t1.row (show P ≠ Q by omega) rP_3
  have pR1 := t1.row (show R ≠ Q by omega) rR_3
  have ps1 := t1.row (show b ≠ Q by omega) rs3
  have hbp1 := hb3.over t1 (show w.heap.size ≤ Q by omega)
  have HT4 := Lib.hid (HT3.out.mv t1 (by omega))
  have lp : b < P := lb
  have lr : P < R := by omega
  have lq : R < Q := by omega
  have C0 : CL S b P R Q w free (.slice none 0 0) (.slice none 0 0) [] [] y3 ((w3.setCell ⟨Q, 0, none⟩ (.int .i64 free))) := ⟨pP1, pR1, pQ1, ps1, hbp1, HT4.out, by have := row_lt pQ1; omega, ItsAt.emp _ _ _, ItsAt.emp _ _ _⟩
  go_wp2_with fail
  clear cQ0_3 fQ0_3
  obtain ⟨u, hu⟩ : ∃ u, u = (w3.setCell ⟨Q, 0, none⟩ (.int .i64 free)) := ⟨_, rfl⟩
  rw [← hu] at C0 ⊢
  clear hu
  go_loopw [] (fun wr => ∃ (y : Sc) (v : Value) (l : List Itm) (n : Nat), Hid (CL S b P R Q w free v (.slice none 0 0) l [] y wr ∧ y.k ≤ S.size ∧ msr S y < n ∧ l.length + n ≤ N ∧ pMany 115 pSea n l S y = M1)) (fun wr => msW S b wr)
  case atStart => exact ⟨y3, _, [], N, Lib.hid ⟨C0, HY3.out, HF1.out, by simp, HM1.out⟩⟩
  case round =>
    obtain ⟨y, v, l, n, HR⟩ := hrel
    obtain ⟨hC, hk, hn, hlN, hM⟩ := HR.out
    obtain ⟨n, rfl⟩ : ∃ m, n = m + 1 := ⟨n - 1, by omega⟩
    have HBy := HB1.out wr y hC.s hk
    have cP : wr.cell? ⟨P, 0, none⟩ = some (xp b) := by rw [cell_of_row _ P 0 _ _ _ hC.p]; rfl
    have HCr := Lib.hid hC
    by_cases g : fpV y.b S y.k = 115
    · skip
      have hM2 : pMany 115 pSea n (l ++ [(pSea S y).1]) S (pSea S y).2 = M1 := by
        rw [← hM]; show _ = (if fpV y.b S y.k = 115 then _ else _); rw [if_pos g]
      have yb : y.b = false := by
        cases q : y.b
        · rfl
        · rw [q] at g; exact absurd g (by show ¬ (0 : Int) = _; decide)
      have hms := msr_step gd_Sea adv_Sea hk yb
      have hk2 := (gd_Sea.le S y hk).2
      have HIy := fun (u : World) (h : u.heap[b]? = some (scX S y)) (t : WTab u) => HS.out u y h hk t
      rw [beq_iff_eq.2 g] at HBy
      generalize hpt : pSea S y = pt at hM2 hms hk2 HIy
      obtain ⟨t, y'⟩ := pt
      have HX := Lib.hid (⟨hM2, hms, hk2, hn, hlN⟩ : pMany 115 pSea n (l ++ [t]) S y' = M1 ∧ msr S y' < msr S y ∧ y'.k ≤ S.size ∧ msr S y < n + 1 ∧ l.length + (n + 1) ≤ N)
      have HIt := Lib.hid HIy
      have HBt := Lib.hid HBy
      clear hM hM2 hms hk2 HIy HBy hpt g yb hn hlN HR hC hk
      go_wp2_with fail
      refine HBt.out.mono ?_
      rintro e1 w1 ⟨rfl, hb1⟩
      have C1 := HCr.out.below hb1
      have cP1 : w1.cell? ⟨P, 0, none⟩ = some (xp b) := by rw [cell_of_row _ P 0 _ _ _ C1.p]; rfl
      clear cP
      go_wp2_with fail
      refine till_start (fun u => u.heap[P]? = some (.cells #[xp b] 47 (0, 0)) ∧ u.heap[Q]? = some (.cells #[.int .i64 free, v, .slice none 0 0] 26 (0, 0))) 5 (by kernel_rfl) ?_
      refine till_take (i := 0) (oi := { dst := some 17, op := _, type := _, pos := _, after := _, guard := _ }) (v := ?vas) rfl (by kernel_rfl) (by kernel_rfl) (by kernel_rfl) (fun _ _ _ h => h) (by decide) (Or.inl ⟨by rfl, ?has⟩) (.inr ⟨C1.p, C1.q⟩) ?_
      case has => (intro w _; go_simp; try with_reducible rfl)
      (try simp only [Act.put, List.setIfInBounds_toArray, List.set_cons_zero, List.set_cons_succ])
      refine till_take_load (i := 1) (oi := { dst := some 18, op := _, type := _, pos := _, after := _, guard := _ }) (v := ?vbs) rfl (by kernel_rfl) (by kernel_rfl) (by kernel_rfl) (fun _ _ _ h => h) (by kernel_rfl) (by decide) (by kernel_rfl) (Or.inl ⟨by rfl, ?hbs⟩) ⟨C1.p, C1.q⟩ ?_
      case hbs => (intro w hSw; (try dsimp only at hSw); obtain ⟨s0, s1, s2, t0, t1, t2, tz⟩ := row3 hSw.2; go_simp; try with_reducible rfl)
      (try simp only [Act.put, List.setIfInBounds_toArray, List.set_cons_zero, List.set_cons_succ])
      refine till_one (i := 2) (o := { dst := some 19, op := _, type := _, pos := _, after := _, guard := _ }) (by kernel_rfl) rfl (fun K hK => ?_)
      go_simp
      refine hK.out _ _ (.inr ⟨C1.p, C1.q⟩) ?_
      clear hK K
      (try simp only [Act.put, List.setIfInBounds_toArray, List.set_cons_zero, List.set_cons_succ])
      have C1d := C1.below (below_dn (Below.refl _ _) 1)
      refine till_one (i := 3) (o := { dst := some 20, op := _, type := _, pos := _, after := _, guard := _ }) (by kernel_rfl) rfl (fun K hK => ?_)
      go_simp
      go_at_call 41
      refine (HIt.out _ C1d.s C1d.t).mono ?_
      rintro e2 w2 ⟨rfl, s2, g2⟩
      have C2 := C1d.call lp lr lq s2 g2
      refine hK.out _ _ (.inr ⟨C2.p, C2.q⟩) ?_
      clear hK K cP1 C1 C1d s2 g2
      (try simp only [Act.put, List.setIfInBounds_toArray, List.set_cons_zero, List.set_cons_succ])
      obtain ⟨id, a1, a2, a3, a4, a5, a6, a7, a8⟩ := t
      refine till_one (i := 4) (o := { dst := some 21, op := _, type := _, pos := _, after := _, guard := _ }) (by kernel_rfl) rfl (fun K hK => ?_)
      go_simp
      have C3 := C2.below (al1 w2 (.cells #[.string id, .int .i64 a1, .int .i64 a2, .int .i64 a3, .int .i64 a4, .int .i64 a5, .int .i64 a6, .int .i64 a7, .int .i64 a8] 41))
      have NW := World.news_of_block (heap_alloc_new w2 (.cells #[.string id, .int .i64 a1, .int .i64 a2, .int .i64 a3, .int .i64 a4, .int .i64 a5, .int .i64 a6, .int .i64 a7, .int .i64 a8] 41))
      refine hK.out _ _ (.inr ⟨C3.p, C3.q⟩) ?_
      clear hK K
      (try simp only [Act.put, List.setIfInBounds_toArray, List.set_cons_zero, List.set_cons_succ])
      refine till_one (i := 5) (o := { dst := some 22, op := _, type := _, pos := _, after := _, guard := _ }) (by kernel_rfl) rfl (fun K hK => ?_)
      rw [if_pos (by rfl)]
      refine wp_append_lies _ _ _ 23 (by rfl) (Q + 1) 41 iS (.agg #[.string ⟨#[]⟩, .int .i64 0, .int .i64 0, .int .i64 0, .int .i64 0, .int .i64 0, .int .i64 0, .int .i64 0, .int .i64 0]) 9 80 Tryz.underlying23 hiS hS0 hS1 hS2 rfl (by decide) v l.length (flat9 l) (by rfl) C3.os ⟨w2.heap.size, 0, none⟩ 1 1 (flat9 [⟨id, a1, a2, a3, a4, a5, a6, a7, a8⟩]) (by rfl) (by rfl) NW (flat9_one [⟨id, a1, a2, a3, a4, a5, a6, a7, a8⟩]) (by decide) (by have := HX.out.2.2.2.2; unfold maxLen; omega) (by have := HX.out.2.2.2.2; omega) C3.z _ rfl ?_
      intro g c wz hown hgrow _ _
      obtain ⟨C4, zq⟩ := C3.adds hP lg lp lr lq hown hgrow
      refine hK.out _ _ (.inl rfl) ?_
      clear hK K hown hgrow NW C3 C2
      (try simp only [Act.put, List.setIfInBounds_toArray, List.set_cons_zero, List.set_cons_succ])
      refine till_take (i := 6) (oi := { dst := some 23, op := _, type := _, pos := _, after := _, guard := _ }) (v := ?vcs) rfl (by kernel_rfl) (by kernel_rfl) (by kernel_rfl) (fun _ _ _ h => h) (by decide) (Or.inl ⟨by rfl, ?hcs⟩) (.inl rfl) ?_
      case hcs => (intro w _; go_simp; try with_reducible rfl)
      (try simp only [Act.put, List.setIfInBounds_toArray, List.set_cons_zero, List.set_cons_succ])
      obtain ⟨r0, r1, r2, f0, f1, f2, rz⟩ := row3 zq
      refine till_one (i := 7) (o := { dst := none, op := _, type := _, pos := _, after := _, guard := _ }) (by kernel_rfl) rfl (fun K hK => ?_)
      go_simp
      refine hK.out _ _ (.inl rfl) ?_
      clear hK K r0 r1 r2 f0 f1 f2 rz zq
      refine till_done (by kernel_rfl) ?_ _
      go_roundw
      case rel => exact ⟨_, _, _, _, _, _, _, _, _, ⟨y', _, l ++ [⟨id, a1, a2, a3, a4, a5, a6, a7, a8⟩], n, Lib.hid ⟨C4, HX.out.2.2.1, by have h1 := HX.out.2.1; have h2 := HX.out.2.2.2.1; omega, by have := HX.out.2.2.2.2; rw [List.length_append]; show l.length + 1 + n ≤ N; omega, HX.out.1⟩⟩, rfl⟩
      case measure => rw [msW_is C4.s, msW_is HCr.out.s]; exact HX.out.2.1
    · skip
      have hM2 : (l, y) = M1 := by
        rw [← hM]; show _ = (if fpV y.b S y.k = 115 then _ else _); rw [if_neg g]
      rw [beq_eq_false_iff_ne.2 g] at HBy
      have HBt := Lib.hid HBy
      clear hM HBy g hn hlN HR hC hk n
      obtain ⟨e1, e2⟩ : M1.1 = l ∧ M1.2 = y := by rw [← hM2]; exact ⟨rfl, rfl⟩
      subst e1 e2
      clear hM2
      go_wp2_with fail
      refine HBt.out.mono ?_
      rintro e1 w1 ⟨rfl, hb1⟩
      have CS := HCr.out.below hb1
      clear cP HBt hb1 HCr
      obtain ⟨vS0, hv0⟩ : ∃ z, z = v := ⟨_, rfl⟩
      rw [← hv0] at CS
      clear hv0 C0
      have cP1 : w1.cell? ⟨P, 0, none⟩ = some (xp b) := by rw [cell_of_row _ P 0 _ _ _ CS.p]; rfl
      go_wp2_with fail
      clear cP1
      go_loopw [] (fun wr => ∃ (y : Sc) (v : Value) (l : List Itm) (n : Nat), Hid (CL S b P R Q w free vS0 v M1.1 l y wr ∧ y.k ≤ S.size ∧ msr S y < n ∧ l.length + n ≤ N ∧ pMany 102 pFea n l S y = M2)) (fun wr => msW S b wr)
      case atStart => exact ⟨M1.2, _, [], N, Lib.hid ⟨CS, HKM.out, HF2.out, by simp, HM2.out⟩⟩
      case round =>
        obtain ⟨y, v, l, n, HR⟩ := hrel
        obtain ⟨hC, hk, hn, hlN, hM⟩ := HR.out
        obtain ⟨n, rfl⟩ : ∃ m, n = m + 1 := ⟨n - 1, by omega⟩
        have HBy := HB2.out wr y hC.s hk
        have cP : wr.cell? ⟨P, 0, none⟩ = some (xp b) := by rw [cell_of_row _ P 0 _ _ _ hC.p]; rfl
        have HCr := Lib.hid hC
        by_cases g : fpV y.b S y.k = 102
        · skip
          have hM2 : pMany 102 pFea n (l ++ [(pFea S y).1]) S (pFea S y).2 = M2 := by
            rw [← hM]; show _ = (if fpV y.b S y.k = 102 then _ else _); rw [if_pos g]
          have yb : y.b = false := by
            cases q : y.b
            · rfl
            · rw [q] at g; exact absurd g (by show ¬ (0 : Int) = _; decide)
          have hms := msr_step gd_Fea adv_Fea hk yb
          have hk2 := (gd_Fea.le S y hk).2
          have HIy := fun (u : World) (h : u.heap[b]? = some (scX S y)) (t : WTab u) => HF.out u y h hk t
          rw [beq_iff_eq.2 g] at HBy
          generalize hpt : pFea S y = pt at hM2 hms hk2 HIy
          obtain ⟨t, y'⟩ := pt
          have HX := Lib.hid (⟨hM2, hms, hk2, hn, hlN⟩ : pMany 102 pFea n (l ++ [t]) S y' = M2 ∧ msr S y' < msr S y ∧ y'.k ≤ S.size ∧ msr S y < n + 1 ∧ l.length + (n + 1) ≤ N)
          have HIt := Lib.hid HIy
          have HBt := Lib.hid HBy
          clear hM hM2 hms hk2 HIy HBy hpt g yb hn hlN HR hC hk
          go_wp2_with fail
          refine HBt.out.mono ?_
          rintro e1 w1 ⟨rfl, hb1⟩
          have C1 := HCr.out.below hb1
          have cP1 : w1.cell? ⟨P, 0, none⟩ = some (xp b) := by rw [cell_of_row _ P 0 _ _ _ C1.p]; rfl
          clear cP
          go_wp2_with fail
          refine till_start (fun u => u.heap[P]? = some (.cells #[xp b] 47 (0, 0)) ∧ u.heap[Q]? = some (.cells #[.int .i64 free, vS0, v] 26 (0, 0))) 5 (by kernel_rfl) ?_
          refine till_take (i := 0) (oi := { dst := some 26, op := _, type := _, pos := _, after := _, guard := _ }) (v := ?vaf) rfl (by kernel_rfl) (by kernel_rfl) (by kernel_rfl) (fun _ _ _ h => h) (by decide) (Or.inl ⟨by rfl, ?haf⟩) (.inr ⟨C1.p, C1.q⟩) ?_
          case haf => (intro w _; go_simp; try with_reducible rfl)
          (try simp only [Act.put, List.setIfInBounds_toArray, List.set_cons_zero, List.set_cons_succ])
          refine till_take_load (i := 1) (oi := { dst := some 27, op := _, type := _, pos := _, after := _, guard := _ }) (v := ?vbf) rfl (by kernel_rfl) (by kernel_rfl) (by kernel_rfl) (fun _ _ _ h => h) (by kernel_rfl) (by decide) (by kernel_rfl) (Or.inl ⟨by rfl, ?hbf⟩) ⟨C1.p, C1.q⟩ ?_
          case hbf => (intro w hSw; (try dsimp only at hSw); obtain ⟨s0, s1, s2, t0, t1, t2, tz⟩ := row3 hSw.2; go_simp; try with_reducible rfl)
          (try simp only [Act.put, List.setIfInBounds_toArray, List.set_cons_zero, List.set_cons_succ])
          refine till_one (i := 2) (o := { dst := some 28, op := _, type := _, pos := _, after := _, guard := _ }) (by kernel_rfl) rfl (fun K hK => ?_)
          go_simp
          refine hK.out _ _ (.inr ⟨C1.p, C1.q⟩) ?_
          clear hK K
          (try simp only [Act.put, List.setIfInBounds_toArray, List.set_cons_zero, List.set_cons_succ])
          have C1d := C1.below (below_dn (Below.refl _ _) 1)
          refine till_one (i := 3) (o := { dst := some 29, op := _, type := _, pos := _, after := _, guard := _ }) (by kernel_rfl) rfl (fun K hK => ?_)
          go_simp
          go_at_call 42
          refine (HIt.out _ C1d.s C1d.t).mono ?_
          rintro e2 w2 ⟨rfl, s2, g2⟩
          have C2 := C1d.call lp lr lq s2 g2
          refine hK.out _ _ (.inr ⟨C2.p, C2.q⟩) ?_
          clear hK K cP1 C1 C1d s2 g2
          (try simp only [Act.put, List.setIfInBounds_toArray, List.set_cons_zero, List.set_cons_succ])
          obtain ⟨id, a1, a2, a3, a4, a5, a6, a7, a8⟩ := t
          refine till_one (i := 4) (o := { dst := some 30, op := _, type := _, pos := _, after := _, guard := _ }) (by kernel_rfl) rfl (fun K hK => ?_)
          go_simp
          have C3 := C2.below (al1 w2 (.cells #[.string id, .int .i64 a1, .int .i64 a2, .int .i64 a3, .int .i64 a4, .int .i64 a5, .int .i64 a6, .int .i64 a7, .int .i64 a8] 43))
          have NW := World.news_of_block (heap_alloc_new w2 (.cells #[.string id, .int .i64 a1, .int .i64 a2, .int .i64 a3, .int .i64 a4, .int .i64 a5, .int .i64 a6, .int .i64 a7, .int .i64 a8] 43))
          refine hK.out _ _ (.inr ⟨C3.p, C3.q⟩) ?_
          clear hK K
          (try simp only [Act.put, List.setIfInBounds_toArray, List.set_cons_zero, List.set_cons_succ])
          refine till_one (i := 5) (o := { dst := some 31, op := _, type := _, pos := _, after := _, guard := _ }) (by kernel_rfl) rfl (fun K hK => ?_)
          rw [if_pos (by rfl)]
          refine wp_append_lies _ _ _ 24 (by rfl) (Q + 1) 43 iF (.agg #[.string ⟨#[]⟩, .int .i64 0, .int .i64 0, .int .i64 0, .int .i64 0, .int .i64 0, .int .i64 0, .int .i64 0, .int .i64 0]) 9 80 Tryz.underlying24 hiF hF0 hF1 hF2 rfl (by decide) v l.length (flat9 l) (by rfl) C3.of ⟨w2.heap.size, 0, none⟩ 1 1 (flat9 [⟨id, a1, a2, a3, a4, a5, a6, a7, a8⟩]) (by rfl) (by rfl) NW (flat9_one [⟨id, a1, a2, a3, a4, a5, a6, a7, a8⟩]) (by decide) (by have := HX.out.2.2.2.2; unfold maxLen; omega) (by have := HX.out.2.2.2.2; omega) C3.z _ rfl ?_
          intro g c wz hown hgrow _ _
          obtain ⟨C4, zq⟩ := C3.addf hP lg lp lr lq hown hgrow
          refine hK.out _ _ (.inl rfl) ?_
          clear hK K hown hgrow NW C3 C2
          (try simp only [Act.put, List.setIfInBounds_toArray, List.set_cons_zero, List.set_cons_succ])
          refine till_take (i := 6) (oi := { dst := some 32, op := _, type := _, pos := _, after := _, guard := _ }) (v := ?vcf) rfl (by kernel_rfl) (by kernel_rfl) (by kernel_rfl) (fun _ _ _ h => h) (by decide) (Or.inl ⟨by rfl, ?hcf⟩) (.inl rfl) ?_
          case hcf => (intro w _; go_simp; try with_reducible rfl)
          (try simp only [Act.put, List.setIfInBounds_toArray, List.set_cons_zero, List.set_cons_succ])
          obtain ⟨r0, r1, r2, f0, f1, f2, rz⟩ := row3 zq
          refine till_one (i := 7) (o := { dst := none, op := _, type := _, pos := _, after := _, guard := _ }) (by kernel_rfl) rfl (fun K hK => ?_)
          go_simp
          refine hK.out _ _ (.inl rfl) ?_
          clear hK K r0 r1 r2 f0 f1 f2 rz zq
          refine till_done (by kernel_rfl) ?_ _
          go_roundw
          case rel => exact ⟨_, _, _, _, _, _, _, _, _, ⟨y', _, l ++ [⟨id, a1, a2, a3, a4, a5, a6, a7, a8⟩], n, Lib.hid ⟨C4, HX.out.2.2.1, by have h1 := HX.out.2.1; have h2 := HX.out.2.2.2.1; omega, by have := HX.out.2.2.2.2; rw [List.length_append]; show l.length + 1 + n ≤ N; omega, HX.out.1⟩⟩, rfl⟩
          case measure => rw [msW_is C4.s, msW_is HCr.out.s]; exact HX.out.2.1
        · skip
          have hM2 : (l, y) = M2 := by
            rw [← hM]; show _ = (if fpV y.b S y.k = 102 then _ else _); rw [if_neg g]
          rw [beq_eq_false_iff_ne.2 g] at HBy
          have HBt := Lib.hid HBy
          clear hM HBy g hn hlN HR hC hk n
          obtain ⟨e1, e2⟩ : M2.1 = l ∧ M2.2 = y := by rw [← hM2]; exact ⟨rfl, rfl⟩
          subst e1 e2
          clear hM2
          go_wp2_with fail
          refine HBt.out.mono ?_
          rintro e1 w1 ⟨rfl, hb1⟩
          have CF := HCr.out.below hb1
          clear cP HBt hb1 HCr
          have cP1 : w1.cell? ⟨P, 0, none⟩ = some (xp b) := by rw [cell_of_row _ P 0 _ _ _ CF.p]; rfl
          go_wp2_with fail
          refine (H6.out w1 CF.s).mono ?_
          rintro e2 w2 ⟨rfl, s2, g2⟩
          have C2 := CF.call lp lr lq s2 g2
          have cP2 : w2.cell? ⟨P, 0, none⟩ = some (xp b) := by rw [cell_of_row _ P 0 _ _ _ C2.p]; rfl
          clear cP1 CF s2 g2
          go_wp2_with fail
          refine (H7.out w2 C2.s).mono ?_
          rintro e3 w3 ⟨rfl, s3, g3⟩
          have C3 := C2.call lp lr lq s3 g3
          obtain ⟨a1, n1, c1, rfl⟩ := C3.os.form
          obtain ⟨a2, n2, c2, rfl⟩ := C3.of.form
          obtain ⟨q0, q1, q2, f0, f1, f2, fz⟩ := row3 C3.q
          obtain ⟨k0, k1, k2, h0, h1, h2, kz⟩ := row3 C3.r
          clear cP2 C2 s3 g3
          go_wp2_with fail
          generalize hX : ((w3.setCell ⟨R, 0, none⟩ (.int .i64 free)).setCell ⟨R, 1, none⟩ (.slice a1 n1 c1)).setCell ⟨R, 2, none⟩ (.slice a2 n2 c2) = X
          obtain ⟨m0, m1, m2⟩ := three_set _ _ _ C3.r hX
          have SX : ItsAt 41 (Q + 1) (.slice a1 n1 c1) M1.1 X := by
            rw [← hX]; exact ((C3.os.put (p := ⟨R, 0, none⟩) (show R < Q + 1 by omega) _).put (p := ⟨R, 1, none⟩) (show R < Q + 1 by omega) _).put (p := ⟨R, 2, none⟩) (show R < Q + 1 by omega) _
          have FX : ItsAt 43 (Q + 1) (.slice a2 n2 c2) M2.1 X := by
            rw [← hX]; exact ((C3.of.put (p := ⟨R, 0, none⟩) (show R < Q + 1 by omega) _).put (p := ⟨R, 1, none⟩) (show R < Q + 1 by omega) _).put (p := ⟨R, 2, none⟩) (show R < Q + 1 by omega) _
          have BX : Bt b w X := by
            rw [← hX]; exact ((C3.bt.over (Bt.set R w3 0 _) (by omega)).over (Bt.set R _ 1 _) (by omega)).over (Bt.set R _ 2 _) (by omega)
          have sX : X.heap[b]? = some (scX S y7) := by
            rw [← hX]; exact (Bt.set R _ 2 _).row (by omega) ((Bt.set R _ 1 _).row (by omega) ((Bt.set R w3 0 _).row (by omega) C3.s))
          refine bodyPost_ret (v := .agg #[.int .i64 free, .slice a1 n1 c1, .slice a2 n2 c2]) (by simp [results, Tryz.results17, go_sem, m0, m1, m2]) rfl ⟨_, _, rfl, SX.base (by omega), FX.base (by omega), sX, BX⟩
end Go.Proofs.YthmfhgehahpgbaaGreatDoor
