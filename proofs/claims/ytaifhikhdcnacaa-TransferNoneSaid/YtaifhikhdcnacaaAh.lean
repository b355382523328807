/- The law TransferMonotone, given what package transfer must answer. -/
import Derived.Test.YtaifhikhdcnacaaAg
namespace Go.Proofs.Ytaifhikhdcnacaa
open Go.RowKit

theorem sum_set (imp : List (List Int)) (k : Nat) : ∀ n, n ≤ imp.length → sumF (imp.set k []) n ≤ sumF imp n
  | 0, _ => Nat.le_refl _
  | n + 1, h => by
    rw [sumF_succ (show n < (imp.set k []).length by rw [List.length_set]; omega), sumF_succ (show n < imp.length by omega)]
    have h0 := sum_set imp k n (by omega)
    have h1 : ((imp.set k []).getD n []).length ≤ (imp.getD n []).length := by
      rw [List.getD_eq_getElem?_getD, List.getElem?_set]
      split
      · split
        · exact Nat.zero_le _
        · exact Nat.zero_le _
      · rw [List.getD_eq_getElem?_getD]; exact Nat.le_refl _
    omega
theorem few_more {fr : List Bool} {imp : List (List Int)} (h : fewT fr imp = true) (k : Nat) (b : Bool) : fewT (fr.set k b) imp = true := by
  obtain ⟨a, b', c, d⟩ := fewT_iff.1 h
  exact fewT_iff.2 ⟨by rw [List.length_set]; exact a, b', c, d⟩
theorem few_less {fr : List Bool} {imp : List (List Int)} (h : fewT fr imp = true) (k : Nat) : fewT fr (imp.set k []) = true := by
  obtain ⟨a, b', c, d⟩ := fewT_iff.1 h
  refine fewT_iff.2 ⟨a, by rw [List.length_set]; exact b', fun l hl => ?_, ?_⟩
  · rcases List.mem_or_eq_of_mem_set hl with h' | h'
    · exact c l h'
    · rw [h']; exact Nat.zero_le _
  · rw [List.length_set]; exact Nat.le_trans (sum_set imp k _ (Nat.le_refl _)) d
theorem sub_more (fr : List Bool) (k : Nat) : subF fr (fr.set k true) := by
  refine ⟨by rw [List.length_set], fun t ht => ?_⟩
  rw [List.getD_eq_getElem?_getD, List.getElem?_set]
  split
  · rename_i e
    subst e
    split
    · rfl
    · rename_i h
      rw [List.getD_eq_getElem?_getD, List.getElem?_eq_none (by omega)] at ht; cases ht
  · rw [List.getD_eq_getElem?_getD] at ht; exact ht
theorem own_in {t : TypeId} {B : Nat} {v : Value} {n : Nat} {cs : List Value} {w : World} (h : w.ownsRow B t 1 v n cs) (h0 : v ≠ .slice none 0 0) : ∃ g cap, v = .slice (some ⟨g, 0, none⟩) n cap ∧ B ≤ g ∧ g < w.heap.size := by
  rcases h.2 with ⟨rfl, hn⟩ | ⟨g, cap, cur, rfl, hb, hg, hnc, hcm, hcs, htake⟩
  · exact absurd rfl h0
  · exact ⟨g, cap, rfl, hb, (Array.getElem?_eq_some_iff.1 hg).1⟩
theorem own_set {t : TypeId} {B sz : Nat} {v : Value} {n : Nat} {cs : List Value} {w : World} (h : w.ownsRow B t sz v n cs) {p : Addr} (hp : v.ownBlock ≠ some p.block) (x : Value) : (w.setCell p x).ownsRow B t sz v n cs :=
  World.ownsRow.kept h ⟨rfl, rfl, rfl, by simp, fun k _ hne => heap_setCell_other _ _ _ _ (fun e => hne (by rw [e]))⟩ (row := some p.block) (.inr hp)
theorem range_map_get (f : Nat → Value) (n i : Nat) (x0 : Value) (hi : i < n) : ((List.range n).map f).getD i x0 = f i := by
  rw [List.getD_eq_getElem?_getD, List.getElem?_map, List.getElem?_range hi]; rfl
/-- A slice of slices, of the call's own: as a reader finds it. -/
theorem own_lists {B : Nat} {v : Value} {w : World} {n : Nat} {cs : List Value} (h : w.ownsRow B 40 1 v n cs) (hn : cs.length = n) (ls : List (List Int)) (hl : ls.length = n) (hx : ∀ i, i < n → InAt w (cs.getD i (.slice none 0 0)) (ls.getD i [])) : LsAt w v ls := by
  subst hl
  exact ⟨_, own_at h hn (.slice none 0 0), hx⟩
set_option maxRecDepth 100000 in
theorem l22m_no (M : TP) (fr : List Bool) (imp : List (List Int)) (vf vi : Value) (d : Nat) (W : World) (h1 : BlAt W vf fr) (h2 : LsAt W vi imp) (hf : fewT fr imp = false)  : Calls Try.prog 6 #[vf, vi, .int .u16 d] W fun e w' => e = .returned (.bool true) ∧ Below W.heap.size W w' := by
  have G1 := Lib.hid h1
  have G2 := Lib.hid h2
  have HF := Lib.hid (fun u (q1 : BlAt u vf fr) (q2 : LsAt u vi imp) => show Calls Try.prog 10 #[vf, vi] u fun e w' => e = .returned (.bool false) ∧ u = w' from hf ▸ r22few_any fr imp vf vi u q1 q2)
  clear hf
  clear h1 h2
  go_enter Try.func6, Try.ntmps6
  go_wp2_with fail
  refine (c22awake_any M _).mono ?_
  rintro e w1 ⟨rfl, hb⟩
  have S1 := Lib.hid hb
  clear hb
  go_wp2_with fail
  refine (HF.out _ (G1.out.on S1.out) (G2.out.on S1.out)).mono ?_
  rintro e wq ⟨rfl, rfl⟩
  go_wp2_with fail
  refine (c22awake_any M _).mono ?_
  rintro e w2 ⟨rfl, hb⟩
  have S2 := Lib.hid (below_on S1.out hb)
  clear hb
  go_wp2_with fail
  go_ret
  exact ⟨rfl, S2.out⟩
set_option maxRecDepth 100000 in
theorem l22m_zero (M : TP) (fr : List Bool) (imp : List (List Int)) (vf vi : Value) (d : Nat) (W : World) (h1 : BlAt W vf fr) (h2 : LsAt W vi imp) (hf : fewT fr imp = true) (h0 : fr.length = 0) : Calls Try.prog 6 #[vf, vi, .int .u16 d] W fun e w' => e = .returned (.bool true) ∧ Below W.heap.size W w' := by
  have G1 := Lib.hid h1
  have G2 := Lib.hid h2
  have HF := Lib.hid (fun u (q1 : BlAt u vf fr) (q2 : LsAt u vi imp) => show Calls Try.prog 10 #[vf, vi] u fun e w' => e = .returned (.bool true) ∧ u = w' from hf ▸ r22few_any fr imp vf vi u q1 q2)
  clear hf
  obtain ⟨A1, c1, hvf, -, -, -⟩ := h1
  subst hvf
  rw [h0] at G1 HF ⊢
  clear h2 h0
  go_enter Try.func6, Try.ntmps6
  go_wp2_with fail
  refine (c22awake_any M _).mono ?_
  rintro e w1 ⟨rfl, hb⟩
  have S1 := Lib.hid hb
  clear hb
  go_wp2_with fail
  refine (HF.out _ (G1.out.on S1.out) (G2.out.on S1.out)).mono ?_
  rintro e wq ⟨rfl, rfl⟩
  go_wp2_with fail
  refine (c22awake_any M _).mono ?_
  rintro e w2 ⟨rfl, hb⟩
  have S2 := Lib.hid (below_on S1.out hb)
  clear hb
  go_wp2_with fail
  go_ret
  exact ⟨rfl, S2.out⟩
set_option maxRecDepth 100000 in
theorem l22m_far (M : TP) (fr : List Bool) (imp : List (List Int)) (vf vi : Value) (d : Nat) (W : World) (h1 : BlAt W vf fr) (h2 : LsAt W vi imp) (hf : fewT fr imp = true) (h0 : 0 < fr.length) (hne : fr.length ≠ imp.length) : Calls Try.prog 6 #[vf, vi, .int .u16 d] W fun e w' => e = .returned (.bool true) ∧ Below W.heap.size W w' := by
  have G1 := Lib.hid h1
  have G2 := Lib.hid h2
  have HF := Lib.hid (fun u (q1 : BlAt u vf fr) (q2 : LsAt u vi imp) => show Calls Try.prog 10 #[vf, vi] u fun e w' => e = .returned (.bool true) ∧ u = w' from hf ▸ r22few_any fr imp vf vi u q1 q2)
  clear hf
  obtain ⟨A1, c1, hvf, -, -, -⟩ := h1
  obtain ⟨A2, c2, hvi, -⟩ := h2.day
  subst hvf hvi
  have k1 : ((fr.length : Int) == 0) = false := beq_eq_false_iff_ne.2 (by omega)
  have k2 : ((fr.length : Int) != (imp.length : Int)) = true := bne_iff_ne.2 (by omega)
  have k3 : ¬ fr.length = 0 := by omega
  have k4 : ¬ fr = [] := fun e => by rw [e] at h0; cases h0
  clear h0
  go_enter Try.func6, Try.ntmps6
  go_wp2_with fail
  refine (c22awake_any M _).mono ?_
  rintro e w1 ⟨rfl, hb⟩
  have S1 := Lib.hid hb
  clear hb
  go_wp2_with fail
  refine (HF.out _ (G1.out.on S1.out) (G2.out.on S1.out)).mono ?_
  rintro e wq ⟨rfl, rfl⟩
  go_wp2_with fail
  refine (c22awake_any M _).mono ?_
  rintro e w2 ⟨rfl, hb⟩
  have S2 := Lib.hid (below_on S1.out hb)
  clear hb
  go_wp2_with fail
  go_ret
  exact ⟨rfl, S2.out⟩
set_option maxHeartbeats 2000000 in
set_option maxRecDepth 100000 in
theorem l22m_ok (M : TP) (fr : List Bool) (imp : List (List Int)) (vf vi : Value) (d : Nat) (W : World) (hd : d < 65536) (h1 : BlAt W vf fr) (h2 : LsAt W vi imp) (hf : fewT fr imp = true) (h0 : 0 < fr.length) (hl : fr.length = imp.length) (E1 E2 E3 : Int) (m1 m2 m3 : List Mv)
    (HA1 : ∀ u, BlAt u vf fr → LsAt u vi imp → Calls Try.prog 11 #[vf, vi] u (RetA 36 u E1 m1))
    (HA2 : ∀ v u, BlAt u v (fr.set (d % fr.length) true) → LsAt u vi imp → Calls Try.prog 11 #[v, vi] u (RetA 36 u E2 m2))
    (HA3 : ∀ v u, BlAt u vf fr → LsAt u v (imp.set (d % fr.length) []) → Calls Try.prog 11 #[vf, v] u (RetA 36 u E3 m3))
    (hres : (E1 != 0) = true ∨ ((E1 != 0) = false ∧ (E2 == 0) = true ∧ (E3 == 0) = true)) : Calls Try.prog 6 #[vf, vi, .int .u16 d] W fun e w' => e = .returned (.bool true) ∧ Below W.heap.size W w' := by
  have q400 : fr.length ≤ 400 := (fewT_iff.1 hf).1
  have G1 := Lib.hid h1
  have G2 := Lib.hid h2
  have HF := Lib.hid (fun u (q1 : BlAt u vf fr) (q2 : LsAt u vi imp) => show Calls Try.prog 10 #[vf, vi] u fun e w' => e = .returned (.bool true) ∧ u = w' from hf ▸ r22few_any fr imp vf vi u q1 q2)
  clear hf
  have HA1 := Lib.hid HA1
  have HA2 := Lib.hid HA2
  have HA3 := Lib.hid HA3
  obtain ⟨i0, hi, hz0, hz1, hz2⟩ := info_parts infoBool
  obtain ⟨j0, ji, jz0, jz1, jz2⟩ := info_parts infoInts
  have h1' := h1
  obtain ⟨A1, c1, hvf, -, -, n3⟩ := h1
  obtain ⟨b1, o1, rfl, hb1, -⟩ := n3 0 h0
  subst hvf
  have h2' := h2
  obtain ⟨f, ⟨A2, c2, hvi, -, -, n4⟩, n5⟩ := h2
  obtain ⟨b2, o2, rfl, hb2, -⟩ := n4 0 (by omega)
  subst hvi
  have N4 := Lib.hid (fun i hi => show W.cell? ⟨b2, o2 + i, none⟩ = some (f i) by
    obtain ⟨b, o, e1, e2, e3⟩ := n4 i hi
    obtain ⟨rfl, rfl⟩ : b2 = b ∧ o2 = o := by simpa using e1
    exact e3)
  have N5 := Lib.hid n5
  have HB := Lib.hid h1'
  have HNW := Lib.hid (fun W' (hb : Below W.heap.size W W') => h1'.news rfl hb)
  obtain ⟨n, hn⟩ : ∃ n, fr.length = n := ⟨_, rfl⟩
  obtain ⟨k, hk⟩ : ∃ k, d % n = k := ⟨_, rfl⟩
  have hkn : k < n := by rw [← hk]; exact Nat.mod_lt _ (by omega)
  have hmod : (d : Int) % (n : Int) = (k : Int) := by rw [← hk]; simp
  have HLen := Lib.hid hl
  have HFr := Lib.hid hn
  have k1 : ((n : Int) == 0) = false := beq_eq_false_iff_ne.2 (by omega)
  have k2 : ((n : Int) != (n : Int)) = false := by simp
  have k3 : ¬ n = 0 := by omega
  rw [hn, hk] at HA2 HA3
  rw [← hl] at N4 N5 G2 HF HA1 HA2
  rw [hn] at q400 N4 N5 G1 G2 HF HA1 HA2 HB
  rw [← hl, hn]
  have q400' : n ≤ 400 := q400
  clear n3 n4 n5 h1' h2' hl hk hn h0
  go_enter Try.func6, Try.ntmps6
  go_wp2_with fail
  refine (c22awake_any M _).mono ?_
  rintro e w1 ⟨rfl, hb⟩
  have S1 := Lib.hid hb
  clear hb
  go_wp2_with fail
  refine (HF.out _ (G1.out.on S1.out) (G2.out.on S1.out)).mono ?_
  rintro e wq ⟨rfl, rfl⟩
  go_wp2_with fail
  refine (HA1.out _ (G1.out.on S1.out) (G2.out.on S1.out)).mono ?_
  rintro e w2 ⟨v2, rfl, -, hb⟩
  have S2 := Lib.hid (below_on S1.out hb)
  clear hb
  have OW2 := Lib.hid (own_empty w2 4 1)
  have BA2 := Lib.hid ((Below.refl w2.heap.size w2).alloc (Nat.le_refl _) (.cells #[] 4))
  have HN2 := Lib.hid (HNW.out _ (below_on S2.out BA2.out))
  have SW2 := Lib.hid S2.out.size
  go_wp2_with (first
    |
      (at_builtin
       refine wpList_append_own _ rfl _ _ 22 rfl w2.heap.size 4 i0 (.bool false) 1 1 Try.underlying22 hi hz0 hz1 hz2 rfl (by decide) _ 0 [] rfl OW2.out ⟨b1, o1, none⟩ n c1 (fr.map Value.bool) rfl (by simp [HFr.out]) HN2.out (fun u hu => by obtain ⟨x, _, rfl⟩ := List.mem_map.1 hu; rfl) (by unfold maxLen; omega) (by omega) (by simp) ?_
       intro v0 w3 hown' hgrow hnn
       have hv0 : OwB w2.heap.size v0 fr w3 := (by rw [OwB, HFr.out, ← Nat.zero_add n]; exact hown')
       have hb0 := (BA2.out.grown hgrow (by simp) (fun k e => (World.ownsRow.lt OW2.out k e).1))
       obtain ⟨gM, cM, rfl, hg1, hg2⟩ := hv0.in (fun e => by have := (hnn.1 e).2; omega)
       rw [HFr.out] at hv0 ⊢
       have V3 := Lib.hid hv0
       have N3 := Lib.hid hb0
       have hcM := hv0.cell (show k < fr.length by rw [HFr.out]; exact hkn)
       have hzM := hv0.fz HFr.out k
       clear hown' hgrow hnn hv0 hb0)
    |
      (at_builtin
       have V4 : Hid (OwB w2.heap.size (.slice (some ⟨gM, 0, none⟩) n cM) (fr.set k true) (w3.setCell ⟨gM, k, none⟩ (.bool true))) := Lib.hid (by
         have h := V3.out
         rw [← HFr.out] at h
         have := OwB.set h k true
         rw [List.length_set] at this
         rwa [HFr.out] at this)
       have S4 : Hid (Below W.heap.size W (w3.setCell ⟨gM, k, none⟩ (.bool true))) := Lib.hid ((below_on S2.out N3.out).setCell (p := ⟨gM, k, none⟩) (Nat.le_trans SW2.out hg1) _)
       have hgM : gM < (w3.setCell ⟨gM, k, none⟩ (.bool true)).heap.size := by simpa using hg2
       clear hcM hzM
       have hsz4 : (w3.setCell ⟨gM, k, none⟩ (.bool true)).heap.size = w3.heap.size := by simp
       generalize w3.setCell ⟨gM, k, none⟩ (.bool true) = w4 at *
       have HSZ4 := Lib.hid hsz4
       clear hsz4
       have OW4 : Hid ((w4.alloc (.cells #[] 40)).ownsRow w4.heap.size 40 1 (.slice (some ⟨w3.heap.size, 0, none⟩) 0 0) 0 []) := Lib.hid (by
         have h := own_empty w4 40 1
         rw [show (⟨w4.heap.size, 0, none⟩ : Addr) = ⟨w3.heap.size, 0, none⟩ by rw [HSZ4.out]] at h
         exact h)
       have BA4 := Lib.hid ((Below.refl w4.heap.size w4).alloc (Nat.le_refl _) (.cells #[] 40))
       have HN4 : Hid (∀ j u, ((List.range n).map f)[j]? = some u → (w4.alloc (.cells #[] 40)).cell? ((⟨b2, o2, none⟩ : Addr).add j) = some u) := Lib.hid (fun j u hu => by
         obtain ⟨hj, he⟩ := List.getElem?_eq_some_iff.1 hu
         have hjn : j < n := by simpa using hj
         have : f j = u := by simpa using he
         rw [add_none, ← this]
         exact cell_below (cell_below (N4.out j hjn) S4.out) BA4.out)
       have HO4 : Hid (∀ u ∈ (List.range n).map f, u.oneCell' = true) := Lib.hid (fun u hu => by
         obtain ⟨i, hi', rfl⟩ := List.mem_map.1 hu
         obtain ⟨A, c, e, _⟩ := N5.out i (List.mem_range.1 hi')
         rw [e]; rfl)
       have SW4 := Lib.hid S4.out.size
       have hgM4 := Lib.hid hgM
       clear hgM hg1 hg2
       refine wpList_append_own _ rfl _ _ 23 rfl w4.heap.size 40 j0 (.slice none 0 0) 1 24 Try.underlying23 ji jz0 jz1 jz2 rfl (by decide) (.slice (some ⟨w3.heap.size, 0, none⟩) 0 0) 0 [] rfl OW4.out ⟨b2, o2, none⟩ n c2 ((List.range n).map f) rfl (by simp) HN4.out HO4.out (by unfold maxLen; omega) (by omega) (by simp) ?_
       intro v5 w5 hown' hgrow hnn
       have hv5 : w5.ownsRow w4.heap.size 40 1 v5 n ((List.range n).map f) := (by rw [← Nat.zero_add n]; simpa using hown')
       have hb5 := (BA4.out.grown hgrow (by simp) (fun k e => (World.ownsRow.lt OW4.out k e).1))
       have hV5 := (V4.out.al _).other hgrow (fun e => by have := hgM4.out; have := HSZ4.out; simp [Value.ownBlock] at e; omega)
       obtain ⟨gN, cN, rfl, hg1, hg2⟩ := own_in hv5 (fun e => by have := (hnn.1 e).2; omega)
       have V5 := Lib.hid hv5
       have N5' := Lib.hid hb5
       have M5 := Lib.hid hV5
       have hcN := World.ownsRow.cells hv5 (g := gN) rfl k (f k) (by rw [List.getElem?_map, List.getElem?_range hkn]; rfl)
       rw [add_none, Nat.zero_add] at hcN
       have hzN := World.ownsRow.frozenAt hv5 k
       have hg1' := Lib.hid hg1
       have hfk := N5.out k hkn
       obtain ⟨Ak, ck, hfe, -⟩ := hfk
       rw [hfe] at hcN
       clear hown' hgrow hnn hv5 hb5 hV5 hg1 hfe))
  have S6 : Hid (Below W.heap.size W (w5.setCell ⟨gN, k, none⟩ (.slice none 0 0))) := Lib.hid ((below_on S4.out N5'.out).setCell (p := ⟨gN, k, none⟩) (Nat.le_trans SW4.out hg1'.out) _)
  have M6 : Hid (BlAt (w5.setCell ⟨gN, k, none⟩ (.slice none 0 0)) (.slice (some ⟨gM, 0, none⟩) n cM) (fr.set k true)) := Lib.hid (by
    have h := own_set (p := ⟨gN, k, none⟩) M5.out (fun e => by have := hgM4.out; have := hg1'.out; simp [Value.ownBlock] at e; omega) (.slice none 0 0)
    exact OwB.at h)
  have L6 : Hid (LsAt (w5.setCell ⟨gN, k, none⟩ (.slice none 0 0)) (.slice (some ⟨gN, 0, none⟩) n cN) (imp.set k [])) := Lib.hid (own_lists (World.ownsRow.stored V5.out k (.slice none 0 0)).1 (by simp) _ (by rw [List.length_set, ← HLen.out, HFr.out]) (fun i hi => by
    rw [List.getD_eq_getElem?_getD, List.getElem?_set, List.getD_eq_getElem?_getD (l := imp.set k []), List.getElem?_set]
    by_cases g : k = i
    · subst g
      rw [if_pos rfl, if_pos rfl, if_pos (by simpa using hkn), if_pos (by rw [← HLen.out, HFr.out]; exact hkn)]
      exact in_nil _
    · rw [if_neg g, if_neg g, ← List.getD_eq_getElem?_getD, ← List.getD_eq_getElem?_getD, range_map_get f n i _ hi]
      exact (N5.out i hi).on S6.out))
  clear hcN hzN
  generalize w5.setCell ⟨gN, k, none⟩ (.slice none 0 0) = w6 at *
  refine (HA2.out _ _ M6.out (G2.out.on S6.out)).mono ?_
  rintro e w7 ⟨v7, rfl, -, hb⟩
  have S7 := Lib.hid (below_on S6.out hb)
  have L7 := Lib.hid (L6.out.on hb)
  clear hb
  go_wp2_with fail
  refine (HA3.out _ _ (G1.out.on S7.out) L7.out).mono ?_
  rintro e w8 ⟨v8, rfl, -, hb⟩
  have S8 := Lib.hid (below_on S7.out hb)
  clear hb
  rcases hres with h | ⟨h, h', h''⟩
  · go_wp2_with fail
    go_ret
    exact ⟨rfl, S8.out⟩
  · go_wp2_with fail
    go_ret
    exact ⟨rfl, S8.out⟩
theorem l22m_any (M : TP) (fr : List Bool) (imp : List (List Int)) (vf vi : Value) (d : Nat) (W : World) (hd : d < 65536) (h1 : BlAt W vf fr) (h2 : LsAt W vi imp) : Calls Try.prog 6 #[vf, vi, .int .u16 d] W fun e w' => e = .returned (.bool true) ∧ Below W.heap.size W w' := by
  cases hf : fewT fr imp
  · exact l22m_no M fr imp vf vi d W h1 h2 hf
  · rcases Nat.eq_zero_or_pos fr.length with h0 | h0
    · exact l22m_zero M fr imp vf vi d W h1 h2 hf h0
    · by_cases hl : fr.length = imp.length
      · have hk : d % fr.length < imp.length := by rw [← hl]; exact Nat.mod_lt _ h0
        refine l22m_ok M fr imp vf vi d W hd h1 h2 hf h0 hl (asE fr imp) (asE (fr.set (d % fr.length) true) imp) (asE fr (imp.set (d % fr.length) [])) _ _ _ (fun u q1 q2 => M.asg fr imp vf vi u q1 q2 hf) (fun v u q1 q2 => M.asg _ imp v vi u q1 q2 (few_more hf _ _)) (fun v u q1 q2 => M.asg fr _ vf v u q1 q2 (few_less hf _)) ?_
        cases hE : (asE fr imp != 0)
        · have h0' : asE fr imp = 0 := bne_eq_false_iff_eq.1 hE
          exact .inr ⟨rfl, by rw [more_free (sub_more fr _) h0']; rfl, by rw [fewer_jobs hk h0']; rfl⟩
        · exact .inl rfl
      · exact l22m_far M fr imp vf vi d W h1 h2 hf h0 hl
end Go.Proofs.Ytaifhikhdcnacaa
