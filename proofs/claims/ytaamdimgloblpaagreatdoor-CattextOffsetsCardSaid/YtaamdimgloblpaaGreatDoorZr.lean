/- The reference: Print. -/
import Derived.Test.YtaamdimgloblpaaGreatDoorZq
namespace Go.Proofs.YtaamdimgloblpaaGreatDoor
open Go.RowKit

theorem txS_j (t : Itm) : txS t = wSea ++ (t.id ++ (wSp ++ (itB t.x ++ (wSp ++ (itB t.y ++ (wSp ++ (txJ t.anc ++ wLf))))))) := by unfold txS; rw [txA_J]
theorem txF_j (t : Itm) : txF t = wFea ++ (t.id ++ (wSp ++ (itB t.x ++ (wSp ++ (txP t.y ++ (wSp ++ (txJ t.anc ++ wLf))))))) := by unfold txF; rw [txA_J]
theorem txs_le {f : Itm → ByteArray} {l : List Itm} (h : ∀ t ∈ l, (f t).size ≤ 140) (hl : l.length ≤ 1000) (k : Nat) : (txs f (l.take k)).size ≤ 140000 := by
  have h1 := txs_size f 140 (l.take k) fun t ht => h t (List.mem_of_mem_take ht)
  have h2 : (l.take k).length ≤ l.length := by rw [List.length_take]; omega
  omega
set_option maxRecDepth 100000 in
set_option maxHeartbeats 2000000 in
theorem r26pri {c : Cat} {v1 v2 : Value} {w : World} (h1 : SlAt w v1 c.ss) (h2 : SlAt w v2 c.fs) (ho : okCt c = true) (n1 : c.ss.length ≤ 1000) (n2 : c.fs.length ≤ 1000) :
    Calls Tryz.prog 11 #[.agg #[.int .i64 c.free, v1, v2]] w fun e w' => e = .returned (.string (txC c)) ∧ Below w.heap.size w w' := by
  obtain ⟨free, ss, fs⟩ := c
  unfold okCt at ho
  simp only [Bool.and_eq_true] at ho
  obtain ⟨hs, hg, hf⟩ := ho
  simp only at hf h1 h2 hs hg n1 n2 ⊢
  obtain ⟨A1, c1, rfl, _, _, a1⟩ := h1
  obtain ⟨A2, c2, rfl, _, _, a2⟩ := h2
  have Q1 := Lib.hid a1
  have Q2 := Lib.hid a2
  clear a1 a2
  have hs : ∀ t ∈ ss, okS t = true := List.all_eq_true.1 hs
  have hg : ∀ t ∈ fs, okF t = true := List.all_eq_true.1 hg
  have hs := Lib.hid hs
  have hg := Lib.hid hg
  have R0 := Lib.hid (heap_alloc_new w (.cells #[.int .i64 free, .slice A1 ss.length c1, .slice A2 fs.length c2] 25))
  have B0 := Lib.hid (al1 w (.cells #[.int .i64 free, .slice A1 ss.length c1, .slice A2 fs.length c2] 25))
  have HF := Lib.hid (fun u : World => r26tnu hf u)
  have zf := itB_size hf
  have eH : ∃ H, H = ((⟨#[99, 97, 116, 97, 108, 111, 103, 117, 101, 10, 102, 114, 101, 101, 32]⟩ : ByteArray) ++ itB free) ++ (⟨#[10]⟩ : ByteArray) := ⟨_, rfl⟩
  obtain ⟨H, eH⟩ := eH
  have hH : H.size ≤ 100 := by rw [eH]; simp only [ByteArray.size_append, litsz]; simp; omega
  have add1 := fun u : World => sadd (a := (⟨#[99, 97, 116, 97, 108, 111, 103, 117, 101, 10, 102, 114, 101, 101, 32]⟩ : ByteArray)) (b := itB free) (by simp only [litsz]; simp; omega) u
  have add2 : ∀ u : World, (Op.stringOp .add ((⟨#[99, 97, 116, 97, 108, 111, 103, 117, 101, 10, 102, 114, 101, 101, 32]⟩ : ByteArray) ++ itB free) (⟨#[10]⟩ : ByteArray)).run Tryz.prog u = .ok (.string H) u := fun u => by rw [eH]; exact sadd (by simp only [ByteArray.size_append, litsz]; simp; omega) u
  have eC : txC ⟨free, ss, fs⟩ = ((H ++ txs txS ss) ++ txs txF fs) ++ (⟨#[101, 110, 100, 10]⟩ : ByteArray) := by
    have q1 : (⟨#[99, 97, 116, 97, 108, 111, 103, 117, 101, 10, 102, 114, 101, 101, 32]⟩ : ByteArray) = wCat ++ wFre := rfl
    have q2 : (⟨#[10]⟩ : ByteArray) = wLf := rfl
    have q3 : (⟨#[101, 110, 100, 10]⟩ : ByteArray) = wEnd := rfl
    rw [eH, q1, q2, q3]
    unfold txC
    simp only [ByteArray.append_assoc]
  rw [eC]
  clear eC
  replace eH := Lib.hid eH
  generalize itB free = tf at *
  have hH := Lib.hid hH
  obtain ⟨Wz, hWz⟩ : ∃ u, u = w.alloc (.cells #[.int .i64 free, .slice A1 ss.length c1, .slice A2 fs.length c2] 25) := ⟨_, rfl⟩
  have g0 : Wz.cell? ⟨w.heap.size, 0, none⟩ = some (.int .i64 free) := by rw [hWz, cell_of_row _ _ _ _ _ _ R0.out]; rfl
  rw [← hWz] at R0 B0
  go_enter Tryz.func11, Tryz.ntmps11
  go_wp2_with fail
  rw [← hWz]
  clear hWz
  have hsw := Nat.lt_of_lt_of_le (Nat.lt_succ_self w.heap.size) (show w.heap.size + 1 ≤ Wz.heap.size from (row_lt R0.out))
  go_wp2_with (go_at_call 26; refine (HF.out _).mono ?_; rintro e w' ⟨rfl, rfl⟩)
  clear add1 add2 g0
  go_loopw [3, 4] (fun s i wr => ∃ k : Nat, k ≤ ss.length ∧ i = .int .i64 k ∧ s = .string (H ++ txs txS (ss.take k)) ∧ Below Wz.heap.size Wz wr) (fun _ i _ => ss.length - (intOf i).toNat)
  case atStart => exact ⟨0, Nat.zero_le _, rfl, by rw [List.take_zero]; show _ = Value.string (H ++ ByteArray.empty); rw [ByteArray.append_empty, eH.out], Below.refl _ _⟩
  case round =>
    obtain ⟨k, hk, rfl, rfl, hb⟩ := hrel
    have bc := below_on B0.out hb
    have hsz : (txs txS (ss.take k)).size ≤ 140000 := txs_le (fun t ht => txS_le (hs.out t ht)) n1 k
    have g1 : wr.cell? ⟨w.heap.size, 1, none⟩ = some (.slice A1 ss.length c1) := by rw [cell_of_row _ _ _ _ _ _ (row_kept R0.out hb)]; rfl
    have g2 : wr.cell? ⟨w.heap.size, 2, none⟩ = some (.slice A2 fs.length c2) := by rw [cell_of_row _ _ _ _ _ _ (row_kept R0.out hb)]; rfl
    by_cases hlt : k < ss.length
    · obtain ⟨c, hc⟩ : ∃ c, ss[k]? = some c := ⟨_, List.getElem?_eq_getElem hlt⟩
      obtain ⟨b, p, hA, hl1, hit⟩ := Q1.out k c hc
      subst hA
      have C1 := hit.on bc hl1
      have hok := hs.out c (List.mem_of_getElem? hc)
      have htk := txs_take txS ss k c hc
      rw [txS_j] at htk
      obtain ⟨id, x, y, a1, a2, a3, a4, a5, a6⟩ := c
      obtain ⟨q0, q1, q2, q3, q4, q5, q6, q7, q8⟩ := C1.nine
      clear C1 hit hl1 hc
      unfold okS at hok
      simp only [Bool.and_eq_true] at hok
      obtain ⟨hid, hx, hy, ha⟩ := hok
      have HX := Lib.hid (fun u : World => r26tnu hx u)
      have HY := Lib.hid (fun u : World => r26tnu hy u)
      have HA := Lib.hid (fun u : World => r26anc_t u ha)
      have zi := idn_size hid
      have zx := itB_size hx
      have zy := itB_size hy
      have za := txJ_size ha
      simp only [Itm.anc] at htk HA za zi
      clear hid hx hy ha
      generalize hX : itB x = tx at *
      generalize hY : itB y = ty at *
      generalize hZ : txJ ⟨a1, a2, a3, a4, a5, a6⟩ = ta at *
      have zH := hH.out
      generalize txs txS (ss.take k) = T at *
      have y0 : (H ++ T).size ≤ 290000 := by rw [ByteArray.size_append]; omega
      have y1 : (⟨#[115, 101, 97, 115, 111, 110, 32]⟩ : ByteArray).size = 7 := rfl
      have y2 : (⟨#[32]⟩ : ByteArray).size = 1 := rfl
      have y3 : (⟨#[10]⟩ : ByteArray).size = 1 := rfl
      obtain ⟨d1, ed1⟩ : ∃ d, d = (H ++ T) ++ (⟨#[115, 101, 97, 115, 111, 110, 32]⟩ : ByteArray) := ⟨_, rfl⟩
      have zd1 : d1.size ≤ 300100 := by rw [ed1, ByteArray.size_append]; omega
      have add1 : ∀ u : World, (Op.stringOp .add (H ++ T) (⟨#[115, 101, 97, 115, 111, 110, 32]⟩ : ByteArray)).run Tryz.prog u = .ok (.string d1) u := fun u => by rw [ed1]; exact sadd (by omega) u
      obtain ⟨d2, ed2⟩ : ∃ d, d = d1 ++ id := ⟨_, rfl⟩
      have zd2 : d2.size ≤ 300200 := by rw [ed2, ByteArray.size_append]; omega
      have add2 : ∀ u : World, (Op.stringOp .add d1 id).run Tryz.prog u = .ok (.string d2) u := fun u => by rw [ed2]; exact sadd (by omega) u
      obtain ⟨d3, ed3⟩ : ∃ d, d = d2 ++ (⟨#[32]⟩ : ByteArray) := ⟨_, rfl⟩
      have zd3 : d3.size ≤ 300300 := by rw [ed3, ByteArray.size_append]; omega
      have add3 : ∀ u : World, (Op.stringOp .add d2 (⟨#[32]⟩ : ByteArray)).run Tryz.prog u = .ok (.string d3) u := fun u => by rw [ed3]; exact sadd (by omega) u
      obtain ⟨d4, ed4⟩ : ∃ d, d = d3 ++ tx := ⟨_, rfl⟩
      have zd4 : d4.size ≤ 300400 := by rw [ed4, ByteArray.size_append]; omega
      have add4 : ∀ u : World, (Op.stringOp .add d3 tx).run Tryz.prog u = .ok (.string d4) u := fun u => by rw [ed4]; exact sadd (by omega) u
      obtain ⟨d5, ed5⟩ : ∃ d, d = d4 ++ (⟨#[32]⟩ : ByteArray) := ⟨_, rfl⟩
      have zd5 : d5.size ≤ 300500 := by rw [ed5, ByteArray.size_append]; omega
      have add5 : ∀ u : World, (Op.stringOp .add d4 (⟨#[32]⟩ : ByteArray)).run Tryz.prog u = .ok (.string d5) u := fun u => by rw [ed5]; exact sadd (by omega) u
      obtain ⟨d6, ed6⟩ : ∃ d, d = d5 ++ ty := ⟨_, rfl⟩
      have zd6 : d6.size ≤ 300600 := by rw [ed6, ByteArray.size_append]; omega
      have add6 : ∀ u : World, (Op.stringOp .add d5 ty).run Tryz.prog u = .ok (.string d6) u := fun u => by rw [ed6]; exact sadd (by omega) u
      obtain ⟨d7, ed7⟩ : ∃ d, d = d6 ++ (⟨#[32]⟩ : ByteArray) := ⟨_, rfl⟩
      have zd7 : d7.size ≤ 300700 := by rw [ed7, ByteArray.size_append]; omega
      have add7 : ∀ u : World, (Op.stringOp .add d6 (⟨#[32]⟩ : ByteArray)).run Tryz.prog u = .ok (.string d7) u := fun u => by rw [ed7]; exact sadd (by omega) u
      obtain ⟨d8, ed8⟩ : ∃ d, d = d7 ++ ta := ⟨_, rfl⟩
      have zd8 : d8.size ≤ 300800 := by rw [ed8, ByteArray.size_append]; omega
      have add8 : ∀ u : World, (Op.stringOp .add d7 ta).run Tryz.prog u = .ok (.string d8) u := fun u => by rw [ed8]; exact sadd (by omega) u
      obtain ⟨d9, ed9⟩ : ∃ d, d = d8 ++ (⟨#[10]⟩ : ByteArray) := ⟨_, rfl⟩
      have zd9 : d9.size ≤ 300900 := by rw [ed9, ByteArray.size_append]; omega
      have add9 : ∀ u : World, (Op.stringOp .add d8 (⟨#[10]⟩ : ByteArray)).run Tryz.prog u = .ok (.string d9) u := fun u => by rw [ed9]; exact sadd (by omega) u
      have eD : H ++ txs txS (ss.take (k + 1)) = d9 := by
        have w1 : (⟨#[115, 101, 97, 115, 111, 110, 32]⟩ : ByteArray) = wSea := rfl
        have w2 : (⟨#[32]⟩ : ByteArray) = wSp := rfl
        have w3 : (⟨#[10]⟩ : ByteArray) = wLf := rfl
        rw [htk, ed9, ed8, ed7, ed6, ed5, ed4, ed3, ed2, ed1, w1, w2, w3]
        simp only [ByteArray.append_assoc]
      replace eD := Lib.hid eD
      clear y0 y1 y2 y3
      clear htk ed1 ed2 ed3 ed4 ed5 ed6 ed7 ed8 ed9 zd1 zd2 zd3 zd4 zd5 zd6 zd7 zd8 zd9 zi zx zy za zH
      have S0 := Lib.hid ((show SB wr.heap.size 38 id x y a1 a2 a3 a4 a5 a6 (wr.alloc (.cells #[.string id, .int .i64 x, .int .i64 y, .int .i64 a1, .int .i64 a2, .int .i64 a3, .int .i64 a4, .int .i64 a5, .int .i64 a6] 38)) from ⟨heap_alloc_new _ _⟩).on (below_dn (Below.refl _ _) 1))
      have bA := Lib.hid (below_dn (below_on hb (al1 wr (.cells #[.string id, .int .i64 x, .int .i64 y, .int .i64 a1, .int .i64 a2, .int .i64 a3, .int .i64 a4, .int .i64 a5, .int .i64 a6] 38))) 1)
      clear hb bc
      go_wp2_with fail
      clear q0 q1 q2 q3 q4 q5 q6 q7 q8 g1 g2
      refine wp_region_held_drew (S := fun u => SB wr.heap.size 38 id x y a1 a2 a3 a4 a5 a6 u) (by kernel_rfl) S0.out (fun hHeld => ?_)
      refine wpAnyH_take (i := 0) (oi := { dst := some 25, op := _, type := _, pos := _, after := _, guard := _ }) (v := ?v1_0) rfl (by kernel_rfl) (by kernel_rfl) (by kernel_rfl) (fun _ _ _ h => h) (Or.inl ⟨by rfl, ?hy1_0⟩) hHeld ?_
      case hy1_0 => (intro w hSw; obtain ⟨s0, s1, s2, s3, s4, s5, s6, s7, s8⟩ := (SB.cells hSw); go_simp; try with_reducible rfl)
      simp only [Act.put, List.setIfInBounds_toArray, List.set_cons_zero, List.set_cons_succ]
      refine wpAnyH_take (i := 1) (oi := { dst := some 26, op := _, type := _, pos := _, after := _, guard := _ }) (v := ?v1_1) rfl (by kernel_rfl) (by kernel_rfl) (by kernel_rfl) (fun _ _ _ h => h) (Or.inl ⟨by rfl, ?hy1_1⟩) hHeld ?_
      case hy1_1 => (intro w hSw; obtain ⟨s0, s1, s2, s3, s4, s5, s6, s7, s8⟩ := (SB.cells hSw); go_simp; try with_reducible rfl)
      simp only [Act.put, List.setIfInBounds_toArray, List.set_cons_zero, List.set_cons_succ]
      refine wpAnyH_take (i := 2) (oi := { dst := some 27, op := _, type := _, pos := _, after := _, guard := _ }) (v := ?v1_2) rfl (by kernel_rfl) (by kernel_rfl) (by kernel_rfl) (fun _ _ _ h => h) (Or.inl ⟨by rfl, ?hy1_2⟩) hHeld ?_
      case hy1_2 => (intro w hSw; obtain ⟨s0, s1, s2, s3, s4, s5, s6, s7, s8⟩ := (SB.cells hSw); go_simp; try with_reducible rfl)
      simp only [Act.put, List.setIfInBounds_toArray, List.set_cons_zero, List.set_cons_succ]
      refine wpAnyH_take (i := 3) (oi := { dst := some 28, op := _, type := _, pos := _, after := _, guard := _ }) (v := ?v1_3) rfl (by kernel_rfl) (by kernel_rfl) (by kernel_rfl) (fun _ _ _ h => h) (Or.inl ⟨by rfl, ?hy1_3⟩) hHeld ?_
      case hy1_3 => (intro w hSw; obtain ⟨s0, s1, s2, s3, s4, s5, s6, s7, s8⟩ := (SB.cells hSw); go_simp; try with_reducible rfl)
      simp only [Act.put, List.setIfInBounds_toArray, List.set_cons_zero, List.set_cons_succ]
      refine wpAnyH_take (i := 4) (oi := { dst := some 29, op := _, type := _, pos := _, after := _, guard := _ }) (v := ?v1_4) rfl (by kernel_rfl) (by kernel_rfl) (by kernel_rfl) (fun _ _ _ h => h) (Or.inl ⟨by rfl, ?hy1_4⟩) hHeld ?_
      case hy1_4 => (intro w hSw; obtain ⟨s0, s1, s2, s3, s4, s5, s6, s7, s8⟩ := (SB.cells hSw); go_simp; try with_reducible rfl)
      simp only [Act.put, List.setIfInBounds_toArray, List.set_cons_zero, List.set_cons_succ]
      refine wpAnyH_take (i := 5) (oi := { dst := some 30, op := _, type := _, pos := _, after := _, guard := _ }) (v := ?v1_5) rfl (by kernel_rfl) (by kernel_rfl) (by kernel_rfl) (fun _ _ _ h => h) (Or.inl ⟨by rfl, ?hy1_5⟩) hHeld ?_
      case hy1_5 => (intro w hSw; obtain ⟨s0, s1, s2, s3, s4, s5, s6, s7, s8⟩ := (SB.cells hSw); go_simp; try with_reducible rfl)
      simp only [Act.put, List.setIfInBounds_toArray, List.set_cons_zero, List.set_cons_succ]
      refine wpAnyH_take (i := 6) (oi := { dst := some 31, op := _, type := _, pos := _, after := _, guard := _ }) (v := ?v1_6) rfl (by kernel_rfl) (by kernel_rfl) (by kernel_rfl) (fun _ _ _ h => h) (Or.inl ⟨by rfl, ?hy1_6⟩) hHeld ?_
      case hy1_6 => (intro w hSw; obtain ⟨s0, s1, s2, s3, s4, s5, s6, s7, s8⟩ := (SB.cells hSw); go_simp; try with_reducible rfl)
      simp only [Act.put, List.setIfInBounds_toArray, List.set_cons_zero, List.set_cons_succ]
      refine wpAnyH_take (i := 7) (oi := { dst := some 32, op := _, type := _, pos := _, after := _, guard := _ }) (v := ?v1_7) rfl (by kernel_rfl) (by kernel_rfl) (by kernel_rfl) (fun _ _ _ h => h) (Or.inl ⟨by rfl, ?hy1_7⟩) hHeld ?_
      case hy1_7 => (intro w hSw; obtain ⟨s0, s1, s2, s3, s4, s5, s6, s7, s8⟩ := (SB.cells hSw); go_simp; try with_reducible rfl)
      simp only [Act.put, List.setIfInBounds_toArray, List.set_cons_zero, List.set_cons_succ]
      refine wpAnyH_take (i := 11) (oi := { dst := some 36, op := _, type := _, pos := _, after := _, guard := _ }) (v := ?v1_11) rfl (by kernel_rfl) (by kernel_rfl) (by kernel_rfl) (fun _ _ _ h => h) (Or.inl ⟨by rfl, ?hy1_11⟩) hHeld ?_
      case hy1_11 => (intro w hSw; obtain ⟨s0, s1, s2, s3, s4, s5, s6, s7, s8⟩ := (SB.cells hSw); go_simp; try with_reducible rfl)
      simp only [Act.put, List.setIfInBounds_toArray, List.set_cons_zero, List.set_cons_succ]
      refine wpAnyH_take (i := 12) (oi := { dst := some 37, op := _, type := _, pos := _, after := _, guard := _ }) (v := ?v1_12) rfl (by kernel_rfl) (by kernel_rfl) (by kernel_rfl) (fun _ _ _ h => h) (Or.inl ⟨by rfl, ?hy1_12⟩) hHeld ?_
      case hy1_12 => (intro w hSw; obtain ⟨s0, s1, s2, s3, s4, s5, s6, s7, s8⟩ := (SB.cells hSw); go_simp; try with_reducible rfl)
      simp only [Act.put, List.setIfInBounds_toArray, List.set_cons_zero, List.set_cons_succ]
      refine wpAnyH_take (i := 16) (oi := { dst := some 41, op := _, type := _, pos := _, after := _, guard := _ }) (v := ?v1_16) rfl (by kernel_rfl) (by kernel_rfl) (by kernel_rfl) (fun _ _ _ h => h) (Or.inl ⟨by rfl, ?hy1_16⟩) hHeld ?_
      case hy1_16 => (intro w hSw; obtain ⟨s0, s1, s2, s3, s4, s5, s6, s7, s8⟩ := (SB.cells hSw); go_simp; try with_reducible rfl)
      simp only [Act.put, List.setIfInBounds_toArray, List.set_cons_zero, List.set_cons_succ]
      refine wpAnyH_take (i := 17) (oi := { dst := some 42, op := _, type := _, pos := _, after := _, guard := _ }) (v := ?v1_17) rfl (by kernel_rfl) (by kernel_rfl) (by kernel_rfl) (fun _ _ _ h => h) (Or.inl ⟨by rfl, ?hy1_17⟩) hHeld ?_
      case hy1_17 => (intro w hSw; obtain ⟨s0, s1, s2, s3, s4, s5, s6, s7, s8⟩ := (SB.cells hSw); go_simp; try with_reducible rfl)
      simp only [Act.put, List.setIfInBounds_toArray, List.set_cons_zero, List.set_cons_succ]
      refine wpAnyH_ready (rs := [8]) (by kernel_rfl) (by simp) ?_
      refine AllReadyH.cons (o := { dst := some 33, op := _, type := _, pos := _, after := _, guard := _ }) rfl (fun K hK => ?_) AllReadyH.nil
      go_simp
      go_at_call 26
      refine (HX.out _).mono ?_
      rintro ee0 u0 ⟨rfl, rfl⟩
      refine hK.out _ _ S0.out (fun hHeld => ?_)
      clear hK K
      refine wpAnyH_take (i := 9) (oi := { dst := some 34, op := _, type := _, pos := _, after := _, guard := _ }) (v := ?v1_9) rfl (by kernel_rfl) (by kernel_rfl) (by kernel_rfl) (fun _ _ _ h => h) (Or.inl ⟨by rfl, ?hy1_9⟩) hHeld ?_
      case hy1_9 => (intro w hSw; obtain ⟨s0, s1, s2, s3, s4, s5, s6, s7, s8⟩ := (SB.cells hSw); go_simp; try with_reducible rfl)
      simp only [Act.put, List.setIfInBounds_toArray, List.set_cons_zero, List.set_cons_succ]
      refine wpAnyH_take (i := 10) (oi := { dst := some 35, op := _, type := _, pos := _, after := _, guard := _ }) (v := ?v1_10) rfl (by kernel_rfl) (by kernel_rfl) (by kernel_rfl) (fun _ _ _ h => h) (Or.inl ⟨by rfl, ?hy1_10⟩) hHeld ?_
      case hy1_10 => (intro w hSw; obtain ⟨s0, s1, s2, s3, s4, s5, s6, s7, s8⟩ := (SB.cells hSw); go_simp; try with_reducible rfl)
      simp only [Act.put, List.setIfInBounds_toArray, List.set_cons_zero, List.set_cons_succ]
      refine wpAnyH_ready (rs := [13]) (by kernel_rfl) (by simp) ?_
      refine AllReadyH.cons (o := { dst := some 38, op := _, type := _, pos := _, after := _, guard := _ }) rfl (fun K hK => ?_) AllReadyH.nil
      go_simp
      go_at_call 26
      refine (HY.out _).mono ?_
      rintro ee1 u1 ⟨rfl, rfl⟩
      refine hK.out _ _ S0.out (fun hHeld => ?_)
      clear hK K
      refine wpAnyH_take (i := 14) (oi := { dst := some 39, op := _, type := _, pos := _, after := _, guard := _ }) (v := ?v1_14) rfl (by kernel_rfl) (by kernel_rfl) (by kernel_rfl) (fun _ _ _ h => h) (Or.inl ⟨by rfl, ?hy1_14⟩) hHeld ?_
      case hy1_14 => (intro w hSw; obtain ⟨s0, s1, s2, s3, s4, s5, s6, s7, s8⟩ := (SB.cells hSw); go_simp; try with_reducible rfl)
      simp only [Act.put, List.setIfInBounds_toArray, List.set_cons_zero, List.set_cons_succ]
      refine wpAnyH_take (i := 15) (oi := { dst := some 40, op := _, type := _, pos := _, after := _, guard := _ }) (v := ?v1_15) rfl (by kernel_rfl) (by kernel_rfl) (by kernel_rfl) (fun _ _ _ h => h) (Or.inl ⟨by rfl, ?hy1_15⟩) hHeld ?_
      case hy1_15 => (intro w hSw; obtain ⟨s0, s1, s2, s3, s4, s5, s6, s7, s8⟩ := (SB.cells hSw); go_simp; try with_reducible rfl)
      simp only [Act.put, List.setIfInBounds_toArray, List.set_cons_zero, List.set_cons_succ]
      refine wpAnyH_ready (rs := [18]) (by kernel_rfl) (by simp) ?_
      refine AllReadyH.cons (o := { dst := some 43, op := _, type := _, pos := _, after := _, guard := _ }) rfl (fun K hK => ?_) AllReadyH.nil
      go_simp
      go_at_call 27
      refine (HA.out _).mono ?_
      rintro ee2 u2 ⟨rfl, hb2⟩
      have ss2 := S0.out.on hb2
      have bb2 := Lib.hid (below_on bA.out hb2)
      clear hb2
      refine hK.out _ _ ss2 (fun hHeld => ?_)
      clear hK K
      refine wpAnyH_take (i := 19) (oi := { dst := some 44, op := _, type := _, pos := _, after := _, guard := _ }) (v := ?v1_19) rfl (by kernel_rfl) (by kernel_rfl) (by kernel_rfl) (fun _ _ _ h => h) (Or.inl ⟨by rfl, ?hy1_19⟩) hHeld ?_
      case hy1_19 => (intro w hSw; obtain ⟨s0, s1, s2, s3, s4, s5, s6, s7, s8⟩ := (SB.cells hSw); go_simp; try with_reducible rfl)
      simp only [Act.put, List.setIfInBounds_toArray, List.set_cons_zero, List.set_cons_succ]
      refine wpAnyH_take (i := 20) (oi := { dst := some 45, op := _, type := _, pos := _, after := _, guard := _ }) (v := ?v1_20) rfl (by kernel_rfl) (by kernel_rfl) (by kernel_rfl) (fun _ _ _ h => h) (Or.inl ⟨by rfl, ?hy1_20⟩) hHeld ?_
      case hy1_20 => (intro w hSw; obtain ⟨s0, s1, s2, s3, s4, s5, s6, s7, s8⟩ := (SB.cells hSw); go_simp; try with_reducible rfl)
      simp only [Act.put, List.setIfInBounds_toArray, List.set_cons_zero, List.set_cons_succ]
      refine wpAnyH_ready (rs := [21]) (by kernel_rfl) (by simp) ?_
      refine AllReadyH.cons (o := { dst := some 3, op := _, type := _, pos := _, after := _, guard := _ }) rfl (fun K hK => ?_) AllReadyH.nil
      go_simp
      refine hK.out _ _ ss2 (fun hHeld => ?_)
      clear hK K
      refine wpAnyH_done (by kernel_rfl) ?_ _
      go_wp2_with fail
      go_roundw
      case rel => exact ⟨k + 1, by omega, by go_num, by rw [eD.out], bb2.out⟩
      case measure => simp [intOf]; omega
    · obtain rfl : k = ss.length := by omega
      rw [List.take_length] at hsz ⊢
      have hH2 : (H ++ txs txS ss).size ≤ 140100 := by have := hH.out; rw [ByteArray.size_append]; omega
      have hH2 := Lib.hid hH2
      generalize hE2 : H ++ txs txS ss = H2 at *
      replace hE2 := Lib.hid hE2
      clear hsz bc
      go_wp2_with fail
      clear g1 g2
      go_loopw [3, 6] (fun s i wr => ∃ k : Nat, k ≤ fs.length ∧ i = .int .i64 k ∧ s = .string (H2 ++ txs txF (fs.take k)) ∧ Below Wz.heap.size Wz wr) (fun _ i _ => fs.length - (intOf i).toNat)
      case atStart => exact ⟨0, Nat.zero_le _, rfl, by rw [List.take_zero]; show _ = Value.string (H2 ++ ByteArray.empty); rw [ByteArray.append_empty], hb⟩
      case round =>
        obtain ⟨k, hk, rfl, rfl, hb⟩ := hrel
        have bc := below_on B0.out hb
        have hsz : (txs txF (fs.take k)).size ≤ 140000 := txs_le (fun t ht => txF_le (hg.out t ht)) n2 k
        have g1 : wr.cell? ⟨w.heap.size, 1, none⟩ = some (.slice A1 ss.length c1) := by rw [cell_of_row _ _ _ _ _ _ (row_kept R0.out hb)]; rfl
        have g2 : wr.cell? ⟨w.heap.size, 2, none⟩ = some (.slice A2 fs.length c2) := by rw [cell_of_row _ _ _ _ _ _ (row_kept R0.out hb)]; rfl
        by_cases hlt : k < fs.length
        · obtain ⟨c, hc⟩ : ∃ c, fs[k]? = some c := ⟨_, List.getElem?_eq_getElem hlt⟩
          obtain ⟨b, p, hA, hl1, hit⟩ := Q2.out k c hc
          subst hA
          have C1 := hit.on bc hl1
          have hok := hg.out c (List.mem_of_getElem? hc)
          have htk := txs_take txF fs k c hc
          rw [txF_j] at htk
          obtain ⟨id, x, y, a1, a2, a3, a4, a5, a6⟩ := c
          obtain ⟨q0, q1, q2, q3, q4, q5, q6, q7, q8⟩ := C1.nine
          clear C1 hit hl1 hc
          unfold okF at hok
          simp only [Bool.and_eq_true] at hok
          obtain ⟨hid, hx, hy, ha⟩ := hok
          have HX := Lib.hid (fun u : World => r26tnu hx u)
          have HY := Lib.hid (fun u : World => r26pol y u)
          have HA := Lib.hid (fun u : World => r26anc_t u ha)
          have zi := idn_size hid
          have zx := itB_size hx
          have zy := txP_size y
          have za := txJ_size ha
          simp only [Itm.anc] at htk HA za zi
          clear hid hx hy ha
          generalize hX : itB x = tx at *
          generalize hY : txP y = ty at *
          generalize hZ : txJ ⟨a1, a2, a3, a4, a5, a6⟩ = ta at *
          have zH := hH2.out
          generalize txs txF (fs.take k) = T at *
          have y0 : (H2 ++ T).size ≤ 290000 := by rw [ByteArray.size_append]; omega
          have y1 : (⟨#[102, 101, 97, 115, 116, 32]⟩ : ByteArray).size = 6 := rfl
          have y2 : (⟨#[32]⟩ : ByteArray).size = 1 := rfl
          have y3 : (⟨#[10]⟩ : ByteArray).size = 1 := rfl
          obtain ⟨d1, ed1⟩ : ∃ d, d = (H2 ++ T) ++ (⟨#[102, 101, 97, 115, 116, 32]⟩ : ByteArray) := ⟨_, rfl⟩
          have zd1 : d1.size ≤ 300100 := by rw [ed1, ByteArray.size_append]; omega
          have add1 : ∀ u : World, (Op.stringOp .add (H2 ++ T) (⟨#[102, 101, 97, 115, 116, 32]⟩ : ByteArray)).run Tryz.prog u = .ok (.string d1) u := fun u => by rw [ed1]; exact sadd (by omega) u
          obtain ⟨d2, ed2⟩ : ∃ d, d = d1 ++ id := ⟨_, rfl⟩
          have zd2 : d2.size ≤ 300200 := by rw [ed2, ByteArray.size_append]; omega
          have add2 : ∀ u : World, (Op.stringOp .add d1 id).run Tryz.prog u = .ok (.string d2) u := fun u => by rw [ed2]; exact sadd (by omega) u
          obtain ⟨d3, ed3⟩ : ∃ d, d = d2 ++ (⟨#[32]⟩ : ByteArray) := ⟨_, rfl⟩
          have zd3 : d3.size ≤ 300300 := by rw [ed3, ByteArray.size_append]; omega
          have add3 : ∀ u : World, (Op.stringOp .add d2 (⟨#[32]⟩ : ByteArray)).run Tryz.prog u = .ok (.string d3) u := fun u => by rw [ed3]; exact sadd (by omega) u
          obtain ⟨d4, ed4⟩ : ∃ d, d = d3 ++ tx := ⟨_, rfl⟩
          have zd4 : d4.size ≤ 300400 := by rw [ed4, ByteArray.size_append]; omega
          have add4 : ∀ u : World, (Op.stringOp .add d3 tx).run Tryz.prog u = .ok (.string d4) u := fun u => by rw [ed4]; exact sadd (by omega) u
          obtain ⟨d5, ed5⟩ : ∃ d, d = d4 ++ (⟨#[32]⟩ : ByteArray) := ⟨_, rfl⟩
          have zd5 : d5.size ≤ 300500 := by rw [ed5, ByteArray.size_append]; omega
          have add5 : ∀ u : World, (Op.stringOp .add d4 (⟨#[32]⟩ : ByteArray)).run Tryz.prog u = .ok (.string d5) u := fun u => by rw [ed5]; exact sadd (by omega) u
          obtain ⟨d6, ed6⟩ : ∃ d, d = d5 ++ ty := ⟨_, rfl⟩
          have zd6 : d6.size ≤ 300600 := by rw [ed6, ByteArray.size_append]; omega
          have add6 : ∀ u : World, (Op.stringOp .add d5 ty).run Tryz.prog u = .ok (.string d6) u := fun u => by rw [ed6]; exact sadd (by omega) u
          obtain ⟨d7, ed7⟩ : ∃ d, d = d6 ++ (⟨#[32]⟩ : ByteArray) := ⟨_, rfl⟩
          have zd7 : d7.size ≤ 300700 := by rw [ed7, ByteArray.size_append]; omega
          have add7 : ∀ u : World, (Op.stringOp .add d6 (⟨#[32]⟩ : ByteArray)).run Tryz.prog u = .ok (.string d7) u := fun u => by rw [ed7]; exact sadd (by omega) u
          obtain ⟨d8, ed8⟩ : ∃ d, d = d7 ++ ta := ⟨_, rfl⟩
          have zd8 : d8.size ≤ 300800 := by rw [ed8, ByteArray.size_append]; omega
          have add8 : ∀ u : World, (Op.stringOp .add d7 ta).run Tryz.prog u = .ok (.string d8) u := fun u => by rw [ed8]; exact sadd (by omega) u
          obtain ⟨d9, ed9⟩ : ∃ d, d = d8 ++ (⟨#[10]⟩ : ByteArray) := ⟨_, rfl⟩
          have zd9 : d9.size ≤ 300900 := by rw [ed9, ByteArray.size_append]; omega
          have add9 : ∀ u : World, (Op.stringOp .add d8 (⟨#[10]⟩ : ByteArray)).run Tryz.prog u = .ok (.string d9) u := fun u => by rw [ed9]; exact sadd (by omega) u
          have eD : H2 ++ txs txF (fs.take (k + 1)) = d9 := by
            have w1 : (⟨#[102, 101, 97, 115, 116, 32]⟩ : ByteArray) = wFea := rfl
            have w2 : (⟨#[32]⟩ : ByteArray) = wSp := rfl
            have w3 : (⟨#[10]⟩ : ByteArray) = wLf := rfl
            rw [htk, ed9, ed8, ed7, ed6, ed5, ed4, ed3, ed2, ed1, w1, w2, w3]
            simp only [ByteArray.append_assoc]
          replace eD := Lib.hid eD
          clear y0 y1 y2 y3
          clear htk ed1 ed2 ed3 ed4 ed5 ed6 ed7 ed8 ed9 zd1 zd2 zd3 zd4 zd5 zd6 zd7 zd8 zd9 zi zx zy za zH
          have S0 := Lib.hid ((show SB wr.heap.size 40 id x y a1 a2 a3 a4 a5 a6 (wr.alloc (.cells #[.string id, .int .i64 x, .int .i64 y, .int .i64 a1, .int .i64 a2, .int .i64 a3, .int .i64 a4, .int .i64 a5, .int .i64 a6] 40)) from ⟨heap_alloc_new _ _⟩).on (below_dn (Below.refl _ _) 1))
          have bA := Lib.hid (below_dn (below_on hb (al1 wr (.cells #[.string id, .int .i64 x, .int .i64 y, .int .i64 a1, .int .i64 a2, .int .i64 a3, .int .i64 a4, .int .i64 a5, .int .i64 a6] 40))) 1)
          clear hb bc
          go_wp2_with fail
          clear q0 q1 q2 q3 q4 q5 q6 q7 q8 g1 g2
          refine wp_region_held_drew (S := fun u => SB wr.heap.size 40 id x y a1 a2 a3 a4 a5 a6 u) (by kernel_rfl) S0.out (fun hHeld => ?_)
          refine wpAnyH_take (i := 0) (oi := { dst := some 58, op := _, type := _, pos := _, after := _, guard := _ }) (v := ?v2_0) rfl (by kernel_rfl) (by kernel_rfl) (by kernel_rfl) (fun _ _ _ h => h) (Or.inl ⟨by rfl, ?hy2_0⟩) hHeld ?_
          case hy2_0 => (intro w hSw; obtain ⟨s0, s1, s2, s3, s4, s5, s6, s7, s8⟩ := (SB.cells hSw); go_simp; try with_reducible rfl)
          simp only [Act.put, List.setIfInBounds_toArray, List.set_cons_zero, List.set_cons_succ]
          refine wpAnyH_take (i := 1) (oi := { dst := some 59, op := _, type := _, pos := _, after := _, guard := _ }) (v := ?v2_1) rfl (by kernel_rfl) (by kernel_rfl) (by kernel_rfl) (fun _ _ _ h => h) (Or.inl ⟨by rfl, ?hy2_1⟩) hHeld ?_
          case hy2_1 => (intro w hSw; obtain ⟨s0, s1, s2, s3, s4, s5, s6, s7, s8⟩ := (SB.cells hSw); go_simp; try with_reducible rfl)
          simp only [Act.put, List.setIfInBounds_toArray, List.set_cons_zero, List.set_cons_succ]
          refine wpAnyH_take (i := 2) (oi := { dst := some 60, op := _, type := _, pos := _, after := _, guard := _ }) (v := ?v2_2) rfl (by kernel_rfl) (by kernel_rfl) (by kernel_rfl) (fun _ _ _ h => h) (Or.inl ⟨by rfl, ?hy2_2⟩) hHeld ?_
          case hy2_2 => (intro w hSw; obtain ⟨s0, s1, s2, s3, s4, s5, s6, s7, s8⟩ := (SB.cells hSw); go_simp; try with_reducible rfl)
          simp only [Act.put, List.setIfInBounds_toArray, List.set_cons_zero, List.set_cons_succ]
          refine wpAnyH_take (i := 3) (oi := { dst := some 61, op := _, type := _, pos := _, after := _, guard := _ }) (v := ?v2_3) rfl (by kernel_rfl) (by kernel_rfl) (by kernel_rfl) (fun _ _ _ h => h) (Or.inl ⟨by rfl, ?hy2_3⟩) hHeld ?_
          case hy2_3 => (intro w hSw; obtain ⟨s0, s1, s2, s3, s4, s5, s6, s7, s8⟩ := (SB.cells hSw); go_simp; try with_reducible rfl)
          simp only [Act.put, List.setIfInBounds_toArray, List.set_cons_zero, List.set_cons_succ]
          refine wpAnyH_take (i := 4) (oi := { dst := some 62, op := _, type := _, pos := _, after := _, guard := _ }) (v := ?v2_4) rfl (by kernel_rfl) (by kernel_rfl) (by kernel_rfl) (fun _ _ _ h => h) (Or.inl ⟨by rfl, ?hy2_4⟩) hHeld ?_
          case hy2_4 => (intro w hSw; obtain ⟨s0, s1, s2, s3, s4, s5, s6, s7, s8⟩ := (SB.cells hSw); go_simp; try with_reducible rfl)
          simp only [Act.put, List.setIfInBounds_toArray, List.set_cons_zero, List.set_cons_succ]
          refine wpAnyH_take (i := 5) (oi := { dst := some 63, op := _, type := _, pos := _, after := _, guard := _ }) (v := ?v2_5) rfl (by kernel_rfl) (by kernel_rfl) (by kernel_rfl) (fun _ _ _ h => h) (Or.inl ⟨by rfl, ?hy2_5⟩) hHeld ?_
          case hy2_5 => (intro w hSw; obtain ⟨s0, s1, s2, s3, s4, s5, s6, s7, s8⟩ := (SB.cells hSw); go_simp; try with_reducible rfl)
          simp only [Act.put, List.setIfInBounds_toArray, List.set_cons_zero, List.set_cons_succ]
          refine wpAnyH_take (i := 6) (oi := { dst := some 64, op := _, type := _, pos := _, after := _, guard := _ }) (v := ?v2_6) rfl (by kernel_rfl) (by kernel_rfl) (by kernel_rfl) (fun _ _ _ h => h) (Or.inl ⟨by rfl, ?hy2_6⟩) hHeld ?_
          case hy2_6 => (intro w hSw; obtain ⟨s0, s1, s2, s3, s4, s5, s6, s7, s8⟩ := (SB.cells hSw); go_simp; try with_reducible rfl)
          simp only [Act.put, List.setIfInBounds_toArray, List.set_cons_zero, List.set_cons_succ]
          refine wpAnyH_take (i := 7) (oi := { dst := some 65, op := _, type := _, pos := _, after := _, guard := _ }) (v := ?v2_7) rfl (by kernel_rfl) (by kernel_rfl) (by kernel_rfl) (fun _ _ _ h => h) (Or.inl ⟨by rfl, ?hy2_7⟩) hHeld ?_
          case hy2_7 => (intro w hSw; obtain ⟨s0, s1, s2, s3, s4, s5, s6, s7, s8⟩ := (SB.cells hSw); go_simp; try with_reducible rfl)
          simp only [Act.put, List.setIfInBounds_toArray, List.set_cons_zero, List.set_cons_succ]
          refine wpAnyH_take (i := 11) (oi := { dst := some 69, op := _, type := _, pos := _, after := _, guard := _ }) (v := ?v2_11) rfl (by kernel_rfl) (by kernel_rfl) (by kernel_rfl) (fun _ _ _ h => h) (Or.inl ⟨by rfl, ?hy2_11⟩) hHeld ?_
          case hy2_11 => (intro w hSw; obtain ⟨s0, s1, s2, s3, s4, s5, s6, s7, s8⟩ := (SB.cells hSw); go_simp; try with_reducible rfl)
          simp only [Act.put, List.setIfInBounds_toArray, List.set_cons_zero, List.set_cons_succ]
          refine wpAnyH_take (i := 12) (oi := { dst := some 70, op := _, type := _, pos := _, after := _, guard := _ }) (v := ?v2_12) rfl (by kernel_rfl) (by kernel_rfl) (by kernel_rfl) (fun _ _ _ h => h) (Or.inl ⟨by rfl, ?hy2_12⟩) hHeld ?_
          case hy2_12 => (intro w hSw; obtain ⟨s0, s1, s2, s3, s4, s5, s6, s7, s8⟩ := (SB.cells hSw); go_simp; try with_reducible rfl)
          simp only [Act.put, List.setIfInBounds_toArray, List.set_cons_zero, List.set_cons_succ]
          refine wpAnyH_take (i := 16) (oi := { dst := some 74, op := _, type := _, pos := _, after := _, guard := _ }) (v := ?v2_16) rfl (by kernel_rfl) (by kernel_rfl) (by kernel_rfl) (fun _ _ _ h => h) (Or.inl ⟨by rfl, ?hy2_16⟩) hHeld ?_
          case hy2_16 => (intro w hSw; obtain ⟨s0, s1, s2, s3, s4, s5, s6, s7, s8⟩ := (SB.cells hSw); go_simp; try with_reducible rfl)
          simp only [Act.put, List.setIfInBounds_toArray, List.set_cons_zero, List.set_cons_succ]
          refine wpAnyH_take (i := 17) (oi := { dst := some 75, op := _, type := _, pos := _, after := _, guard := _ }) (v := ?v2_17) rfl (by kernel_rfl) (by kernel_rfl) (by kernel_rfl) (fun _ _ _ h => h) (Or.inl ⟨by rfl, ?hy2_17⟩) hHeld ?_
          case hy2_17 => (intro w hSw; obtain ⟨s0, s1, s2, s3, s4, s5, s6, s7, s8⟩ := (SB.cells hSw); go_simp; try with_reducible rfl)
          simp only [Act.put, List.setIfInBounds_toArray, List.set_cons_zero, List.set_cons_succ]
          refine wpAnyH_ready (rs := [8]) (by kernel_rfl) (by simp) ?_
          refine AllReadyH.cons (o := { dst := some 66, op := _, type := _, pos := _, after := _, guard := _ }) rfl (fun K hK => ?_) AllReadyH.nil
          go_simp
          go_at_call 26
          refine (HX.out _).mono ?_
          rintro ee0 u0 ⟨rfl, rfl⟩
          refine hK.out _ _ S0.out (fun hHeld => ?_)
          clear hK K
          refine wpAnyH_take (i := 9) (oi := { dst := some 67, op := _, type := _, pos := _, after := _, guard := _ }) (v := ?v2_9) rfl (by kernel_rfl) (by kernel_rfl) (by kernel_rfl) (fun _ _ _ h => h) (Or.inl ⟨by rfl, ?hy2_9⟩) hHeld ?_
          case hy2_9 => (intro w hSw; obtain ⟨s0, s1, s2, s3, s4, s5, s6, s7, s8⟩ := (SB.cells hSw); go_simp; try with_reducible rfl)
          simp only [Act.put, List.setIfInBounds_toArray, List.set_cons_zero, List.set_cons_succ]
          refine wpAnyH_take (i := 10) (oi := { dst := some 68, op := _, type := _, pos := _, after := _, guard := _ }) (v := ?v2_10) rfl (by kernel_rfl) (by kernel_rfl) (by kernel_rfl) (fun _ _ _ h => h) (Or.inl ⟨by rfl, ?hy2_10⟩) hHeld ?_
          case hy2_10 => (intro w hSw; obtain ⟨s0, s1, s2, s3, s4, s5, s6, s7, s8⟩ := (SB.cells hSw); go_simp; try with_reducible rfl)
          simp only [Act.put, List.setIfInBounds_toArray, List.set_cons_zero, List.set_cons_succ]
          refine wpAnyH_ready (rs := [13]) (by kernel_rfl) (by simp) ?_
          refine AllReadyH.cons (o := { dst := some 71, op := _, type := _, pos := _, after := _, guard := _ }) rfl (fun K hK => ?_) AllReadyH.nil
          go_simp
          go_at_call 28
          refine (HY.out _).mono ?_
          rintro ee1 u1 ⟨rfl, rfl⟩
          refine hK.out _ _ S0.out (fun hHeld => ?_)
          clear hK K
          refine wpAnyH_take (i := 14) (oi := { dst := some 72, op := _, type := _, pos := _, after := _, guard := _ }) (v := ?v2_14) rfl (by kernel_rfl) (by kernel_rfl) (by kernel_rfl) (fun _ _ _ h => h) (Or.inl ⟨by rfl, ?hy2_14⟩) hHeld ?_
          case hy2_14 => (intro w hSw; obtain ⟨s0, s1, s2, s3, s4, s5, s6, s7, s8⟩ := (SB.cells hSw); go_simp; try with_reducible rfl)
          simp only [Act.put, List.setIfInBounds_toArray, List.set_cons_zero, List.set_cons_succ]
          refine wpAnyH_take (i := 15) (oi := { dst := some 73, op := _, type := _, pos := _, after := _, guard := _ }) (v := ?v2_15) rfl (by kernel_rfl) (by kernel_rfl) (by kernel_rfl) (fun _ _ _ h => h) (Or.inl ⟨by rfl, ?hy2_15⟩) hHeld ?_
          case hy2_15 => (intro w hSw; obtain ⟨s0, s1, s2, s3, s4, s5, s6, s7, s8⟩ := (SB.cells hSw); go_simp; try with_reducible rfl)
          simp only [Act.put, List.setIfInBounds_toArray, List.set_cons_zero, List.set_cons_succ]
          refine wpAnyH_ready (rs := [18]) (by kernel_rfl) (by simp) ?_
          refine AllReadyH.cons (o := { dst := some 76, op := _, type := _, pos := _, after := _, guard := _ }) rfl (fun K hK => ?_) AllReadyH.nil
          go_simp
          go_at_call 27
          refine (HA.out _).mono ?_
          rintro ee2 u2 ⟨rfl, hb2⟩
          have ss2 := S0.out.on hb2
          have bb2 := Lib.hid (below_on bA.out hb2)
          clear hb2
          refine hK.out _ _ ss2 (fun hHeld => ?_)
          clear hK K
          refine wpAnyH_take (i := 19) (oi := { dst := some 77, op := _, type := _, pos := _, after := _, guard := _ }) (v := ?v2_19) rfl (by kernel_rfl) (by kernel_rfl) (by kernel_rfl) (fun _ _ _ h => h) (Or.inl ⟨by rfl, ?hy2_19⟩) hHeld ?_
          case hy2_19 => (intro w hSw; obtain ⟨s0, s1, s2, s3, s4, s5, s6, s7, s8⟩ := (SB.cells hSw); go_simp; try with_reducible rfl)
          simp only [Act.put, List.setIfInBounds_toArray, List.set_cons_zero, List.set_cons_succ]
          refine wpAnyH_take (i := 20) (oi := { dst := some 78, op := _, type := _, pos := _, after := _, guard := _ }) (v := ?v2_20) rfl (by kernel_rfl) (by kernel_rfl) (by kernel_rfl) (fun _ _ _ h => h) (Or.inl ⟨by rfl, ?hy2_20⟩) hHeld ?_
          case hy2_20 => (intro w hSw; obtain ⟨s0, s1, s2, s3, s4, s5, s6, s7, s8⟩ := (SB.cells hSw); go_simp; try with_reducible rfl)
          simp only [Act.put, List.setIfInBounds_toArray, List.set_cons_zero, List.set_cons_succ]
          refine wpAnyH_ready (rs := [21]) (by kernel_rfl) (by simp) ?_
          refine AllReadyH.cons (o := { dst := some 3, op := _, type := _, pos := _, after := _, guard := _ }) rfl (fun K hK => ?_) AllReadyH.nil
          go_simp
          refine hK.out _ _ ss2 (fun hHeld => ?_)
          clear hK K
          refine wpAnyH_done (by kernel_rfl) ?_ _
          go_wp2_with fail
          go_roundw
          case rel => exact ⟨k + 1, by omega, by go_num, by rw [eD.out], bb2.out⟩
          case measure => simp [intOf]; omega
        · obtain rfl : k = fs.length := by omega
          rw [List.take_length] at hsz ⊢
          have addE := fun u : World => sadd (a := H2 ++ txs txF fs) (b := (⟨#[101, 110, 100, 10]⟩ : ByteArray)) (by have := hH2.out; simp only [ByteArray.size_append, litsz]; simp; omega) u
          go_wp2_with fail
          go_ret
          exact ⟨by rw [hE2.out]; rfl, bc⟩
end Go.Proofs.YtaamdimgloblpaaGreatDoor
