/- Package ordotext: Line. -/
import Derived.Test.YtkhicgafhbecfaaGreatDoorEr
namespace Go.Proofs.YtkhicgafhbecfaaGreatDoor
open Go.RowKit

/-! the words of a line -/
def spj : List ByteArray → ByteArray
  | [] => ByteArray.empty
  | x :: l => wSp ++ (x ++ spj l)
theorem spj_app : ∀ a b : List ByteArray, spj (a ++ b) = spj a ++ spj b
  | [], _ => ByteArray.empty_append.symm
  | x :: a, b => by show wSp ++ (x ++ spj (a ++ b)) = (wSp ++ (x ++ spj a)) ++ spj b; rw [spj_app a b, ByteArray.append_assoc, ByteArray.append_assoc]
theorem jn_spj : ∀ (a : ByteArray) (l : List ByteArray), jn (a :: l) = a ++ spj l
  | a, [] => ByteArray.append_empty.symm
  | a, b :: l => by show a ++ (wSp ++ jn (b :: l)) = a ++ (wSp ++ (b ++ spj l)); rw [jn_spj b l]
theorem spj_with : ∀ l : List ByteArray, spj (eachW ⟨#[119, 105, 116, 104]⟩ l) = txs2 wWi l
  | [] => rfl
  | s :: l => by
    have e : wWi = wSp ++ (⟨#[119, 105, 116, 104]⟩ ++ wSp) := rfl
    show wSp ++ (⟨#[119, 105, 116, 104]⟩ ++ (wSp ++ (s ++ spj (eachW ⟨#[119, 105, 116, 104]⟩ l)))) = wWi ++ (s ++ txs2 wWi l)
    rw [spj_with l, e, ByteArray.append_assoc, ByteArray.append_assoc]
theorem spj_wout : ∀ l : List ByteArray, spj (eachW ⟨#[119, 105, 116, 104, 111, 117, 116]⟩ l) = txs2 wWo l
  | [] => rfl
  | s :: l => by
    have e : wWo = wSp ++ (⟨#[119, 105, 116, 104, 111, 117, 116]⟩ ++ wSp) := rfl
    show wSp ++ (⟨#[119, 105, 116, 104, 111, 117, 116]⟩ ++ (wSp ++ (s ++ spj (eachW ⟨#[119, 105, 116, 104, 111, 117, 116]⟩ l)))) = wWo ++ (s ++ txs2 wWo l)
    rw [spj_wout l, e, ByteArray.append_assoc, ByteArray.append_assoc]
def frmW (e : Ent) : List ByteArray := if e.ki = 3 then [⟨#[102, 114, 111, 109]⟩, itB e.fm, itB e.fd] else []
def lineW (e : Ent) : List ByteArray := (([wDay, itB e.m, itB e.d, nm e.wd, e.se, itB e.wk, txKi e.ki, e.pr, itB e.rk] ++ frmW e) ++ eachW ⟨#[119, 105, 116, 104]⟩ e.co) ++ eachW ⟨#[119, 105, 116, 104, 111, 117, 116]⟩ e.om
/-- The text of a line, without the line feed. -/
def txL (e : Ent) : ByteArray := jn (lineW e)
theorem txL_txE (e : Ent) : wDay ++ txE e = txL e ++ wLf := by
  have hf : spj (frmW e) = txFr e := by
    unfold frmW txFr
    split
    · have q : wFm = wSp ++ (⟨#[102, 114, 111, 109]⟩ ++ wSp) := rfl
      show wSp ++ (⟨#[102, 114, 111, 109]⟩ ++ (wSp ++ (itB e.fm ++ (wSp ++ (itB e.fd ++ ByteArray.empty))))) = _
      rw [q, ByteArray.append_assoc, ByteArray.append_assoc, ByteArray.append_empty]
    · rfl
  unfold txL lineW
  rw [List.append_assoc, List.append_assoc, List.cons_append, jn_spj, spj_app, spj_app, spj_app, hf, spj_with, spj_wout]
  show wDay ++ txE e = (wDay ++ ((wSp ++ (itB e.m ++ (wSp ++ (itB e.d ++ (wSp ++ (nm e.wd ++ (wSp ++ (e.se ++ (wSp ++ (itB e.wk ++ (wSp ++ (txKi e.ki ++ (wSp ++ (e.pr ++ (wSp ++ (itB e.rk ++ ByteArray.empty)))))))))))))))) ++ (txFr e ++ (txs2 wWi e.co ++ txs2 wWo e.om)))) ++ wLf
  unfold txE txOt
  simp only [ByteArray.append_assoc, ByteArray.append_empty]
/-- What Line asks of an entry. -/
structure LnOk (e : Ent) : Prop where
  m : inT e.m = true
  d : inT e.d = true
  wk : inT e.wk = true
  rk : inT e.rk = true
  k1 : 1 ≤ e.ki ∧ e.ki ≤ 3
  f : e.ki = 3 → inT e.fm = true ∧ inT e.fd = true
  n : e.co.length + e.om.length ≤ 40000
  z : (txL e).size ≤ 10000000
theorem LnOk.of {y : Int} {e : Ent} (h : okE y e = true) (hn : e.co.length + e.om.length ≤ 40000) (hz : (txL e).size ≤ 10000000) : LnOk e := by
  unfold okE at h
  simp only [Bool.and_eq_true, decide_eq_true_eq] at h
  obtain ⟨⟨hy, hm, hd, hwk, hrk, w1, w2, k1, k2⟩, hf, hse, hpr, hco, hom⟩ := h
  refine ⟨hm, hd, hwk, hrk, ⟨k1, k2⟩, fun c => ?_, hn, hz⟩
  rw [if_pos c] at hf
  simp only [Bool.and_eq_true] at hf
  exact hf.2
set_option maxRecDepth 100000 in
set_option maxHeartbeats 4000000 in
theorem p27lin {e : Ent} {vc vo : Value} {w : World} (hT : T26 w) (hc : TxAt w vc e.co) (ho : TxAt w vo e.om) (hk : LnOk e) :
    Calls Tryz.prog 15 #[.agg (e.cells vc vo)] w fun r w' => r = .returned (.string (txL e)) ∧ Below w.heap.size w w' := by
  obtain ⟨ey, em, ed, ewd, ese, ewk, eki, epr, erk, efy, efm, efd, eco, eom⟩ := e
  obtain ⟨hm, hd, hwk, hrk, k1, hf, hn, hz⟩ := hk
  simp only at hm hd hwk hrk k1 hf hn hc ho
  obtain ⟨w0, hw0⟩ : ∃ u, u = w.alloc (.cells #[.int .i64 ey, .int .i64 em, .int .i64 ed, .int .i64 ewd, .string ese, .int .i64 ewk, .int .i64 eki, .string epr, .int .i64 erk, .int .i64 efy, .int .i64 efm, .int .i64 efd, vc, vo] 40) := ⟨_, rfl⟩
  have B0 : Below w.heap.size w w0 := hw0 ▸ al1 w _
  have R0 : w0.heap[w.heap.size]? = some (.cells #[.int .i64 ey, .int .i64 em, .int .i64 ed, .int .i64 ewd, .string ese, .int .i64 ewk, .int .i64 eki, .string epr, .int .i64 erk, .int .i64 efy, .int .i64 efm, .int .i64 efd, vc, vo] 40 (0, 0)) := hw0 ▸ heap_alloc_new w _
  have T0 := Lib.hid (hT.on B0)
  have XC := Lib.hid (hc.on B0)
  have XO := Lib.hid (ho.on B0)
  obtain ⟨ac, kc, rfl, -⟩ := hc
  obtain ⟨ao, ko, rfl, -⟩ := ho
  have HL := Lib.hid hz
  have HN := Lib.hid (fun (u : World) (h : T26 u) => name_any ewd u h.wk)
  have HK := Lib.hid (fun (u : World) => p27kwd k1 u)
  have RW := Lib.hid (fun (u : World) (h : Below w0.heap.size w0 u) => row14 (row_kept R0 h))
  have hPB := row_lt R0
  have hf := Lib.hid hf
  go_enter Tryz.func15, Tryz.ntmps15
  go_wp2_with fail
  rw [← hw0]
  have B0 := Lib.hid B0
  clear hw0 hT hz
  generalize hP : w.heap.size = P at *
  clear R0
  refine wp_region_held_drew (S := fun u => Below w0.heap.size w0 u) (by kernel_rfl) (below_dn (Below.refl _ _) 1) (fun hHeld => ?_)
  refine wpAnyH_take (i := 2) (oi := { dst := some 6, op := _, type := _, pos := _, after := _, guard := _ }) (v := ?v1_2) rfl (by kernel_rfl) (by kernel_rfl) (by kernel_rfl) (fun _ _ _ h => h) (Or.inl ⟨by rfl, ?hy1_2⟩) hHeld ?_
  case hy1_2 => (intro wq hSw; obtain ⟨s0, s1, s2, s3, s4, s5, s6, s7, s8, s9, s10, s11, s12, s13⟩ := RW.out _ hSw; go_simp; try with_reducible rfl)
  simp only [Act.put, List.setIfInBounds_toArray, List.set_cons_zero, List.set_cons_succ]
  refine wpAnyH_take (i := 3) (oi := { dst := some 7, op := _, type := _, pos := _, after := _, guard := _ }) (v := ?v1_3) rfl (by kernel_rfl) (by kernel_rfl) (by kernel_rfl) (fun _ _ _ h => h) (Or.inl ⟨by rfl, ?hy1_3⟩) hHeld ?_
  case hy1_3 => (intro wq hSw; obtain ⟨s0, s1, s2, s3, s4, s5, s6, s7, s8, s9, s10, s11, s12, s13⟩ := RW.out _ hSw; go_simp; try with_reducible rfl)
  simp only [Act.put, List.setIfInBounds_toArray, List.set_cons_zero, List.set_cons_succ]
  refine wpAnyH_take (i := 5) (oi := { dst := some 9, op := _, type := _, pos := _, after := _, guard := _ }) (v := ?v1_5) rfl (by kernel_rfl) (by kernel_rfl) (by kernel_rfl) (fun _ _ _ h => h) (Or.inl ⟨by rfl, ?hy1_5⟩) hHeld ?_
  case hy1_5 => (intro wq hSw; obtain ⟨s0, s1, s2, s3, s4, s5, s6, s7, s8, s9, s10, s11, s12, s13⟩ := RW.out _ hSw; go_simp; try with_reducible rfl)
  simp only [Act.put, List.setIfInBounds_toArray, List.set_cons_zero, List.set_cons_succ]
  refine wpAnyH_take (i := 6) (oi := { dst := some 10, op := _, type := _, pos := _, after := _, guard := _ }) (v := ?v1_6) rfl (by kernel_rfl) (by kernel_rfl) (by kernel_rfl) (fun _ _ _ h => h) (Or.inl ⟨by rfl, ?hy1_6⟩) hHeld ?_
  case hy1_6 => (intro wq hSw; obtain ⟨s0, s1, s2, s3, s4, s5, s6, s7, s8, s9, s10, s11, s12, s13⟩ := RW.out _ hSw; go_simp; try with_reducible rfl)
  simp only [Act.put, List.setIfInBounds_toArray, List.set_cons_zero, List.set_cons_succ]
  refine wpAnyH_take (i := 9) (oi := { dst := some 13, op := _, type := _, pos := _, after := _, guard := _ }) (v := ?v1_9) rfl (by kernel_rfl) (by kernel_rfl) (by kernel_rfl) (fun _ _ _ h => h) (Or.inl ⟨by rfl, ?hy1_9⟩) hHeld ?_
  case hy1_9 => (intro wq hSw; obtain ⟨s0, s1, s2, s3, s4, s5, s6, s7, s8, s9, s10, s11, s12, s13⟩ := RW.out _ hSw; go_simp; try with_reducible rfl)
  simp only [Act.put, List.setIfInBounds_toArray, List.set_cons_zero, List.set_cons_succ]
  refine wpAnyH_take (i := 10) (oi := { dst := some 14, op := _, type := _, pos := _, after := _, guard := _ }) (v := ?v1_10) rfl (by kernel_rfl) (by kernel_rfl) (by kernel_rfl) (fun _ _ _ h => h) (Or.inl ⟨by rfl, ?hy1_10⟩) hHeld ?_
  case hy1_10 => (intro wq hSw; obtain ⟨s0, s1, s2, s3, s4, s5, s6, s7, s8, s9, s10, s11, s12, s13⟩ := RW.out _ hSw; go_simp; try with_reducible rfl)
  simp only [Act.put, List.setIfInBounds_toArray, List.set_cons_zero, List.set_cons_succ]
  refine wpAnyH_take (i := 12) (oi := { dst := some 16, op := _, type := _, pos := _, after := _, guard := _ }) (v := ?v1_12) rfl (by kernel_rfl) (by kernel_rfl) (by kernel_rfl) (fun _ _ _ h => h) (Or.inl ⟨by rfl, ?hy1_12⟩) hHeld ?_
  case hy1_12 => (intro wq hSw; obtain ⟨s0, s1, s2, s3, s4, s5, s6, s7, s8, s9, s10, s11, s12, s13⟩ := RW.out _ hSw; go_simp; try with_reducible rfl)
  simp only [Act.put, List.setIfInBounds_toArray, List.set_cons_zero, List.set_cons_succ]
  refine wpAnyH_take (i := 13) (oi := { dst := some 17, op := _, type := _, pos := _, after := _, guard := _ }) (v := ?v1_13) rfl (by kernel_rfl) (by kernel_rfl) (by kernel_rfl) (fun _ _ _ h => h) (Or.inl ⟨by rfl, ?hy1_13⟩) hHeld ?_
  case hy1_13 => (intro wq hSw; obtain ⟨s0, s1, s2, s3, s4, s5, s6, s7, s8, s9, s10, s11, s12, s13⟩ := RW.out _ hSw; go_simp; try with_reducible rfl)
  simp only [Act.put, List.setIfInBounds_toArray, List.set_cons_zero, List.set_cons_succ]
  refine wpAnyH_take (i := 15) (oi := { dst := some 19, op := _, type := _, pos := _, after := _, guard := _ }) (v := ?v1_15) rfl (by kernel_rfl) (by kernel_rfl) (by kernel_rfl) (fun _ _ _ h => h) (Or.inl ⟨by rfl, ?hy1_15⟩) hHeld ?_
  case hy1_15 => (intro wq hSw; obtain ⟨s0, s1, s2, s3, s4, s5, s6, s7, s8, s9, s10, s11, s12, s13⟩ := RW.out _ hSw; go_simp; try with_reducible rfl)
  simp only [Act.put, List.setIfInBounds_toArray, List.set_cons_zero, List.set_cons_succ]
  refine wpAnyH_take (i := 16) (oi := { dst := some 20, op := _, type := _, pos := _, after := _, guard := _ }) (v := ?v1_16) rfl (by kernel_rfl) (by kernel_rfl) (by kernel_rfl) (fun _ _ _ h => h) (Or.inl ⟨by rfl, ?hy1_16⟩) hHeld ?_
  case hy1_16 => (intro wq hSw; obtain ⟨s0, s1, s2, s3, s4, s5, s6, s7, s8, s9, s10, s11, s12, s13⟩ := RW.out _ hSw; go_simp; try with_reducible rfl)
  simp only [Act.put, List.setIfInBounds_toArray, List.set_cons_zero, List.set_cons_succ]
  refine wpAnyH_take (i := 19) (oi := { dst := some 23, op := _, type := _, pos := _, after := _, guard := _ }) (v := ?v1_19) rfl (by kernel_rfl) (by kernel_rfl) (by kernel_rfl) (fun _ _ _ h => h) (Or.inl ⟨by rfl, ?hy1_19⟩) hHeld ?_
  case hy1_19 => (intro wq hSw; obtain ⟨s0, s1, s2, s3, s4, s5, s6, s7, s8, s9, s10, s11, s12, s13⟩ := RW.out _ hSw; go_simp; try with_reducible rfl)
  simp only [Act.put, List.setIfInBounds_toArray, List.set_cons_zero, List.set_cons_succ]
  refine wpAnyH_take (i := 20) (oi := { dst := some 24, op := _, type := _, pos := _, after := _, guard := _ }) (v := ?v1_20) rfl (by kernel_rfl) (by kernel_rfl) (by kernel_rfl) (fun _ _ _ h => h) (Or.inl ⟨by rfl, ?hy1_20⟩) hHeld ?_
  case hy1_20 => (intro wq hSw; obtain ⟨s0, s1, s2, s3, s4, s5, s6, s7, s8, s9, s10, s11, s12, s13⟩ := RW.out _ hSw; go_simp; try with_reducible rfl)
  simp only [Act.put, List.setIfInBounds_toArray, List.set_cons_zero, List.set_cons_succ]
  refine wpAnyH_take (i := 22) (oi := { dst := some 26, op := _, type := _, pos := _, after := _, guard := _ }) (v := ?v1_22) rfl (by kernel_rfl) (by kernel_rfl) (by kernel_rfl) (fun _ _ _ h => h) (Or.inl ⟨by rfl, ?hy1_22⟩) hHeld ?_
  case hy1_22 => (intro wq hSw; obtain ⟨s0, s1, s2, s3, s4, s5, s6, s7, s8, s9, s10, s11, s12, s13⟩ := RW.out _ hSw; go_simp; try with_reducible rfl)
  simp only [Act.put, List.setIfInBounds_toArray, List.set_cons_zero, List.set_cons_succ]
  refine wpAnyH_take (i := 23) (oi := { dst := some 27, op := _, type := _, pos := _, after := _, guard := _ }) (v := ?v1_23) rfl (by kernel_rfl) (by kernel_rfl) (by kernel_rfl) (fun _ _ _ h => h) (Or.inl ⟨by rfl, ?hy1_23⟩) hHeld ?_
  case hy1_23 => (intro wq hSw; obtain ⟨s0, s1, s2, s3, s4, s5, s6, s7, s8, s9, s10, s11, s12, s13⟩ := RW.out _ hSw; go_simp; try with_reducible rfl)
  simp only [Act.put, List.setIfInBounds_toArray, List.set_cons_zero, List.set_cons_succ]
  obtain ⟨wd, hwd⟩ : ∃ wd, wd = w0.drew := ⟨_, rfl⟩
  rw [← hwd] at hHeld ⊢
  clear hwd
  refine wpAnyH_ready (rs := [0]) (by kernel_rfl) (by simp) ?_
  refine AllReadyH.cons (o := { dst := some 4, op := _, type := _, pos := _, after := _, guard := _ }) rfl (fun K hK => ?_) AllReadyH.nil
  go_simp
  have a0 := al1 wd (.cells #[.slice none 0 0] 72)
  have b0 := below_on hHeld a0
  have n0 : LnS w0 wd.heap.size [] (wd.alloc (.cells #[.slice none 0 0] 72)) := ⟨⟨_, heap_alloc_new wd _, StrsAt.emp _ _⟩, b0, hHeld.size⟩
  clear a0
  refine hK.out _ _ b0 (fun hHeld => ?_)
  clear hK K
  refine wpAnyH_ready (rs := [1]) (by kernel_rfl) (by simp) ?_
  refine AllReadyH.cons (o := { dst := some 5, op := _, type := _, pos := _, after := _, guard := _ }) rfl (fun K hK => ?_) AllReadyH.nil
  go_simp
  go_at_call 31
  refine (p27wrd n0 (by decide)).mono ?_
  rintro e1 u1 ⟨rfl, n1, -⟩
  clear n0 b0
  refine hK.out _ _ n1.bl (fun hHeld => ?_)
  clear hK K
  refine wpAnyH_ready (rs := [4]) (by kernel_rfl) (by simp) ?_
  refine AllReadyH.cons (o := { dst := some 8, op := _, type := _, pos := _, after := _, guard := _ }) rfl (fun K hK => ?_) AllReadyH.nil
  go_simp
  go_at_call 35
  refine (p27day n1 T0.out hm hd (by decide)).mono ?_
  rintro e2 u2 ⟨rfl, n2, -⟩
  clear n1
  refine hK.out _ _ n2.bl (fun hHeld => ?_)
  clear hK K
  refine wpAnyH_ready (rs := [7]) (by kernel_rfl) (by simp) ?_
  refine AllReadyH.cons (o := { dst := some 11, op := _, type := _, pos := _, after := _, guard := _ }) rfl (fun K hK => ?_) AllReadyH.nil
  go_simp
  go_at_call 36
  refine (HN.out _ (T0.out.on n2.bl)).mono ?_
  rintro e3 u3 ⟨rfl, rfl⟩
  refine hK.out _ _ n2.bl (fun hHeld => ?_)
  clear hK K
  refine wpAnyH_ready (rs := [8]) (by kernel_rfl) (by simp) ?_
  refine AllReadyH.cons (o := { dst := some 12, op := _, type := _, pos := _, after := _, guard := _ }) rfl (fun K hK => ?_) AllReadyH.nil
  go_simp
  go_at_call 31
  refine (p27wrd n2 (by simp)).mono ?_
  rintro e4 u4 ⟨rfl, n4, -⟩
  clear n2
  refine hK.out _ _ n4.bl (fun hHeld => ?_)
  clear hK K
  refine wpAnyH_ready (rs := [11]) (by kernel_rfl) (by simp) ?_
  refine AllReadyH.cons (o := { dst := some 15, op := _, type := _, pos := _, after := _, guard := _ }) rfl (fun K hK => ?_) AllReadyH.nil
  go_simp
  go_at_call 31
  refine (p27wrd n4 (by simp)).mono ?_
  rintro e5 u5 ⟨rfl, n5, -⟩
  clear n4
  refine hK.out _ _ n5.bl (fun hHeld => ?_)
  clear hK K
  refine wpAnyH_ready (rs := [14]) (by kernel_rfl) (by simp) ?_
  refine AllReadyH.cons (o := { dst := some 18, op := _, type := _, pos := _, after := _, guard := _ }) rfl (fun K hK => ?_) AllReadyH.nil
  go_simp
  go_at_call 32
  refine (p27nmb n5 T0.out hwk (by simp)).mono ?_
  rintro e6 u6 ⟨rfl, n6, -⟩
  clear n5
  refine hK.out _ _ n6.bl (fun hHeld => ?_)
  clear hK K
  refine wpAnyH_ready (rs := [17]) (by kernel_rfl) (by simp) ?_
  refine AllReadyH.cons (o := { dst := some 21, op := _, type := _, pos := _, after := _, guard := _ }) rfl (fun K hK => ?_) AllReadyH.nil
  go_simp
  go_at_call 37
  refine (HK.out _).mono ?_
  rintro e7 u7 ⟨rfl, b7⟩
  have n7 := n6.on b7
  clear n6 b7
  refine hK.out _ _ n7.bl (fun hHeld => ?_)
  clear hK K
  refine wpAnyH_ready (rs := [18]) (by kernel_rfl) (by simp) ?_
  refine AllReadyH.cons (o := { dst := some 22, op := _, type := _, pos := _, after := _, guard := _ }) rfl (fun K hK => ?_) AllReadyH.nil
  go_simp
  go_at_call 31
  refine (p27wrd n7 (by simp)).mono ?_
  rintro e8 u8 ⟨rfl, n8, -⟩
  clear n7
  refine hK.out _ _ n8.bl (fun hHeld => ?_)
  clear hK K
  refine wpAnyH_ready (rs := [21]) (by kernel_rfl) (by simp) ?_
  refine AllReadyH.cons (o := { dst := some 25, op := _, type := _, pos := _, after := _, guard := _ }) rfl (fun K hK => ?_) AllReadyH.nil
  go_simp
  go_at_call 31
  refine (p27wrd n8 (by simp)).mono ?_
  rintro e9 u9 ⟨rfl, n9, -⟩
  clear n8
  refine hK.out _ _ n9.bl (fun hHeld => ?_)
  clear hK K
  refine wpAnyH_ready (rs := [24]) (by kernel_rfl) (by simp) ?_
  refine AllReadyH.cons (o := { dst := some 28, op := _, type := _, pos := _, after := _, guard := _ }) rfl (fun K hK => ?_) AllReadyH.nil
  go_simp
  go_at_call 32
  refine (p27nmb n9 T0.out hrk (by simp)).mono ?_
  rintro e10 u10 ⟨rfl, n10, -⟩
  clear n9
  refine hK.out _ _ n10.bl (fun hHeld => ?_)
  clear hK K
  refine wpAnyH_ready (rs := [25]) (by kernel_rfl) (by simp) ?_
  refine AllReadyH.cons (o := { dst := some 3, op := _, type := _, pos := _, after := _, guard := _ }) rfl (fun K hK => ?_) AllReadyH.nil
  go_simp
  refine hK.out _ _ n10.bl (fun hHeld => ?_)
  clear hK K
  refine wpAnyH_done (by kernel_rfl) ?_ _
  have N1 : LnS w0 _ [wDay, itB em, itB ed, nm ewd, ese, itB ewk, txKi eki, epr, itB erk] u10 := n10
  clear n10
  obtain ⟨s0, s1, s2, s3, s4, s5, s6, s7, s8, s9, s10, s11, s12, s13⟩ := RW.out _ N1.bl
  by_cases c3 : eki = 3
  · subst c3
    obtain ⟨hfm, hfd⟩ := hf.out rfl
    have hl3 : txL ⟨ey, em, ed, ewd, ese, ewk, 3, epr, erk, efy, efm, efd, eco, eom⟩ = jn ((([wDay, itB em, itB ed, nm ewd, ese, itB ewk, txKi 3, epr, itB erk] ++ [⟨#[102, 114, 111, 109]⟩, itB efm, itB efd]) ++ eachW ⟨#[119, 105, 116, 104]⟩ eco) ++ eachW ⟨#[119, 105, 116, 104, 111, 117, 116]⟩ eom) := rfl
    replace hl3 := Lib.hid hl3
    go_wp2_with fail
    clear s0 s1 s2 s3 s4 s5 s6 s7 s8 s9 s10 s11 s12 s13
    refine wp_region_held_drew (S := fun u => Below w0.heap.size w0 u) (by kernel_rfl) (below_dn N1.bl 1) (fun hHeld => ?_)
    refine wpAnyH_take (i := 0) (oi := { dst := some 32, op := _, type := _, pos := _, after := _, guard := _ }) (v := ?v2_0) rfl (by kernel_rfl) (by kernel_rfl) (by kernel_rfl) (fun _ _ _ h => h) (Or.inl ⟨by rfl, ?hy2_0⟩) hHeld ?_
    case hy2_0 => (intro wq hSw; obtain ⟨s0, s1, s2, s3, s4, s5, s6, s7, s8, s9, s10, s11, s12, s13⟩ := RW.out _ hSw; go_simp; try with_reducible rfl)
    simp only [Act.put, List.setIfInBounds_toArray, List.set_cons_zero, List.set_cons_succ]
    refine wpAnyH_take (i := 2) (oi := { dst := some 34, op := _, type := _, pos := _, after := _, guard := _ }) (v := ?v2_2) rfl (by kernel_rfl) (by kernel_rfl) (by kernel_rfl) (fun _ _ _ h => h) (Or.inl ⟨by rfl, ?hy2_2⟩) hHeld ?_
    case hy2_2 => (intro wq hSw; obtain ⟨s0, s1, s2, s3, s4, s5, s6, s7, s8, s9, s10, s11, s12, s13⟩ := RW.out _ hSw; go_simp; try with_reducible rfl)
    simp only [Act.put, List.setIfInBounds_toArray, List.set_cons_zero, List.set_cons_succ]
    refine wpAnyH_take (i := 3) (oi := { dst := some 35, op := _, type := _, pos := _, after := _, guard := _ }) (v := ?v2_3) rfl (by kernel_rfl) (by kernel_rfl) (by kernel_rfl) (fun _ _ _ h => h) (Or.inl ⟨by rfl, ?hy2_3⟩) hHeld ?_
    case hy2_3 => (intro wq hSw; obtain ⟨s0, s1, s2, s3, s4, s5, s6, s7, s8, s9, s10, s11, s12, s13⟩ := RW.out _ hSw; go_simp; try with_reducible rfl)
    simp only [Act.put, List.setIfInBounds_toArray, List.set_cons_zero, List.set_cons_succ]
    refine wpAnyH_ready (rs := [1]) (by kernel_rfl) (by simp) ?_
    refine AllReadyH.cons (o := { dst := some 33, op := _, type := _, pos := _, after := _, guard := _ }) rfl (fun K hK => ?_) AllReadyH.nil
    go_simp
    go_at_call 31
    refine (p27wrd (N1.on (below_dn (Below.refl _ _) 1)) (by simp)).mono ?_
    rintro e1 u11 ⟨rfl, n11, -⟩
    clear N1
    refine hK.out _ _ n11.bl (fun hHeld => ?_)
    clear hK K
    refine wpAnyH_ready (rs := [4]) (by kernel_rfl) (by simp) ?_
    refine AllReadyH.cons (o := { dst := some 36, op := _, type := _, pos := _, after := _, guard := _ }) rfl (fun K hK => ?_) AllReadyH.nil
    go_simp
    go_at_call 35
    refine (p27day n11 T0.out hfm hfd (by simp)).mono ?_
    rintro e1 u12 ⟨rfl, n12, -⟩
    clear n11
    refine hK.out _ _ n12.bl (fun hHeld => ?_)
    clear hK K
    refine wpAnyH_done (by kernel_rfl) ?_ _
    have N3 : LnS w0 _ ([wDay, itB em, itB ed, nm ewd, ese, itB ewk, txKi 3, epr, itB erk] ++ [⟨#[102, 114, 111, 109]⟩, itB efm, itB efd]) u12 := n12
    clear n12
    obtain ⟨s0, s1, s2, s3, s4, s5, s6, s7, s8, s9, s10, s11, s12, s13⟩ := RW.out _ N3.bl
    go_wp2_with fail
    clear s0 s1 s2 s3 s4 s5 s6 s7 s8 s9 s10 s11 s12 s13
    refine wp_region_held_drew (S := fun u => Below w0.heap.size w0 u) (by kernel_rfl) (below_dn N3.bl 1) (fun hHeld => ?_)
    refine wpAnyH_take (i := 0) (oi := { dst := some 37, op := _, type := _, pos := _, after := _, guard := _ }) (v := ?v3_0) rfl (by kernel_rfl) (by kernel_rfl) (by kernel_rfl) (fun _ _ _ h => h) (Or.inl ⟨by rfl, ?hy3_0⟩) hHeld ?_
    case hy3_0 => (intro wq hSw; obtain ⟨s0, s1, s2, s3, s4, s5, s6, s7, s8, s9, s10, s11, s12, s13⟩ := RW.out _ hSw; go_simp; try with_reducible rfl)
    simp only [Act.put, List.setIfInBounds_toArray, List.set_cons_zero, List.set_cons_succ]
    refine wpAnyH_take (i := 1) (oi := { dst := some 38, op := _, type := _, pos := _, after := _, guard := _ }) (v := ?v3_1) rfl (by kernel_rfl) (by kernel_rfl) (by kernel_rfl) (fun _ _ _ h => h) (Or.inl ⟨by rfl, ?hy3_1⟩) hHeld ?_
    case hy3_1 => (intro wq hSw; obtain ⟨s0, s1, s2, s3, s4, s5, s6, s7, s8, s9, s10, s11, s12, s13⟩ := RW.out _ hSw; go_simp; try with_reducible rfl)
    simp only [Act.put, List.setIfInBounds_toArray, List.set_cons_zero, List.set_cons_succ]
    refine wpAnyH_take (i := 2) (oi := { dst := some 39, op := _, type := _, pos := _, after := _, guard := _ }) (v := ?v3_2) rfl (by kernel_rfl) (by kernel_rfl) (by kernel_rfl) (fun _ _ _ h => h) (Or.inl ⟨by rfl, ?hy3_2⟩) hHeld ?_
    case hy3_2 => (intro wq hSw; obtain ⟨s0, s1, s2, s3, s4, s5, s6, s7, s8, s9, s10, s11, s12, s13⟩ := RW.out _ hSw; go_simp; try with_reducible rfl)
    simp only [Act.put, List.setIfInBounds_toArray, List.set_cons_zero, List.set_cons_succ]
    refine wpAnyH_take (i := 4) (oi := { dst := some 41, op := _, type := _, pos := _, after := _, guard := _ }) (v := ?v3_4) rfl (by kernel_rfl) (by kernel_rfl) (by kernel_rfl) (fun _ _ _ h => h) (Or.inl ⟨by rfl, ?hy3_4⟩) hHeld ?_
    case hy3_4 => (intro wq hSw; obtain ⟨s0, s1, s2, s3, s4, s5, s6, s7, s8, s9, s10, s11, s12, s13⟩ := RW.out _ hSw; go_simp; try with_reducible rfl)
    simp only [Act.put, List.setIfInBounds_toArray, List.set_cons_zero, List.set_cons_succ]
    refine wpAnyH_take (i := 5) (oi := { dst := some 42, op := _, type := _, pos := _, after := _, guard := _ }) (v := ?v3_5) rfl (by kernel_rfl) (by kernel_rfl) (by kernel_rfl) (fun _ _ _ h => h) (Or.inl ⟨by rfl, ?hy3_5⟩) hHeld ?_
    case hy3_5 => (intro wq hSw; obtain ⟨s0, s1, s2, s3, s4, s5, s6, s7, s8, s9, s10, s11, s12, s13⟩ := RW.out _ hSw; go_simp; try with_reducible rfl)
    simp only [Act.put, List.setIfInBounds_toArray, List.set_cons_zero, List.set_cons_succ]
    refine wpAnyH_ready (rs := [3]) (by kernel_rfl) (by simp) ?_
    refine AllReadyH.cons (o := { dst := some 40, op := _, type := _, pos := _, after := _, guard := _ }) rfl (fun K hK => ?_) AllReadyH.nil
    go_simp
    go_at_call 38
    refine (p27eac (N3.on (below_dn (Below.refl _ _) 1)) XC.out (by simp; omega)).mono ?_
    rintro e1 v1 ⟨rfl, m1, -⟩
    clear N3
    refine hK.out _ _ m1.bl (fun hHeld => ?_)
    clear hK K
    refine wpAnyH_ready (rs := [6]) (by kernel_rfl) (by simp) ?_
    refine AllReadyH.cons (o := { dst := some 43, op := _, type := _, pos := _, after := _, guard := _ }) rfl (fun K hK => ?_) AllReadyH.nil
    go_simp
    go_at_call 38
    refine (p27eac m1 XO.out (by simp [eachW_len]; omega)).mono ?_
    rintro e1 v2 ⟨rfl, m2, -⟩
    clear m1
    refine hK.out _ _ m2.bl (fun hHeld => ?_)
    clear hK K
    refine wpAnyH_take (i := 7) (oi := { dst := some 44, op := _, type := _, pos := _, after := _, guard := _ }) (v := ?v3_7) rfl (by kernel_rfl) (by kernel_rfl) (by kernel_rfl) (fun _ _ _ h => h) (Or.inl ⟨by rfl, ?hy3_7⟩) hHeld ?_
    case hy3_7 => (intro wq hSw; obtain ⟨s0, s1, s2, s3, s4, s5, s6, s7, s8, s9, s10, s11, s12, s13⟩ := RW.out _ hSw; go_simp; try with_reducible rfl)
    simp only [Act.put, List.setIfInBounds_toArray, List.set_cons_zero, List.set_cons_succ]
    refine wpAnyH_take (i := 8) (oi := { dst := some 45, op := _, type := _, pos := _, after := _, guard := _ }) (v := ?v3_8) rfl (by kernel_rfl) (by kernel_rfl) (by kernel_rfl) (fun _ _ _ h => h) (Or.inl ⟨by rfl, ?hy3_8⟩) hHeld ?_
    case hy3_8 => (intro wq hSw; obtain ⟨s0, s1, s2, s3, s4, s5, s6, s7, s8, s9, s10, s11, s12, s13⟩ := RW.out _ hSw; go_simp; try with_reducible rfl)
    simp only [Act.put, List.setIfInBounds_toArray, List.set_cons_zero, List.set_cons_succ]
    obtain ⟨wsl, hwsl⟩ : ∃ q, q = ([wDay, itB em, itB ed, nm ewd, ese, itB ewk, txKi 3, epr, itB erk] ++ [⟨#[102, 114, 111, 109]⟩, itB efm, itB efd]) ++ eachW ⟨#[119, 105, 116, 104]⟩ eco ++ eachW ⟨#[119, 105, 116, 104, 111, 117, 116]⟩ eom := ⟨_, rfl⟩
    rw [← hwsl] at m2
    replace hwsl := Lib.hid hwsl
    have mb := m2.bl
    obtain ⟨vw, rw0, ow⟩ := m2.row
    obtain ⟨aw, cw, rfl⟩ := own_form ow
    have cw0 := cell_of_row v2 _ 0 _ _ _ rw0
    simp only [List.getElem?_toArray, List.getElem?_cons_zero] at cw0
    refine wpAnyH_ready (rs := [9]) (by kernel_rfl) (by simp) ?_
    refine AllReadyH.cons (o := { dst := some 46, op := _, type := _, pos := _, after := _, guard := _ }) rfl (fun K hK => ?_) AllReadyH.nil
    go_simp
    refine hK.out _ _ mb (fun hHeld => ?_)
    clear hK K
    rcases ow.get with ⟨-, e0⟩ | ⟨g, cap, e0, hI⟩
    · rw [hwsl.out] at e0; simp at e0
    injection e0 with e01 e02 e03
    subst e01 e03
    refine wpAnyH_ready (rs := [10]) (by kernel_rfl) (by simp) ?_
    refine AllReadyH.cons (o := { dst := some 47, op := _, type := _, pos := _, after := _, guard := _ }) rfl (fun K hK => ?_) AllReadyH.nil
    go_simp
    go_at_call 33
    refine (p27jnd hI (by rw [hwsl.out]; simp [eachW_len]; omega) (by rw [hwsl.out]; rw [hl3.out] at HL; exact HL.out)).mono ?_
    rintro e1 v3 ⟨rfl, b3⟩
    have B3 := below_on mb b3
    refine hK.out _ _ B3 (fun hHeld => ?_)
    clear hK K
    refine wpAnyH_ready (rs := [11]) (by kernel_rfl) (by simp) ?_
    refine AllReadyH.cons (o := { dst := some 2, op := _, type := _, pos := _, after := _, guard := _ }) rfl (fun K hK => ?_) AllReadyH.nil
    go_simp
    refine hK.out _ _ B3 (fun hHeld => ?_)
    clear hK K
    refine wpAnyH_done (by kernel_rfl) ?_ _
    go_wp2_with fail
    go_ret
    have B0h : Below w.heap.size w w0 := by rw [hP]; exact B0.out
    have heq : Value.string (txL ⟨ey, em, ed, ewd, ese, ewk, 3, epr, erk, efy, efm, efd, eco, eom⟩) = Value.string (jn wsl) := by rw [hl3.out, hwsl.out]
    exact ⟨congrArg Ending.returned heq.symm, (by have := below_on B0h B3; rw [hP] at this; exact this)⟩
  · have hl3 : txL ⟨ey, em, ed, ewd, ese, ewk, eki, epr, erk, efy, efm, efd, eco, eom⟩ = jn (([wDay, itB em, itB ed, nm ewd, ese, itB ewk, txKi eki, epr, itB erk] ++ eachW ⟨#[119, 105, 116, 104]⟩ eco) ++ eachW ⟨#[119, 105, 116, 104, 111, 117, 116]⟩ eom) := by
      unfold txL lineW frmW
      simp only
      rw [if_neg c3, List.append_nil]
    replace hl3 := Lib.hid hl3
    have cb : (eki == 3) = false := beq_eq_false_iff_ne.2 c3
    go_wp2_with fail
    clear s0 s1 s2 s3 s4 s5 s6 s7 s8 s9 s10 s11 s12 s13
    refine wp_region_held_drew (S := fun u => Below w0.heap.size w0 u) (by kernel_rfl) (below_dn N1.bl 1) (fun hHeld => ?_)
    refine wpAnyH_take (i := 0) (oi := { dst := some 37, op := _, type := _, pos := _, after := _, guard := _ }) (v := ?v4_0) rfl (by kernel_rfl) (by kernel_rfl) (by kernel_rfl) (fun _ _ _ h => h) (Or.inl ⟨by rfl, ?hy4_0⟩) hHeld ?_
    case hy4_0 => (intro wq hSw; obtain ⟨s0, s1, s2, s3, s4, s5, s6, s7, s8, s9, s10, s11, s12, s13⟩ := RW.out _ hSw; go_simp; try with_reducible rfl)
    simp only [Act.put, List.setIfInBounds_toArray, List.set_cons_zero, List.set_cons_succ]
    refine wpAnyH_take (i := 1) (oi := { dst := some 38, op := _, type := _, pos := _, after := _, guard := _ }) (v := ?v4_1) rfl (by kernel_rfl) (by kernel_rfl) (by kernel_rfl) (fun _ _ _ h => h) (Or.inl ⟨by rfl, ?hy4_1⟩) hHeld ?_
    case hy4_1 => (intro wq hSw; obtain ⟨s0, s1, s2, s3, s4, s5, s6, s7, s8, s9, s10, s11, s12, s13⟩ := RW.out _ hSw; go_simp; try with_reducible rfl)
    simp only [Act.put, List.setIfInBounds_toArray, List.set_cons_zero, List.set_cons_succ]
    refine wpAnyH_take (i := 2) (oi := { dst := some 39, op := _, type := _, pos := _, after := _, guard := _ }) (v := ?v4_2) rfl (by kernel_rfl) (by kernel_rfl) (by kernel_rfl) (fun _ _ _ h => h) (Or.inl ⟨by rfl, ?hy4_2⟩) hHeld ?_
    case hy4_2 => (intro wq hSw; obtain ⟨s0, s1, s2, s3, s4, s5, s6, s7, s8, s9, s10, s11, s12, s13⟩ := RW.out _ hSw; go_simp; try with_reducible rfl)
    simp only [Act.put, List.setIfInBounds_toArray, List.set_cons_zero, List.set_cons_succ]
    refine wpAnyH_take (i := 4) (oi := { dst := some 41, op := _, type := _, pos := _, after := _, guard := _ }) (v := ?v4_4) rfl (by kernel_rfl) (by kernel_rfl) (by kernel_rfl) (fun _ _ _ h => h) (Or.inl ⟨by rfl, ?hy4_4⟩) hHeld ?_
    case hy4_4 => (intro wq hSw; obtain ⟨s0, s1, s2, s3, s4, s5, s6, s7, s8, s9, s10, s11, s12, s13⟩ := RW.out _ hSw; go_simp; try with_reducible rfl)
    simp only [Act.put, List.setIfInBounds_toArray, List.set_cons_zero, List.set_cons_succ]
    refine wpAnyH_take (i := 5) (oi := { dst := some 42, op := _, type := _, pos := _, after := _, guard := _ }) (v := ?v4_5) rfl (by kernel_rfl) (by kernel_rfl) (by kernel_rfl) (fun _ _ _ h => h) (Or.inl ⟨by rfl, ?hy4_5⟩) hHeld ?_
    case hy4_5 => (intro wq hSw; obtain ⟨s0, s1, s2, s3, s4, s5, s6, s7, s8, s9, s10, s11, s12, s13⟩ := RW.out _ hSw; go_simp; try with_reducible rfl)
    simp only [Act.put, List.setIfInBounds_toArray, List.set_cons_zero, List.set_cons_succ]
    refine wpAnyH_ready (rs := [3]) (by kernel_rfl) (by simp) ?_
    refine AllReadyH.cons (o := { dst := some 40, op := _, type := _, pos := _, after := _, guard := _ }) rfl (fun K hK => ?_) AllReadyH.nil
    go_simp
    go_at_call 38
    refine (p27eac (N1.on (below_dn (Below.refl _ _) 1)) XC.out (by simp; omega)).mono ?_
    rintro e1 v1 ⟨rfl, m1, -⟩
    clear N1
    refine hK.out _ _ m1.bl (fun hHeld => ?_)
    clear hK K
    refine wpAnyH_ready (rs := [6]) (by kernel_rfl) (by simp) ?_
    refine AllReadyH.cons (o := { dst := some 43, op := _, type := _, pos := _, after := _, guard := _ }) rfl (fun K hK => ?_) AllReadyH.nil
    go_simp
    go_at_call 38
    refine (p27eac m1 XO.out (by simp [eachW_len]; omega)).mono ?_
    rintro e1 v2 ⟨rfl, m2, -⟩
    clear m1
    refine hK.out _ _ m2.bl (fun hHeld => ?_)
    clear hK K
    refine wpAnyH_take (i := 7) (oi := { dst := some 44, op := _, type := _, pos := _, after := _, guard := _ }) (v := ?v4_7) rfl (by kernel_rfl) (by kernel_rfl) (by kernel_rfl) (fun _ _ _ h => h) (Or.inl ⟨by rfl, ?hy4_7⟩) hHeld ?_
    case hy4_7 => (intro wq hSw; obtain ⟨s0, s1, s2, s3, s4, s5, s6, s7, s8, s9, s10, s11, s12, s13⟩ := RW.out _ hSw; go_simp; try with_reducible rfl)
    simp only [Act.put, List.setIfInBounds_toArray, List.set_cons_zero, List.set_cons_succ]
    refine wpAnyH_take (i := 8) (oi := { dst := some 45, op := _, type := _, pos := _, after := _, guard := _ }) (v := ?v4_8) rfl (by kernel_rfl) (by kernel_rfl) (by kernel_rfl) (fun _ _ _ h => h) (Or.inl ⟨by rfl, ?hy4_8⟩) hHeld ?_
    case hy4_8 => (intro wq hSw; obtain ⟨s0, s1, s2, s3, s4, s5, s6, s7, s8, s9, s10, s11, s12, s13⟩ := RW.out _ hSw; go_simp; try with_reducible rfl)
    simp only [Act.put, List.setIfInBounds_toArray, List.set_cons_zero, List.set_cons_succ]
    obtain ⟨wsl, hwsl⟩ : ∃ q, q = [wDay, itB em, itB ed, nm ewd, ese, itB ewk, txKi eki, epr, itB erk] ++ eachW ⟨#[119, 105, 116, 104]⟩ eco ++ eachW ⟨#[119, 105, 116, 104, 111, 117, 116]⟩ eom := ⟨_, rfl⟩
    rw [← hwsl] at m2
    replace hwsl := Lib.hid hwsl
    have mb := m2.bl
    obtain ⟨vw, rw0, ow⟩ := m2.row
    obtain ⟨aw, cw, rfl⟩ := own_form ow
    have cw0 := cell_of_row v2 _ 0 _ _ _ rw0
    simp only [List.getElem?_toArray, List.getElem?_cons_zero] at cw0
    refine wpAnyH_ready (rs := [9]) (by kernel_rfl) (by simp) ?_
    refine AllReadyH.cons (o := { dst := some 46, op := _, type := _, pos := _, after := _, guard := _ }) rfl (fun K hK => ?_) AllReadyH.nil
    go_simp
    refine hK.out _ _ mb (fun hHeld => ?_)
    clear hK K
    rcases ow.get with ⟨-, e0⟩ | ⟨g, cap, e0, hI⟩
    · rw [hwsl.out] at e0; simp at e0
    injection e0 with e01 e02 e03
    subst e01 e03
    refine wpAnyH_ready (rs := [10]) (by kernel_rfl) (by simp) ?_
    refine AllReadyH.cons (o := { dst := some 47, op := _, type := _, pos := _, after := _, guard := _ }) rfl (fun K hK => ?_) AllReadyH.nil
    go_simp
    go_at_call 33
    refine (p27jnd hI (by rw [hwsl.out]; simp [eachW_len]; omega) (by rw [hwsl.out]; rw [hl3.out] at HL; exact HL.out)).mono ?_
    rintro e1 v3 ⟨rfl, b3⟩
    have B3 := below_on mb b3
    refine hK.out _ _ B3 (fun hHeld => ?_)
    clear hK K
    refine wpAnyH_ready (rs := [11]) (by kernel_rfl) (by simp) ?_
    refine AllReadyH.cons (o := { dst := some 2, op := _, type := _, pos := _, after := _, guard := _ }) rfl (fun K hK => ?_) AllReadyH.nil
    go_simp
    refine hK.out _ _ B3 (fun hHeld => ?_)
    clear hK K
    refine wpAnyH_done (by kernel_rfl) ?_ _
    go_wp2_with fail
    go_ret
    have B0h : Below w.heap.size w w0 := by rw [hP]; exact B0.out
    have heq : Value.string (txL ⟨ey, em, ed, ewd, ese, ewk, eki, epr, erk, efy, efm, efd, eco, eom⟩) = Value.string (jn wsl) := by rw [hl3.out, hwsl.out]
    exact ⟨congrArg Ending.returned heq.symm, (by have := below_on B0h B3; rw [hP] at this; exact this)⟩
end Go.Proofs.YtkhicgafhbecfaaGreatDoor
