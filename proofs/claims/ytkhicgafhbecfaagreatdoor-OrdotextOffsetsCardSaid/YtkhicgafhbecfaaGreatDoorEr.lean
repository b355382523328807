/- Package ordotext: a line that is being built. -/
import Derived.Test.YtkhicgafhbecfaaGreatDoorEp
import Derived.Test.YtkhicgafhbecfaaGreatDoorP5
namespace Go.Proofs.YtkhicgafhbecfaaGreatDoor
open Go.RowKit

/-- A line in memory, with the words that it has. -/
structure LnS (w0 : World) (L : Nat) (ws : List ByteArray) (u : World) : Prop where
  row : ∃ v, u.heap[L]? = some (.cells #[v] 72 (0, 0)) ∧ StrsAt (L + 1) v ws u
  bl : Below w0.heap.size w0 u
  lt : w0.heap.size ≤ L
/-- No block but the line's and blocks of strings is changed. -/
def Frs (L : Nat) (u u' : World) : Prop := ∀ (c : Nat) (cs : Array Value) (T : TypeId) (fr : Nat × Nat), u.heap[c]? = some (.cells cs T fr) → c ≠ L → T ≠ 9 → u'.heap[c]? = some (.cells cs T fr)
theorem Frs.trans {L : Nat} {u u' u'' : World} (h : Frs L u u') (h' : Frs L u' u'') : Frs L u u'' := fun c cs T fr a b d => h' c cs T fr (h c cs T fr a b d) b d
theorem Frs.bl {L : Nat} {u u' : World} (h : Below u.heap.size u u') : Frs L u u' := fun _ _ _ _ a _ _ => row_kept a h
theorem Frs.refl (L : Nat) (u : World) : Frs L u u := fun _ _ _ _ a _ _ => a
theorem LnS.on {w0 : World} {L : Nat} {ws : List ByteArray} {u u' : World} (h : LnS w0 L ws u) (hb : Below u.heap.size u u') : LnS w0 L ws u' := by
  obtain ⟨v, r, o⟩ := h.row
  exact ⟨⟨v, row_kept r hb, o.on hb⟩, below_on h.bl hb, h.lt⟩
set_option maxRecDepth 100000 in
set_option maxHeartbeats 1000000 in
theorem p27add {w0 : World} {L : Nat} {ws : List ByteArray} {s : ByteArray} {u : World} (h : LnS w0 L ws u) (hn : ws.length ≤ 1000000) :
    Calls Tryz.prog 61 #[.pointer (some ⟨L, 0, none⟩), .string s] u fun e u' => e = .returned (.tuple #[]) ∧ LnS w0 L (ws ++ [s]) u' ∧ Frs L u u' := by
  obtain ⟨i0, hi, hz0, hz1, hz2⟩ := info_parts infoStr
  obtain ⟨v, r, ow⟩ := h.row
  obtain ⟨a, c, rfl⟩ := own_form ow
  have hLt := row_lt r
  have c0 : u.cell? ⟨L, 0, none⟩ = some (.slice a ws.length c) := by rw [cell_of_row _ _ _ _ _ _ r]; rfl
  have al := al1 u (.cells #[.string s] 9)
  have r1 := row_kept r al
  have ow1 := own_on ow al
  have Fa : Frs L u (u.alloc (.cells #[.string s] 9)) := Frs.bl al
  have ba := below_on h.bl al
  have hlt := h.lt
  clear h ow
  have HH := Lib.hid (⟨r1, ow1, Fa, ba⟩ : _ ∧ _ ∧ _ ∧ _)
  have ow2 := Lib.hid ow1
  clear r1 ow1 Fa ba al r
  go_enter Tryz.func61, Tryz.ntmps61
  go_wp2_with (at_builtin; refine wpList_append_lies _ rfl _ _ 70 rfl (L + 1) 9 i0 (.string ⟨#[]⟩) 1 16 Tryz.underlying70 hi hz0 hz1 hz2 rfl (by decide) (.slice a ws.length c) ws.length (ws.map Value.string) rfl ow2.out ⟨u.heap.size, 0, none⟩ 1 1 [.string s] rfl rfl (cell_one_new u (.string s) 9) (by simp [Value.oneCell']) (by decide) (by unfold maxLen; omega) (by omega) (by simp; omega) _ rfl ?_; intro gN capN wz hown hgrow hnew hltN; have rz := row_grow HH.out.1 HH.out.2.1 (Nat.lt_succ_self L) hgrow; have q0 : wz.cell? ⟨L, 0, none⟩ = some (.slice a ws.length c) := (cell_of_row wz L 0 _ _ _ rz); have q1 : wz.frozen? ⟨L, 0, none⟩ = false := frozen_of_row wz L 0 _ _ rz)
  go_end0
  have g0 := Bt.set L wz 0 (.slice (some ⟨gN, 0, none⟩) (ws.length + 1) capN)
  have hbz : Below w0.heap.size w0 wz := HH.out.2.2.2.grown hgrow (Nat.le_trans hlt (by simp; omega)) (fun k e => Nat.le_trans hlt (Nat.le_of_succ_le (World.ownsRow.lt HH.out.2.1 k e).1))
  refine ⟨rfl, ⟨⟨_, heap_setCell_same wz L 0 _ _ _ rz, ?_⟩, hbz.setCell (p := ⟨L, 0, none⟩) hlt _, hlt⟩, HH.out.2.2.1.trans fun cc cs T fr hc hne hT => ?_⟩
  · have : wz.ownsRow (L + 1) 9 1 (.slice (some ⟨gN, 0, none⟩) (ws.length + 1) capN) (ws ++ [s]).length ((ws ++ [s]).map Value.string) := by
      rw [List.length_append, List.map_append]; exact hown
    exact own_bt this g0 (Nat.lt_succ_self L)
  · refine g0.row hne ?_
    rw [hgrow.block cc (row_lt hc) (fun e => ?_)]
    · exact hc
    · rcases HH.out.2.1.2 with ⟨e1, _⟩ | ⟨g, cap, cur, e1, _, hg, _⟩
      · rw [e1] at e; cases e
      · rw [e1] at e
        obtain rfl : cc = g := by simpa [Value.ownBlock] using e
        rw [hc] at hg
        injection hg with hg
        injection hg with _ h3
        exact hT h3
theorem p27wrd {w0 : World} {L : Nat} {ws : List ByteArray} {s : ByteArray} {u : World} (h : LnS w0 L ws u) (hn : ws.length ≤ 1000000) :
    Calls Tryz.prog 31 #[.pointer (some ⟨L, 0, none⟩), .string s] u fun e u' => e = .returned (.pointer (some ⟨L, 0, none⟩)) ∧ LnS w0 L (ws ++ [s]) u' ∧ Frs L u u' := by
  have H := Lib.hid (p27add (s := s) h hn)
  clear h hn
  go_enter Tryz.func31, Tryz.ntmps31
  go_wp2_with fail
  refine H.out.mono ?_
  rintro e u1 ⟨rfl, h1, h2⟩
  go_wp2_with fail
  go_ret
  exact ⟨rfl, h1, h2⟩
theorem p27nmb {w0 : World} {L : Nat} {ws : List ByteArray} {n : Int} {u : World} (h : LnS w0 L ws u) (hT : T26 w0) (hi : inT n = true) (hn : ws.length ≤ 1000000) :
    Calls Tryz.prog 32 #[.pointer (some ⟨L, 0, none⟩), .int .i64 n] u fun e u' => e = .returned (.pointer (some ⟨L, 0, none⟩)) ∧ LnS w0 L (ws ++ [itB n]) u' ∧ Frs L u u' := by
  have H1 := Lib.hid (p26ito hi u (hT.on h.bl))
  have H2 := Lib.hid (fun (u' : World) (hb : Below u.heap.size u u') => p27wrd (s := itB n) (h.on hb) hn)
  clear h hn hi
  generalize itB n = t at *
  go_enter Tryz.func32, Tryz.ntmps32
  go_wp2_with fail
  refine H1.out.mono ?_
  rintro e u1 ⟨rfl, b1⟩
  go_wp2_with fail
  refine (H2.out _ b1).mono ?_
  rintro e u2 ⟨rfl, h1, h2⟩
  have F := (Frs.bl (L := L) b1).trans h2
  go_wp2_with fail
  go_ret
  exact ⟨rfl, h1, F⟩
set_option maxRecDepth 100000 in
theorem p27jnd {g cap : Nat} {xs : List ByteArray} {w : World} (hI : StrsIn g cap xs w) (h1 : xs.length ≤ 100000) (hl : (jn xs).size ≤ 10000000) : Calls Tryz.prog 33 #[.slice (some ⟨g, 0, none⟩) xs.length cap] w fun e w' => e = .returned (.string (jn xs)) ∧ Below w.heap.size w w' := by
  have H := Lib.hid (fun u (h : StrsIn g cap xs u) => sh_strings_Join g 0 cap xs wSp u (fun j x hj => by
    have hlt := (List.getElem?_eq_some_iff.1 hj).1
    rw [Nat.zero_add, h.cell j hlt, List.getD_eq_getElem?_getD, hj]; rfl) h.lt (by omega) h.le (by rw [jn_lib]; simp; omega))
  have HI := Lib.hid hI
  have HE := Lib.hid (show (⟨(Lib.join (xs.map (·.data.toList)) wSp.data.toList).toArray⟩ : ByteArray) = jn xs by rw [jn_lib, Lib.mk_data])
  clear hI
  go_enter Tryz.func33, Tryz.ntmps33
  go_wp2_with fail
  refine (H.out w HI.out).mono ?_
  rintro e w' ⟨rfl, hb⟩
  rw [HE.out]
  go_wp2_with fail
  go_ret
  exact ⟨rfl, hb⟩
theorem p27kwd {k : Int} (h : 1 ≤ k ∧ k ≤ 3) (w : World) : Calls Tryz.prog 37 #[.int .i64 k] w fun e w' => e = .returned (.string (txKi k)) ∧ Below w.heap.size w w' := by
  have HK := Lib.hid (fun u : World => kw27 u)
  have : k = 1 ∨ k = 2 ∨ k = 3 := by omega
  clear h
  rcases this with rfl | rfl | rfl
  all_goals
    go_enter Tryz.func37, Tryz.ntmps37
    go_wp2_with fail
    refine (HK.out _).mono ?_
    rintro e u ⟨rfl, hI, hb⟩
    have k0 := hI.cell 0 (by decide)
    have k1 := hI.cell 1 (by decide)
    have k2 := hI.cell 2 (by decide)
    simp only [lKi, List.getD_cons_zero, List.getD_cons_succ] at k0 k1 k2
    go_wp2_with fail
    go_ret
    exact ⟨rfl, hb⟩
set_option maxRecDepth 100000 in
set_option maxHeartbeats 1000000 in
theorem p27day {w0 : World} {L : Nat} {ws : List ByteArray} {y m d : Int} {u : World} (h : LnS w0 L ws u) (hT : T26 w0) (hm : inT m = true) (hd : inT d = true) (hn : ws.length + 1 ≤ 1000000) :
    Calls Tryz.prog 35 #[.pointer (some ⟨L, 0, none⟩), .agg #[.int .i64 y, .int .i64 m, .int .i64 d]] u fun e u' => e = .returned (.pointer (some ⟨L, 0, none⟩)) ∧ LnS w0 L ((ws ++ [itB m]) ++ [itB d]) u' ∧ Frs L u u' := by
  have H1 := Lib.hid (fun (u' : World) (h : LnS w0 L ws u') => p27nmb h hT hm (by omega))
  have H2 := Lib.hid (fun (u' : World) (h : LnS w0 L (ws ++ [itB m]) u') => p27nmb h hT hd (by rw [List.length_append]; exact hn))
  have al := al1 u (.cells #[.int .i64 y, .int .i64 m, .int .i64 d] 37)
  have LL := Lib.hid ((h.on al).on (below_dn (Below.refl _ _) 1))
  have hLn : u.heap.size ≠ L := by obtain ⟨v, r, -⟩ := h.row; have := row_lt r; omega
  have R0 : (u.alloc (.cells #[.int .i64 y, .int .i64 m, .int .i64 d] 37)).heap[u.heap.size]? = _ := heap_alloc_new u _
  have F0 := Lib.hid ((Frs.bl (L := L) al).trans (Frs.bl (below_dn (Below.refl _ _) 1)))
  clear h al hn
  generalize itB m = t1 at *
  generalize itB d = t2 at *
  go_enter Tryz.func35, Tryz.ntmps35
  go_wp2_with fail
  refine wp_region_held_drew (S := fun u_ => u_.heap[u.heap.size]? = some (.cells #[.int .i64 y, .int .i64 m, .int .i64 d] 37 (0, 0))) (by kernel_rfl) (row_dn R0 1) (fun hHeld => ?_)
  refine wpAnyH_take (i := 0) (oi := { dst := some 5, op := _, type := _, pos := _, after := _, guard := _ }) (v := ?v1_0) rfl (by kernel_rfl) (by kernel_rfl) (by kernel_rfl) (fun _ _ _ h => h) (Or.inl ⟨by rfl, ?hy1_0⟩) hHeld ?_
  case hy1_0 => (intro wq hSw; have s1 := cell_of_row wq u.heap.size 1 _ _ _ hSw; have s2 := cell_of_row wq u.heap.size 2 _ _ _ hSw; go_simp; try with_reducible rfl)
  simp only [Act.put, List.setIfInBounds_toArray, List.set_cons_zero, List.set_cons_succ]
  refine wpAnyH_take (i := 1) (oi := { dst := some 6, op := _, type := _, pos := _, after := _, guard := _ }) (v := ?v1_1) rfl (by kernel_rfl) (by kernel_rfl) (by kernel_rfl) (fun _ _ _ h => h) (Or.inl ⟨by rfl, ?hy1_1⟩) hHeld ?_
  case hy1_1 => (intro wq hSw; have s1 := cell_of_row wq u.heap.size 1 _ _ _ hSw; have s2 := cell_of_row wq u.heap.size 2 _ _ _ hSw; go_simp; try with_reducible rfl)
  simp only [Act.put, List.setIfInBounds_toArray, List.set_cons_zero, List.set_cons_succ]
  refine wpAnyH_take (i := 2) (oi := { dst := some 7, op := _, type := _, pos := _, after := _, guard := _ }) (v := ?v1_2) rfl (by kernel_rfl) (by kernel_rfl) (by kernel_rfl) (fun _ _ _ h => h) (Or.inl ⟨by rfl, ?hy1_2⟩) hHeld ?_
  case hy1_2 => (intro wq hSw; have s1 := cell_of_row wq u.heap.size 1 _ _ _ hSw; have s2 := cell_of_row wq u.heap.size 2 _ _ _ hSw; go_simp; try with_reducible rfl)
  simp only [Act.put, List.setIfInBounds_toArray, List.set_cons_zero, List.set_cons_succ]
  refine wpAnyH_take (i := 4) (oi := { dst := some 9, op := _, type := _, pos := _, after := _, guard := _ }) (v := ?v1_4) rfl (by kernel_rfl) (by kernel_rfl) (by kernel_rfl) (fun _ _ _ h => h) (Or.inl ⟨by rfl, ?hy1_4⟩) hHeld ?_
  case hy1_4 => (intro wq hSw; have s1 := cell_of_row wq u.heap.size 1 _ _ _ hSw; have s2 := cell_of_row wq u.heap.size 2 _ _ _ hSw; go_simp; try with_reducible rfl)
  simp only [Act.put, List.setIfInBounds_toArray, List.set_cons_zero, List.set_cons_succ]
  refine wpAnyH_take (i := 5) (oi := { dst := some 10, op := _, type := _, pos := _, after := _, guard := _ }) (v := ?v1_5) rfl (by kernel_rfl) (by kernel_rfl) (by kernel_rfl) (fun _ _ _ h => h) (Or.inl ⟨by rfl, ?hy1_5⟩) hHeld ?_
  case hy1_5 => (intro wq hSw; have s1 := cell_of_row wq u.heap.size 1 _ _ _ hSw; have s2 := cell_of_row wq u.heap.size 2 _ _ _ hSw; go_simp; try with_reducible rfl)
  simp only [Act.put, List.setIfInBounds_toArray, List.set_cons_zero, List.set_cons_succ]
  refine wpAnyH_ready (rs := [3]) (by kernel_rfl) (by simp) ?_
  refine AllReadyH.cons (o := { dst := some 8, op := _, type := _, pos := _, after := _, guard := _ }) rfl (fun K hK => ?_) AllReadyH.nil
  go_simp
  go_at_call 32
  refine (H1.out _ LL.out).mono ?_
  rintro e1 u1 ⟨rfl, l1, f1⟩
  have R1 := f1 _ _ _ _ hHeld hLn (by decide)
  refine hK.out _ _ R1 (fun hHeld => ?_)
  clear hK K
  refine wpAnyH_ready (rs := [6]) (by kernel_rfl) (by simp) ?_
  refine AllReadyH.cons (o := { dst := some 11, op := _, type := _, pos := _, after := _, guard := _ }) rfl (fun K hK => ?_) AllReadyH.nil
  go_simp
  go_at_call 32
  refine (H2.out _ l1).mono ?_
  rintro e2 u2 ⟨rfl, l2, f2⟩
  have R2 := f2 _ _ _ _ R1 hLn (by decide)
  refine hK.out _ _ R2 (fun hHeld => ?_)
  clear hK K
  refine wpAnyH_ready (rs := [7]) (by kernel_rfl) (by simp) ?_
  refine AllReadyH.cons (o := { dst := some 4, op := _, type := _, pos := _, after := _, guard := _ }) rfl (fun K hK => ?_) AllReadyH.nil
  go_simp
  refine hK.out _ _ R2 (fun hHeld => ?_)
  clear hK K
  refine wpAnyH_done (by kernel_rfl) ?_ _
  go_wp2_with fail
  go_ret
  exact ⟨rfl, l2, (F0.out.trans f1).trans f2⟩
def eachW (wd : ByteArray) : List ByteArray → List ByteArray
  | [] => []
  | s :: l => wd :: s :: eachW wd l
theorem eachW_take {wd : ByteArray} : ∀ (l : List ByteArray) (k : Nat) (s : ByteArray), l[k]? = some s → eachW wd (l.take (k + 1)) = (eachW wd (l.take k) ++ [wd]) ++ [s]
  | [], k, s, h => by simp at h
  | x :: l, 0, s, h => by
    obtain rfl : x = s := by simpa using h
    simp [eachW]
  | x :: l, k + 1, s, h => by
    rw [List.take_succ_cons, List.take_succ_cons]
    simp only [eachW]
    rw [eachW_take l k s (by simpa using h)]; rfl
theorem eachW_len {wd : ByteArray} : ∀ l : List ByteArray, (eachW wd l).length = 2 * l.length
  | [] => rfl
  | x :: l => by simp only [eachW, List.length_cons, eachW_len l]; omega
set_option maxRecDepth 100000 in
set_option maxHeartbeats 1000000 in
theorem p27eac {w0 : World} {L : Nat} {ws xs : List ByteArray} {wd : ByteArray} {v : Value} {u : World} (h : LnS w0 L ws u) (hx : TxAt w0 v xs) (hn : ws.length + 2 * xs.length ≤ 1000000) :
    Calls Tryz.prog 38 #[.pointer (some ⟨L, 0, none⟩), .string wd, v] u fun e u' => e = .returned (.pointer (some ⟨L, 0, none⟩)) ∧ LnS w0 L (ws ++ eachW wd xs) u' ∧ Frs L u u' := by
  have HW := Lib.hid (fun (u' : World) (ws' : List ByteArray) (s : ByteArray) (h : LnS w0 L ws' u') (hn : ws'.length ≤ 1000000) => p27wrd (s := s) h hn)
  obtain ⟨A, cap, rfl, _, _, a1⟩ := hx
  have Q := Lib.hid a1
  have H0 := Lib.hid h
  clear a1 h
  go_enter Tryz.func38, Tryz.ntmps38
  go_wp2_with fail
  go_loopw [11] (fun i wr => ∃ k : Nat, k ≤ xs.length ∧ i = .int .i64 k ∧ Hid (LnS w0 L (ws ++ eachW wd (xs.take k)) wr ∧ Frs L u wr)) (fun i _ => xs.length - (intOf i).toNat)
  case atStart => exact ⟨0, Nat.zero_le _, rfl, Lib.hid ⟨by rw [List.take_zero]; show LnS w0 L (ws ++ []) u; rw [List.append_nil]; exact H0.out, Frs.refl _ _⟩⟩
  case round =>
    obtain ⟨k, hk, rfl, hR⟩ := hrel
    by_cases hlt : k < xs.length
    · obtain ⟨s, hs⟩ : ∃ s, xs[k]? = some s := ⟨_, List.getElem?_eq_getElem hlt⟩
      obtain ⟨b1, o1, rfl, l1, g1⟩ := Q.out k s hs
      have k1 : wr.cell? ⟨b1, o1 + k, none⟩ = some (.string s) := by rw [hR.out.1.bl.cell l1]; exact g1
      have htk := Lib.hid (eachW_take (wd := wd) xs k s hs)
      have hle : (eachW wd (xs.take k)).length ≤ 2 * k := by rw [eachW_len, List.length_take]; omega
      clear hs g1 l1
      generalize eachW wd (xs.take k) = ek at *
      go_wp2_with fail
      refine (HW.out wr _ wd hR.out.1 (by rw [List.length_append]; omega)).mono ?_
      rintro e1 u1 ⟨rfl, h1, f1⟩
      have H1 := Lib.hid h1
      have F1 := Lib.hid (hR.out.2.trans f1)
      clear h1 f1
      go_wp2_with fail
      refine (HW.out u1 _ s H1.out (by rw [List.length_append, List.length_append]; simp only [List.length_cons, List.length_nil]; omega)).mono ?_
      rintro e2 u2 ⟨rfl, h2, f2⟩
      have H2 := Lib.hid h2
      have F2 := Lib.hid (F1.out.trans f2)
      clear h2 f2
      go_wp2_with fail
      go_roundw
      case rel => exact ⟨k + 1, by omega, by go_num, Lib.hid ⟨by rw [htk.out, ← List.append_assoc, ← List.append_assoc]; exact H2.out, F2.out⟩⟩
      case measure => simp [intOf]; omega
    · obtain rfl : k = xs.length := by omega
      go_wp2_with fail
      go_ret
      have hA := hR.out
      rw [List.take_length] at hA
      exact ⟨rfl, hA⟩
end Go.Proofs.YtkhicgafhbecfaaGreatDoor
