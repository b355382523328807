/- Package cattext: the parts of a text as Print makes them. -/
import Derived.Test.YthmfhgehahpgbaaGreatDoorYk
import Derived.Deep.RegionHeld3
import Derived.Lib.Join
namespace Go.Proofs.YthmfhgehahpgbaaGreatDoor
open Go.RowKit

/-! the tables that Print reads -/
structure T26 (w : World) : Prop where
  wk : WTab w
  pw : ∃ t fr, w.heap[0]? = some (.cells (Lib.pow10Tab.map fun z => Value.int .u64 z).toArray t fr)
theorem T26.heap {w : World} (h : T26 w) : 0 < w.heap.size := by
  obtain ⟨t, fr, e⟩ := h.pw
  exact row_lt e
theorem T26.below {w w' : World} {n : Nat} (h : T26 w) (hb : Below n w w') (h1 : 1 < n) (h2 : 0 < n) : T26 w' := by
  obtain ⟨t, fr, e⟩ := h.pw
  exact ⟨h.wk.below hb h1, t, fr, by rw [hb.block _ h2]; exact e⟩
theorem T26.on {w w' : World} (h : T26 w) (hb : Below w.heap.size w w') : T26 w' := h.below hb h.wk.heap h.heap
theorem gPow : Tryz.prog.globalNamed "internal/strconv.uint64pow10" = some 0 := by kernel_rfl
theorem T26.tab {w : World} (h : T26 w) : Lib.TabIs Tryz.prog w "internal/strconv.uint64pow10" .u64 Lib.pow10Tab := by
  obtain ⟨t, fr, e⟩ := h.pw
  unfold Lib.TabIs World.var?
  rw [gPow, Option.bind_some, e]
/-! numbers -/
theorem dec_lib : ∀ (f n : Nat), (n : Int) < pw f → 1 ≤ f → (dcF f n).data.toList = Lib.decDigits n := by
  have one : ∀ r : Nat, r < 10 → (dgS.extract r (r + 1)).data.toList = [UInt8.ofNat (48 + r)] := by decide +kernel
  intro f
  induction f with
  | zero => intro n _ h; omega
  | succ f ih =>
    intro n hn _
    have e : pw (f + 1) = 10 * pw f := rfl
    unfold dcF
    by_cases c : n < 10
    · rw [if_pos c, Lib.decDigits_one c, one n c]
    · have f1 : 1 ≤ f := by
        rcases Nat.eq_zero_or_pos f with q | q
        · subst q
          have : pw 0 = 1 := rfl
          omega
        · exact q
      rw [if_neg c, Lib.decDigits, dif_neg c, ByteArray.data_append, Array.toList_append, ih (n / 10) (by omega) f1, one (n % 10) (by omega)]
theorem itB_lib {n : Int} (h : inT n = true) : (⟨(Lib.itoa n).toArray⟩ : ByteArray) = itB n := by
  obtain ⟨h1, h2⟩ := inT_iff.1 h
  have p10 : pw 10 = 10000000000 := rfl
  rw [← Lib.mk_data (itB n)]
  congr 2
  unfold Lib.itoa itB
  by_cases c : n < 0
  · rw [if_pos c, if_pos c, ByteArray.data_append, Array.toList_append, dec_lib 10 n.natAbs (by omega) (by decide)]; rfl
  · rw [if_neg c, if_neg c, dec_lib 10 n.natAbs (by omega) (by decide), show n.toNat = n.natAbs by omega]
theorem itB_size {n : Int} (h : inT n = true) : (itB n).size ≤ 11 := by
  obtain ⟨h1, h2⟩ := inT_iff.1 h
  have := (dec_of (n := n.natAbs) (by omega)).l2
  unfold itB
  split
  · rw [ByteArray.size_append]; show 1 + _ ≤ 11; omega
  · omega
theorem p26ito {n : Int} (h : inT n = true) (w : World) (hT : T26 w) : Calls Tryz.prog 31 #[.int .i64 n] w fun e w' => e = .returned (.string (itB n)) ∧ Below w.heap.size w w' := by
  obtain ⟨h1, h2⟩ := inT_iff.1 h
  refine (sh_strconv_Itoa n (by omega) (by omega) w hT.tab).mono ?_
  rintro e w' ⟨rfl, k, os, rfl⟩
  refine ⟨by rw [itB_lib h], rfl, rfl, rfl, ?_, fun i hi => ?_⟩
  · show w.heap.size ≤ (w.heap ++ os).size
    rw [Array.size_append]; omega
  · show (w.heap ++ os)[i]? = _
    rw [Array.getElem?_append_left hi]
/-! words joined -/
def jn : List ByteArray → ByteArray
  | [] => ByteArray.empty
  | [a] => a
  | a :: b :: l => a ++ (wSp ++ jn (b :: l))
theorem jn_lib : ∀ xs : List ByteArray, Lib.join (xs.map (·.data.toList)) wSp.data.toList = (jn xs).data.toList
  | [] => rfl
  | [a] => Lib.join_one _ _
  | a :: b :: l => by
    have ih := jn_lib (b :: l)
    rw [List.map_cons, Lib.join_cons] at ih ⊢
    show _ ++ Lib.joinTail _ (b.data.toList :: l.map (·.data.toList)) = (a ++ (wSp ++ jn (b :: l))).data.toList
    rw [ByteArray.data_append, Array.toList_append, ByteArray.data_append, Array.toList_append, ← ih]
    unfold Lib.joinTail
    simp
set_option maxRecDepth 100000 in
theorem p26joi {g cap : Nat} {xs : List ByteArray} {w : World} (hI : StrsIn g cap xs w) (h1 : xs.length ≤ 1000) (hl : (jn xs).size ≤ 1000000) : Calls Tryz.prog 55 #[.slice (some ⟨g, 0, none⟩) xs.length cap] w fun e w' => e = .returned (.string (jn xs)) ∧ Below w.heap.size w w' := by
  have H := Lib.hid (fun u (h : StrsIn g cap xs u) => sh_strings_Join g 0 cap xs wSp u (fun j x hj => by
    have hlt := (List.getElem?_eq_some_iff.1 hj).1
    rw [Nat.zero_add, h.cell j hlt, List.getD_eq_getElem?_getD, hj]; rfl) h.lt (by omega) h.le (by rw [jn_lib]; simp; omega))
  have HI := Lib.hid hI
  have HE := Lib.hid (show (⟨(Lib.join (xs.map (·.data.toList)) wSp.data.toList).toArray⟩ : ByteArray) = jn xs by rw [jn_lib, Lib.mk_data])
  clear hI
  go_enter Tryz.func55, Tryz.ntmps55
  go_wp2_with fail
  refine (H.out w HI.out).mono ?_
  rintro e w' ⟨rfl, hb⟩
  rw [HE.out]
  go_wp2_with fail
  go_ret
  exact ⟨rfl, hb⟩
set_option maxRecDepth 100000 in
theorem p26lin {g cap : Nat} {xs : List ByteArray} {w : World} (hI : StrsIn g cap xs w) (h1 : xs.length ≤ 1000) (hl : (jn xs).size ≤ 1000000) : Calls Tryz.prog 30 #[.slice (some ⟨g, 0, none⟩) xs.length cap] w fun e w' => e = .returned (.string (jn xs ++ wLf)) ∧ Below w.heap.size w w' := by
  have H := Lib.hid (p26joi hI h1 hl)
  have HA := Lib.hid hl
  have hadd : ∀ u, (Op.stringOp .add (jn xs) ⟨#[10]⟩).run Tryz.prog u = .ok (.string (jn xs ++ ⟨#[10]⟩)) u := fun u => by
    rw [run_string_add_if, if_neg]
    have : (ByteArray.mk #[10]).size = 1 := rfl
    omega
  clear hI hl
  generalize jn xs = t at *
  go_enter Tryz.func30, Tryz.ntmps30
  go_wp2_with fail
  refine H.out.mono ?_
  rintro e w' ⟨rfl, hb⟩
  go_wp2_with fail
  go_ret
  exact ⟨rfl, hb⟩
theorem lit5 {w : World} (a b c d e : ByteArray) (t : TypeId) : StrsIn w.heap.size 5 [a, b, c, d, e] (w.alloc (.cells #[.string a, .string b, .string c, .string d, .string e] t)) :=
  ⟨by simp, Nat.le_refl _, by decide, fun i hi => by
    have : i = 0 ∨ i = 1 ∨ i = 2 ∨ i = 3 ∨ i = 4 := by simp at hi; omega
    rcases this with rfl | rfl | rfl | rfl | rfl
    · rw [cell_of_row _ _ 0 _ _ _ (heap_alloc_new w _)]; rfl
    · rw [cell_of_row _ _ 1 _ _ _ (heap_alloc_new w _)]; rfl
    · rw [cell_of_row _ _ 2 _ _ _ (heap_alloc_new w _)]; rfl
    · rw [cell_of_row _ _ 3 _ _ _ (heap_alloc_new w _)]; rfl
    · rw [cell_of_row _ _ 4 _ _ _ (heap_alloc_new w _)]; rfl⟩
/-! anchors -/
structure SA (w0 : World) (P : Nat) (k m d o w c : Int) (u : World) : Prop where
  row : u.heap[P]? = some (.cells #[.int .i64 k, .int .i64 m, .int .i64 d, .int .i64 o, .int .i64 w, .int .i64 c] 39 (0, 0))
  t : T26 u
  bl : Below w0.heap.size w0 u
theorem SA.on {w0 : World} {P : Nat} {k m d o w c : Int} {u u' : World} (h : SA w0 P k m d o w c u) (hb : Below u.heap.size u u') : SA w0 P k m d o w c u' := ⟨row_kept h.row hb, h.t.on hb, below_on h.bl hb⟩
theorem SA.cells {w0 : World} {P : Nat} {k m d o w c : Int} {u : World} (h : SA w0 P k m d o w c u) : u.cell? ⟨P, 0, none⟩ = some (.int .i64 k) ∧ u.cell? ⟨P, 1, none⟩ = some (.int .i64 m) ∧ u.cell? ⟨P, 2, none⟩ = some (.int .i64 d) ∧ u.cell? ⟨P, 3, none⟩ = some (.int .i64 o) ∧ u.cell? ⟨P, 4, none⟩ = some (.int .i64 w) ∧ u.cell? ⟨P, 5, none⟩ = some (.int .i64 c) := by
  refine ⟨?_, ?_, ?_, ?_, ?_, ?_⟩ <;> (rw [cell_of_row _ _ _ _ _ _ h.row]; rfl)
theorem SA.new {w : World} (hT : T26 w) (k m d o x c : Int) : SA w w.heap.size k m d o x c (w.alloc (.cells #[.int .i64 k, .int .i64 m, .int .i64 d, .int .i64 o, .int .i64 x, .int .i64 c] 39)) := ⟨heap_alloc_new w _, hT.on (al1 w _), al1 w _⟩
set_option maxRecDepth 100000 in
set_option maxHeartbeats 2000000 in
theorem p26fxt {k m d o x c : Int} {w : World} (hT : T26 w) (h1 : inT m = true) (h2 : inT d = true) : Calls Tryz.prog 74 #[.agg #[.int .i64 k, .int .i64 m, .int .i64 d, .int .i64 o, .int .i64 x, .int .i64 c]] w fun e w' => e = .returned (.string (jn [wFix, itB m, itB d])) ∧ Below w.heap.size w w' := by
  have S0 := Lib.hid ((SA.new hT k m d o x c).on (below_dn (Below.refl _ _) 1))
  have HJ := Lib.hid (fun (u : World) => p26joi (xs := [wFix, itB m, itB d]) (w := u.alloc (.cells #[.string (wFix), .string (itB m), .string (itB d)] 9)) (lit3 (wFix) (itB m) (itB d) _) (by simp) (by have a1 := itB_size h1; have a2 := itB_size h2; simp only [jn, ByteArray.size_append]; have e1 : wFix.size = 5 := rfl; have e2 : wSp.size = 1 := rfl; omega))
  have HC0 := Lib.hid (fun (u : World) (hu : SA w w.heap.size k m d o x c u) => (p26ito h1 u hu.t).mono (R' := fun e u' => e = .returned (.string (itB m)) ∧ SA w w.heap.size k m d o x c u') fun e u' hh => ⟨hh.1, hu.on hh.2⟩)
  have HC1 := Lib.hid (fun (u : World) (hu : SA w w.heap.size k m d o x c u) => (p26ito h2 u hu.t).mono (R' := fun e u' => e = .returned (.string (itB d)) ∧ SA w w.heap.size k m d o x c u') fun e u' hh => ⟨hh.1, hu.on hh.2⟩)
  generalize hw0 : itB m = t0 at *
  generalize hw1 : itB d = t1 at *
  clear hw0 hw1
  go_enter Tryz.func74, Tryz.ntmps74
  go_wp2_with fail
  refine wp_region_held_drew (S := fun u => SA w w.heap.size k m d o x c u) (by kernel_rfl) S0.out (fun hHeld => ?_)
  refine wpAnyH_take (i := 0) (oi := { dst := some 3, op := _, type := _, pos := _, after := _, guard := _ }) (v := ?v1_0) rfl (by kernel_rfl) (by kernel_rfl) (by kernel_rfl) (fun _ _ _ h => h) (Or.inl ⟨by rfl, ?hy1_0⟩) hHeld ?_
  case hy1_0 => (intro w hSw; obtain ⟨s0, s1, s2, s3, s4, s5⟩ := (SA.cells hSw); go_simp; try with_reducible rfl)
  simp only [Act.put, List.setIfInBounds_toArray, List.set_cons_zero, List.set_cons_succ]
  refine wpAnyH_take (i := 1) (oi := { dst := some 4, op := _, type := _, pos := _, after := _, guard := _ }) (v := ?v1_1) rfl (by kernel_rfl) (by kernel_rfl) (by kernel_rfl) (fun _ _ _ h => h) (Or.inl ⟨by rfl, ?hy1_1⟩) hHeld ?_
  case hy1_1 => (intro w hSw; obtain ⟨s0, s1, s2, s3, s4, s5⟩ := (SA.cells hSw); go_simp; try with_reducible rfl)
  simp only [Act.put, List.setIfInBounds_toArray, List.set_cons_zero, List.set_cons_succ]
  refine wpAnyH_take (i := 3) (oi := { dst := some 6, op := _, type := _, pos := _, after := _, guard := _ }) (v := ?v1_3) rfl (by kernel_rfl) (by kernel_rfl) (by kernel_rfl) (fun _ _ _ h => h) (Or.inl ⟨by rfl, ?hy1_3⟩) hHeld ?_
  case hy1_3 => (intro w hSw; obtain ⟨s0, s1, s2, s3, s4, s5⟩ := (SA.cells hSw); go_simp; try with_reducible rfl)
  simp only [Act.put, List.setIfInBounds_toArray, List.set_cons_zero, List.set_cons_succ]
  refine wpAnyH_take (i := 4) (oi := { dst := some 7, op := _, type := _, pos := _, after := _, guard := _ }) (v := ?v1_4) rfl (by kernel_rfl) (by kernel_rfl) (by kernel_rfl) (fun _ _ _ h => h) (Or.inl ⟨by rfl, ?hy1_4⟩) hHeld ?_
  case hy1_4 => (intro w hSw; obtain ⟨s0, s1, s2, s3, s4, s5⟩ := (SA.cells hSw); go_simp; try with_reducible rfl)
  simp only [Act.put, List.setIfInBounds_toArray, List.set_cons_zero, List.set_cons_succ]
  refine wpAnyH_ready (rs := [2]) (by kernel_rfl) (by simp) ?_
  refine AllReadyH.cons (o := { dst := some 5, op := _, type := _, pos := _, after := _, guard := _ }) rfl (fun K hK => ?_) AllReadyH.nil
  go_simp
  go_at_call 31
  refine (HC0.out _ (by assumption)).mono ?_
  rintro ee0 u0 ⟨rfl, hs0⟩
  refine hK.out _ _ hs0 (fun hHeld => ?_)
  clear hK K
  refine wpAnyH_ready (rs := [5]) (by kernel_rfl) (by simp) ?_
  refine AllReadyH.cons (o := { dst := some 8, op := _, type := _, pos := _, after := _, guard := _ }) rfl (fun K hK => ?_) AllReadyH.nil
  go_simp
  go_at_call 31
  refine (HC1.out _ (by assumption)).mono ?_
  rintro ee1 u1 ⟨rfl, hs1⟩
  refine hK.out _ _ hs1 (fun hHeld => ?_)
  clear hK K
  refine wpAnyH_ready (rs := [6]) (by kernel_rfl) (by simp) ?_
  refine AllReadyH.cons (o := { dst := some 9, op := _, type := _, pos := _, after := _, guard := _ }) rfl (fun K hK => ?_) AllReadyH.nil
  go_simp
  refine hK.out _ _ (hs1.on (al1 _ _)) (fun hHeld => ?_)
  clear hK K
  refine wpAnyH_ready (rs := [7]) (by kernel_rfl) (by simp) ?_
  refine AllReadyH.cons (o := { dst := some 10, op := _, type := _, pos := _, after := _, guard := _ }) rfl (fun K hK => ?_) AllReadyH.nil
  go_simp
  go_at_call 55
  refine (HJ.out u1).mono ?_
  rintro eeJ uJ ⟨rfl, hbJ⟩
  refine hK.out _ _ ((hs1.on (al1 _ _)).on hbJ) (fun hHeld => ?_)
  clear hK K
  refine wpAnyH_take (i := 8) (oi := { dst := some 2, op := _, type := _, pos := _, after := _, guard := _ }) (v := ?v1_8) rfl (by kernel_rfl) (by kernel_rfl) (by kernel_rfl) (fun _ _ _ h => h) (Or.inl ⟨by rfl, ?hy1_8⟩) hHeld ?_
  case hy1_8 => (intro w hSw; obtain ⟨s0, s1, s2, s3, s4, s5⟩ := (SA.cells hSw); go_simp; try with_reducible rfl)
  simp only [Act.put, List.setIfInBounds_toArray, List.set_cons_zero, List.set_cons_succ]
  refine wpAnyH_done (by kernel_rfl) ?_ _
  go_wp2_with fail
  go_ret
  exact ⟨rfl, ((hs1.on (al1 _ _)).on hbJ).bl⟩
end Go.Proofs.YthmfhgehahpgbaaGreatDoor
