/- What earlier stages proved: Yq Yr Yt Yu Yv. -/
import Derived.Test.YtaamdimgloblpaaGreatDoorP2
import Derived.Deep.RegionHeld3
import Derived.Lib.Join
import Derived.Maps.OwnSet
import Derived.Test.YtaamdimgloblpaaGreatDoorYs
namespace Go.Proofs.YtaamdimgloblpaaGreatDoor
open Go.RowKit

structure T26 (w : World) : Prop where
  wk : WTab w
  pw : ∃ t fr, w.heap[0]? = some (.cells (Lib.pow10Tab.map fun z => Value.int .u64 z).toArray t fr)
theorem T26.heap {w : World} (h : T26 w) : 0 < w.heap.size := by
  obtain ⟨t, fr, e⟩ := h.pw
  exact row_lt e
theorem T26.below {w w' : World} {n : Nat} (h : T26 w) (hb : Below n w w') (h1 : 1 < n) (h2 : 0 < n) : T26 w' := by
  obtain ⟨t, fr, e⟩ := h.pw
  exact ⟨h.wk.below hb h1, t, fr, by rw [hb.block _ h2]; exact e⟩
theorem T26.on {w w' : World} (h : T26 w) (hb : Below w.heap.size w w') : T26 w' := h.below hb h.wk.heap h.heap
theorem gPow : Tryz.prog.globalNamed "internal/strconv.uint64pow10" = some 0 := by kernel_rfl
theorem T26.tab {w : World} (h : T26 w) : Lib.TabIs Tryz.prog w "internal/strconv.uint64pow10" .u64 Lib.pow10Tab := by
  obtain ⟨t, fr, e⟩ := h.pw
  unfold Lib.TabIs World.var?
  rw [gPow, Option.bind_some, e]
theorem dec_lib : ∀ (f n : Nat), (n : Int) < pw f → 1 ≤ f → (dcF f n).data.toList = Lib.decDigits n := by
  have one : ∀ r : Nat, r < 10 → (dgS.extract r (r + 1)).data.toList = [UInt8.ofNat (48 + r)] := by decide +kernel
  intro f
  induction f with
  | zero => intro n _ h; omega
  | succ f ih =>
    intro n hn _
    have e : pw (f + 1) = 10 * pw f := rfl
    unfold dcF
    by_cases c : n < 10
    · rw [if_pos c, Lib.decDigits_one c, one n c]
    · have f1 : 1 ≤ f := by
        rcases Nat.eq_zero_or_pos f with q | q
        · subst q
          have : pw 0 = 1 := rfl
          omega
        · exact q
      rw [if_neg c, Lib.decDigits, dif_neg c, ByteArray.data_append, Array.toList_append, ih (n / 10) (by omega) f1, one (n % 10) (by omega)]
theorem itB_lib {n : Int} (h : inT n = true) : (⟨(Lib.itoa n).toArray⟩ : ByteArray) = itB n := by
  obtain ⟨h1, h2⟩ := inT_iff.1 h
  have p10 : pw 10 = 10000000000 := rfl
  rw [← Lib.mk_data (itB n)]
  congr 2
  unfold Lib.itoa itB
  by_cases c : n < 0
  · rw [if_pos c, if_pos c, ByteArray.data_append, Array.toList_append, dec_lib 10 n.natAbs (by omega) (by decide)]; rfl
  · rw [if_neg c, if_neg c, dec_lib 10 n.natAbs (by omega) (by decide), show n.toNat = n.natAbs by omega]
theorem itB_size {n : Int} (h : inT n = true) : (itB n).size ≤ 11 := by
  obtain ⟨h1, h2⟩ := inT_iff.1 h
  have := (dec_of (n := n.natAbs) (by omega)).l2
  unfold itB
  split
  · rw [ByteArray.size_append]; show 1 + _ ≤ 11; omega
  · omega
theorem p26ito {n : Int} (h : inT n = true) (w : World) (hT : T26 w) : Calls Tryz.prog 18 #[.int .i64 n] w fun e w' => e = .returned (.string (itB n)) ∧ Below w.heap.size w w' := by
  obtain ⟨h1, h2⟩ := inT_iff.1 h
  refine (sh_strconv_Itoa n (by omega) (by omega) w hT.tab).mono ?_
  rintro e w' ⟨rfl, k, os, rfl⟩
  refine ⟨by rw [itB_lib h], rfl, rfl, rfl, ?_, fun i hi => ?_⟩
  · show w.heap.size ≤ (w.heap ++ os).size
    rw [Array.size_append]; omega
  · show (w.heap ++ os)[i]? = _
    rw [Array.getElem?_append_left hi]
def jn : List ByteArray → ByteArray
  | [] => ByteArray.empty
  | [a] => a
  | a :: b :: l => a ++ (wSp ++ jn (b :: l))
theorem jn_lib : ∀ xs : List ByteArray, Lib.join (xs.map (·.data.toList)) wSp.data.toList = (jn xs).data.toList
  | [] => rfl
  | [a] => Lib.join_one _ _
  | a :: b :: l => by
    have ih := jn_lib (b :: l)
    rw [List.map_cons, Lib.join_cons] at ih ⊢
    show _ ++ Lib.joinTail _ (b.data.toList :: l.map (·.data.toList)) = (a ++ (wSp ++ jn (b :: l))).data.toList
    rw [ByteArray.data_append, Array.toList_append, ByteArray.data_append, Array.toList_append, ← ih]
    unfold Lib.joinTail
    simp
set_option maxRecDepth 100000 in
theorem p26joi {g cap : Nat} {xs : List ByteArray} {w : World} (hI : StrsIn g cap xs w) (h1 : xs.length ≤ 1000) (hl : (jn xs).size ≤ 1000000) : Calls Tryz.prog 30 #[.slice (some ⟨g, 0, none⟩) xs.length cap] w fun e w' => e = .returned (.string (jn xs)) ∧ Below w.heap.size w w' := by
  have H := Lib.hid (fun u (h : StrsIn g cap xs u) => sh_strings_Join g 0 cap xs wSp u (fun j x hj => by
    have hlt := (List.getElem?_eq_some_iff.1 hj).1
    rw [Nat.zero_add, h.cell j hlt, List.getD_eq_getElem?_getD, hj]; rfl) h.lt (by omega) h.le (by rw [jn_lib]; simp; omega))
  have HI := Lib.hid hI
  have HE := Lib.hid (show (⟨(Lib.join (xs.map (·.data.toList)) wSp.data.toList).toArray⟩ : ByteArray) = jn xs by rw [jn_lib, Lib.mk_data])
  clear hI
  go_enter Tryz.func30, Tryz.ntmps30
  go_wp2_with fail
  refine (H.out w HI.out).mono ?_
  rintro e w' ⟨rfl, hb⟩
  rw [HE.out]
  go_wp2_with fail
  go_ret
  exact ⟨rfl, hb⟩
set_option maxRecDepth 100000 in
theorem p26lin {g cap : Nat} {xs : List ByteArray} {w : World} (hI : StrsIn g cap xs w) (h1 : xs.length ≤ 1000) (hl : (jn xs).size ≤ 1000000) : Calls Tryz.prog 17 #[.slice (some ⟨g, 0, none⟩) xs.length cap] w fun e w' => e = .returned (.string (jn xs ++ wLf)) ∧ Below w.heap.size w w' := by
  have H := Lib.hid (p26joi hI h1 hl)
  have HA := Lib.hid hl
  have hadd : ∀ u, (Op.stringOp .add (jn xs) ⟨#[10]⟩).run Tryz.prog u = .ok (.string (jn xs ++ ⟨#[10]⟩)) u := fun u => by
    rw [run_string_add_if, if_neg]
    have : (ByteArray.mk #[10]).size = 1 := rfl
    omega
  clear hI hl
  generalize jn xs = t at *
  go_enter Tryz.func17, Tryz.ntmps17
  go_wp2_with fail
  refine H.out.mono ?_
  rintro e w' ⟨rfl, hb⟩
  go_wp2_with fail
  go_ret
  exact ⟨rfl, hb⟩
theorem lit5 {w : World} (a b c d e : ByteArray) (t : TypeId) : StrsIn w.heap.size 5 [a, b, c, d, e] (w.alloc (.cells #[.string a, .string b, .string c, .string d, .string e] t)) :=
  ⟨by simp, Nat.le_refl _, by decide, fun i hi => by
    have : i = 0 ∨ i = 1 ∨ i = 2 ∨ i = 3 ∨ i = 4 := by simp at hi; omega
    rcases this with rfl | rfl | rfl | rfl | rfl
    · rw [cell_of_row _ _ 0 _ _ _ (heap_alloc_new w _)]; rfl
    · rw [cell_of_row _ _ 1 _ _ _ (heap_alloc_new w _)]; rfl
    · rw [cell_of_row _ _ 2 _ _ _ (heap_alloc_new w _)]; rfl
    · rw [cell_of_row _ _ 3 _ _ _ (heap_alloc_new w _)]; rfl
    · rw [cell_of_row _ _ 4 _ _ _ (heap_alloc_new w _)]; rfl⟩
structure SA (w0 : World) (P : Nat) (k m d o w c : Int) (u : World) : Prop where
  row : u.heap[P]? = some (.cells #[.int .i64 k, .int .i64 m, .int .i64 d, .int .i64 o, .int .i64 w, .int .i64 c] 36 (0, 0))
  t : T26 u
  bl : Below w0.heap.size w0 u
theorem SA.on {w0 : World} {P : Nat} {k m d o w c : Int} {u u' : World} (h : SA w0 P k m d o w c u) (hb : Below u.heap.size u u') : SA w0 P k m d o w c u' := ⟨row_kept h.row hb, h.t.on hb, below_on h.bl hb⟩
theorem SA.cells {w0 : World} {P : Nat} {k m d o w c : Int} {u : World} (h : SA w0 P k m d o w c u) : u.cell? ⟨P, 0, none⟩ = some (.int .i64 k) ∧ u.cell? ⟨P, 1, none⟩ = some (.int .i64 m) ∧ u.cell? ⟨P, 2, none⟩ = some (.int .i64 d) ∧ u.cell? ⟨P, 3, none⟩ = some (.int .i64 o) ∧ u.cell? ⟨P, 4, none⟩ = some (.int .i64 w) ∧ u.cell? ⟨P, 5, none⟩ = some (.int .i64 c) := by
  refine ⟨?_, ?_, ?_, ?_, ?_, ?_⟩ <;> (rw [cell_of_row _ _ _ _ _ _ h.row]; rfl)
theorem SA.new {w : World} (hT : T26 w) (k m d o x c : Int) : SA w w.heap.size k m d o x c (w.alloc (.cells #[.int .i64 k, .int .i64 m, .int .i64 d, .int .i64 o, .int .i64 x, .int .i64 c] 36)) := ⟨heap_alloc_new w _, hT.on (al1 w _), al1 w _⟩
set_option maxRecDepth 100000 in
set_option maxHeartbeats 2000000 in
theorem p26fxt {k m d o x c : Int} {w : World} (hT : T26 w) (h1 : inT m = true) (h2 : inT d = true) : Calls Tryz.prog 50 #[.agg #[.int .i64 k, .int .i64 m, .int .i64 d, .int .i64 o, .int .i64 x, .int .i64 c]] w fun e w' => e = .returned (.string (jn [wFix, itB m, itB d])) ∧ Below w.heap.size w w' := by
  have S0 := Lib.hid ((SA.new hT k m d o x c).on (below_dn (Below.refl _ _) 1))
  have HJ := Lib.hid (fun (u : World) => p26joi (xs := [wFix, itB m, itB d]) (w := u.alloc (.cells #[.string (wFix), .string (itB m), .string (itB d)] 9)) (lit3 (wFix) (itB m) (itB d) _) (by simp) (by have a1 := itB_size h1; have a2 := itB_size h2; simp only [jn, ByteArray.size_append]; have e1 : wFix.size = 5 := rfl; have e2 : wSp.size = 1 := rfl; omega))
  have HC0 := Lib.hid (fun (u : World) (hu : SA w w.heap.size k m d o x c u) => (p26ito h1 u hu.t).mono (R' := fun e u' => e = .returned (.string (itB m)) ∧ SA w w.heap.size k m d o x c u') fun e u' hh => ⟨hh.1, hu.on hh.2⟩)
  have HC1 := Lib.hid (fun (u : World) (hu : SA w w.heap.size k m d o x c u) => (p26ito h2 u hu.t).mono (R' := fun e u' => e = .returned (.string (itB d)) ∧ SA w w.heap.size k m d o x c u') fun e u' hh => ⟨hh.1, hu.on hh.2⟩)
  generalize hw0 : itB m = t0 at *
  generalize hw1 : itB d = t1 at *
  clear hw0 hw1
  go_enter Tryz.func50, Tryz.ntmps50
  go_wp2_with fail
  refine wp_region_held_drew (S := fun u => SA w w.heap.size k m d o x c u) (by kernel_rfl) S0.out (fun hHeld => ?_)
  refine wpAnyH_take (i := 0) (oi := { dst := some 3, op := _, type := _, pos := _, after := _, guard := _ }) (v := ?v1_0) rfl (by kernel_rfl) (by kernel_rfl) (by kernel_rfl) (fun _ _ _ h => h) (Or.inl ⟨by rfl, ?hy1_0⟩) hHeld ?_
  case hy1_0 => (intro w hSw; obtain ⟨s0, s1, s2, s3, s4, s5⟩ := (SA.cells hSw); go_simp; try with_reducible rfl)
  simp only [Act.put, List.setIfInBounds_toArray, List.set_cons_zero, List.set_cons_succ]
  refine wpAnyH_take (i := 1) (oi := { dst := some 4, op := _, type := _, pos := _, after := _, guard := _ }) (v := ?v1_1) rfl (by kernel_rfl) (by kernel_rfl) (by kernel_rfl) (fun _ _ _ h => h) (Or.inl ⟨by rfl, ?hy1_1⟩) hHeld ?_
  case hy1_1 => (intro w hSw; obtain ⟨s0, s1, s2, s3, s4, s5⟩ := (SA.cells hSw); go_simp; try with_reducible rfl)
  simp only [Act.put, List.setIfInBounds_toArray, List.set_cons_zero, List.set_cons_succ]
  refine wpAnyH_take (i := 3) (oi := { dst := some 6, op := _, type := _, pos := _, after := _, guard := _ }) (v := ?v1_3) rfl (by kernel_rfl) (by kernel_rfl) (by kernel_rfl) (fun _ _ _ h => h) (Or.inl ⟨by rfl, ?hy1_3⟩) hHeld ?_
  case hy1_3 => (intro w hSw; obtain ⟨s0, s1, s2, s3, s4, s5⟩ := (SA.cells hSw); go_simp; try with_reducible rfl)
  simp only [Act.put, List.setIfInBounds_toArray, List.set_cons_zero, List.set_cons_succ]
  refine wpAnyH_take (i := 4) (oi := { dst := some 7, op := _, type := _, pos := _, after := _, guard := _ }) (v := ?v1_4) rfl (by kernel_rfl) (by kernel_rfl) (by kernel_rfl) (fun _ _ _ h => h) (Or.inl ⟨by rfl, ?hy1_4⟩) hHeld ?_
  case hy1_4 => (intro w hSw; obtain ⟨s0, s1, s2, s3, s4, s5⟩ := (SA.cells hSw); go_simp; try with_reducible rfl)
  simp only [Act.put, List.setIfInBounds_toArray, List.set_cons_zero, List.set_cons_succ]
  refine wpAnyH_ready (rs := [2]) (by kernel_rfl) (by simp) ?_
  refine AllReadyH.cons (o := { dst := some 5, op := _, type := _, pos := _, after := _, guard := _ }) rfl (fun K hK => ?_) AllReadyH.nil
  go_simp
  go_at_call 18
  refine (HC0.out _ (by assumption)).mono ?_
  rintro ee0 u0 ⟨rfl, hs0⟩
  refine hK.out _ _ hs0 (fun hHeld => ?_)
  clear hK K
  refine wpAnyH_ready (rs := [5]) (by kernel_rfl) (by simp) ?_
  refine AllReadyH.cons (o := { dst := some 8, op := _, type := _, pos := _, after := _, guard := _ }) rfl (fun K hK => ?_) AllReadyH.nil
  go_simp
  go_at_call 18
  refine (HC1.out _ (by assumption)).mono ?_
  rintro ee1 u1 ⟨rfl, hs1⟩
  refine hK.out _ _ hs1 (fun hHeld => ?_)
  clear hK K
  refine wpAnyH_ready (rs := [6]) (by kernel_rfl) (by simp) ?_
  refine AllReadyH.cons (o := { dst := some 9, op := _, type := _, pos := _, after := _, guard := _ }) rfl (fun K hK => ?_) AllReadyH.nil
  go_simp
  refine hK.out _ _ (hs1.on (al1 _ _)) (fun hHeld => ?_)
  clear hK K
  refine wpAnyH_ready (rs := [7]) (by kernel_rfl) (by simp) ?_
  refine AllReadyH.cons (o := { dst := some 10, op := _, type := _, pos := _, after := _, guard := _ }) rfl (fun K hK => ?_) AllReadyH.nil
  go_simp
  go_at_call 30
  refine (HJ.out u1).mono ?_
  rintro eeJ uJ ⟨rfl, hbJ⟩
  refine hK.out _ _ ((hs1.on (al1 _ _)).on hbJ) (fun hHeld => ?_)
  clear hK K
  refine wpAnyH_take (i := 8) (oi := { dst := some 2, op := _, type := _, pos := _, after := _, guard := _ }) (v := ?v1_8) rfl (by kernel_rfl) (by kernel_rfl) (by kernel_rfl) (fun _ _ _ h => h) (Or.inl ⟨by rfl, ?hy1_8⟩) hHeld ?_
  case hy1_8 => (intro w hSw; obtain ⟨s0, s1, s2, s3, s4, s5⟩ := (SA.cells hSw); go_simp; try with_reducible rfl)
  simp only [Act.put, List.setIfInBounds_toArray, List.set_cons_zero, List.set_cons_succ]
  refine wpAnyH_done (by kernel_rfl) ?_ _
  go_wp2_with fail
  go_ret
  exact ⟨rfl, ((hs1.on (al1 _ _)).on hbJ).bl⟩
end Go.Proofs.YtaamdimgloblpaaGreatDoor

namespace Go.Proofs.YtaamdimgloblpaaGreatDoor
open Go.RowKit
open Go.Maps (Keyed int_keyed keyOf_int_mk IsMap)

theorem nm_size (x : Int) : (nm x).size ≤ 9 := by
  unfold nm
  split
  · decide
  · split
    · decide
    · split
      · decide
      · split
        · decide
        · split
          · decide
          · split
            · decide
            · split <;> decide
set_option maxRecDepth 100000 in
set_option maxHeartbeats 2000000 in
theorem p26nxt {k m d o x c : Int} {w : World} (hT : T26 w) (h1 : inT m = true) (h2 : inT d = true) (h3 : inT c = true) : Calls Tryz.prog 52 #[.agg #[.int .i64 k, .int .i64 m, .int .i64 d, .int .i64 o, .int .i64 x, .int .i64 c]] w fun e w' => e = .returned (.string (jn [wNth, nm x, itB c, itB m, itB d])) ∧ Below w.heap.size w w' := by
  have S0 := Lib.hid ((SA.new hT k m d o x c).on (below_dn (Below.refl _ _) 1))
  have HJ := Lib.hid (fun (u : World) => p26joi (xs := [wNth, nm x, itB c, itB m, itB d]) (w := u.alloc (.cells #[.string (wNth), .string (nm x), .string (itB c), .string (itB m), .string (itB d)] 9)) (lit5 (wNth) (nm x) (itB c) (itB m) (itB d) _) (by simp) (by have a1 := itB_size h1; have a2 := itB_size h2; have a3 := itB_size h3; have a4 := nm_size x; simp only [jn, ByteArray.size_append]; have e1 : wNth.size = 3 := rfl; have e2 : wSp.size = 1 := rfl; omega))
  have HC0 := Lib.hid (fun (u : World) (hu : SA w w.heap.size k m d o x c u) => (name_any x u hu.t.wk).mono (R' := fun e u' => e = .returned (.string (nm x)) ∧ SA w w.heap.size k m d o x c u') fun e u' hh => ⟨hh.1, hh.2 ▸ hu⟩)
  have HC1 := Lib.hid (fun (u : World) (hu : SA w w.heap.size k m d o x c u) => (p26ito h3 u hu.t).mono (R' := fun e u' => e = .returned (.string (itB c)) ∧ SA w w.heap.size k m d o x c u') fun e u' hh => ⟨hh.1, hu.on hh.2⟩)
  have HC2 := Lib.hid (fun (u : World) (hu : SA w w.heap.size k m d o x c u) => (p26ito h1 u hu.t).mono (R' := fun e u' => e = .returned (.string (itB m)) ∧ SA w w.heap.size k m d o x c u') fun e u' hh => ⟨hh.1, hu.on hh.2⟩)
  have HC3 := Lib.hid (fun (u : World) (hu : SA w w.heap.size k m d o x c u) => (p26ito h2 u hu.t).mono (R' := fun e u' => e = .returned (.string (itB d)) ∧ SA w w.heap.size k m d o x c u') fun e u' hh => ⟨hh.1, hu.on hh.2⟩)
  generalize hw0 : nm x = t0 at *
  generalize hw1 : itB c = t1 at *
  generalize hw2 : itB m = t2 at *
  generalize hw3 : itB d = t3 at *
  clear hw0 hw1 hw2 hw3
  go_enter Tryz.func52, Tryz.ntmps52
  go_wp2_with fail
  refine wp_region_held_drew (S := fun u => SA w w.heap.size k m d o x c u) (by kernel_rfl) S0.out (fun hHeld => ?_)
  refine wpAnyH_take (i := 0) (oi := { dst := some 3, op := _, type := _, pos := _, after := _, guard := _ }) (v := ?v1_0) rfl (by kernel_rfl) (by kernel_rfl) (by kernel_rfl) (fun _ _ _ h => h) (Or.inl ⟨by rfl, ?hy1_0⟩) hHeld ?_
  case hy1_0 => (intro w hSw; obtain ⟨s0, s1, s2, s3, s4, s5⟩ := (SA.cells hSw); go_simp; try with_reducible rfl)
  simp only [Act.put, List.setIfInBounds_toArray, List.set_cons_zero, List.set_cons_succ]
  refine wpAnyH_take (i := 1) (oi := { dst := some 4, op := _, type := _, pos := _, after := _, guard := _ }) (v := ?v1_1) rfl (by kernel_rfl) (by kernel_rfl) (by kernel_rfl) (fun _ _ _ h => h) (Or.inl ⟨by rfl, ?hy1_1⟩) hHeld ?_
  case hy1_1 => (intro w hSw; obtain ⟨s0, s1, s2, s3, s4, s5⟩ := (SA.cells hSw); go_simp; try with_reducible rfl)
  simp only [Act.put, List.setIfInBounds_toArray, List.set_cons_zero, List.set_cons_succ]
  refine wpAnyH_take (i := 3) (oi := { dst := some 6, op := _, type := _, pos := _, after := _, guard := _ }) (v := ?v1_3) rfl (by kernel_rfl) (by kernel_rfl) (by kernel_rfl) (fun _ _ _ h => h) (Or.inl ⟨by rfl, ?hy1_3⟩) hHeld ?_
  case hy1_3 => (intro w hSw; obtain ⟨s0, s1, s2, s3, s4, s5⟩ := (SA.cells hSw); go_simp; try with_reducible rfl)
  simp only [Act.put, List.setIfInBounds_toArray, List.set_cons_zero, List.set_cons_succ]
  refine wpAnyH_take (i := 4) (oi := { dst := some 7, op := _, type := _, pos := _, after := _, guard := _ }) (v := ?v1_4) rfl (by kernel_rfl) (by kernel_rfl) (by kernel_rfl) (fun _ _ _ h => h) (Or.inl ⟨by rfl, ?hy1_4⟩) hHeld ?_
  case hy1_4 => (intro w hSw; obtain ⟨s0, s1, s2, s3, s4, s5⟩ := (SA.cells hSw); go_simp; try with_reducible rfl)
  simp only [Act.put, List.setIfInBounds_toArray, List.set_cons_zero, List.set_cons_succ]
  refine wpAnyH_take (i := 6) (oi := { dst := some 9, op := _, type := _, pos := _, after := _, guard := _ }) (v := ?v1_6) rfl (by kernel_rfl) (by kernel_rfl) (by kernel_rfl) (fun _ _ _ h => h) (Or.inl ⟨by rfl, ?hy1_6⟩) hHeld ?_
  case hy1_6 => (intro w hSw; obtain ⟨s0, s1, s2, s3, s4, s5⟩ := (SA.cells hSw); go_simp; try with_reducible rfl)
  simp only [Act.put, List.setIfInBounds_toArray, List.set_cons_zero, List.set_cons_succ]
  refine wpAnyH_take (i := 7) (oi := { dst := some 10, op := _, type := _, pos := _, after := _, guard := _ }) (v := ?v1_7) rfl (by kernel_rfl) (by kernel_rfl) (by kernel_rfl) (fun _ _ _ h => h) (Or.inl ⟨by rfl, ?hy1_7⟩) hHeld ?_
  case hy1_7 => (intro w hSw; obtain ⟨s0, s1, s2, s3, s4, s5⟩ := (SA.cells hSw); go_simp; try with_reducible rfl)
  simp only [Act.put, List.setIfInBounds_toArray, List.set_cons_zero, List.set_cons_succ]
  refine wpAnyH_take (i := 9) (oi := { dst := some 12, op := _, type := _, pos := _, after := _, guard := _ }) (v := ?v1_9) rfl (by kernel_rfl) (by kernel_rfl) (by kernel_rfl) (fun _ _ _ h => h) (Or.inl ⟨by rfl, ?hy1_9⟩) hHeld ?_
  case hy1_9 => (intro w hSw; obtain ⟨s0, s1, s2, s3, s4, s5⟩ := (SA.cells hSw); go_simp; try with_reducible rfl)
  simp only [Act.put, List.setIfInBounds_toArray, List.set_cons_zero, List.set_cons_succ]
  refine wpAnyH_take (i := 10) (oi := { dst := some 13, op := _, type := _, pos := _, after := _, guard := _ }) (v := ?v1_10) rfl (by kernel_rfl) (by kernel_rfl) (by kernel_rfl) (fun _ _ _ h => h) (Or.inl ⟨by rfl, ?hy1_10⟩) hHeld ?_
  case hy1_10 => (intro w hSw; obtain ⟨s0, s1, s2, s3, s4, s5⟩ := (SA.cells hSw); go_simp; try with_reducible rfl)
  simp only [Act.put, List.setIfInBounds_toArray, List.set_cons_zero, List.set_cons_succ]
  refine wpAnyH_ready (rs := [2]) (by kernel_rfl) (by simp) ?_
  refine AllReadyH.cons (o := { dst := some 5, op := _, type := _, pos := _, after := _, guard := _ }) rfl (fun K hK => ?_) AllReadyH.nil
  go_simp
  go_at_call 66
  refine (HC0.out _ (by assumption)).mono ?_
  rintro ee0 u0 ⟨rfl, hs0⟩
  refine hK.out _ _ hs0 (fun hHeld => ?_)
  clear hK K
  refine wpAnyH_ready (rs := [5]) (by kernel_rfl) (by simp) ?_
  refine AllReadyH.cons (o := { dst := some 8, op := _, type := _, pos := _, after := _, guard := _ }) rfl (fun K hK => ?_) AllReadyH.nil
  go_simp
  go_at_call 18
  refine (HC1.out _ (by assumption)).mono ?_
  rintro ee1 u1 ⟨rfl, hs1⟩
  refine hK.out _ _ hs1 (fun hHeld => ?_)
  clear hK K
  refine wpAnyH_ready (rs := [8]) (by kernel_rfl) (by simp) ?_
  refine AllReadyH.cons (o := { dst := some 11, op := _, type := _, pos := _, after := _, guard := _ }) rfl (fun K hK => ?_) AllReadyH.nil
  go_simp
  go_at_call 18
  refine (HC2.out _ (by assumption)).mono ?_
  rintro ee2 u2 ⟨rfl, hs2⟩
  refine hK.out _ _ hs2 (fun hHeld => ?_)
  clear hK K
  refine wpAnyH_ready (rs := [11]) (by kernel_rfl) (by simp) ?_
  refine AllReadyH.cons (o := { dst := some 14, op := _, type := _, pos := _, after := _, guard := _ }) rfl (fun K hK => ?_) AllReadyH.nil
  go_simp
  go_at_call 18
  refine (HC3.out _ (by assumption)).mono ?_
  rintro ee3 u3 ⟨rfl, hs3⟩
  refine hK.out _ _ hs3 (fun hHeld => ?_)
  clear hK K
  refine wpAnyH_ready (rs := [12]) (by kernel_rfl) (by simp) ?_
  refine AllReadyH.cons (o := { dst := some 15, op := _, type := _, pos := _, after := _, guard := _ }) rfl (fun K hK => ?_) AllReadyH.nil
  go_simp
  refine hK.out _ _ (hs3.on (al1 _ _)) (fun hHeld => ?_)
  clear hK K
  refine wpAnyH_ready (rs := [13]) (by kernel_rfl) (by simp) ?_
  refine AllReadyH.cons (o := { dst := some 16, op := _, type := _, pos := _, after := _, guard := _ }) rfl (fun K hK => ?_) AllReadyH.nil
  go_simp
  go_at_call 30
  refine (HJ.out u3).mono ?_
  rintro eeJ uJ ⟨rfl, hbJ⟩
  refine hK.out _ _ ((hs3.on (al1 _ _)).on hbJ) (fun hHeld => ?_)
  clear hK K
  refine wpAnyH_take (i := 14) (oi := { dst := some 2, op := _, type := _, pos := _, after := _, guard := _ }) (v := ?v1_14) rfl (by kernel_rfl) (by kernel_rfl) (by kernel_rfl) (fun _ _ _ h => h) (Or.inl ⟨by rfl, ?hy1_14⟩) hHeld ?_
  case hy1_14 => (intro w hSw; obtain ⟨s0, s1, s2, s3, s4, s5⟩ := (SA.cells hSw); go_simp; try with_reducible rfl)
  simp only [Act.put, List.setIfInBounds_toArray, List.set_cons_zero, List.set_cons_succ]
  refine wpAnyH_done (by kernel_rfl) ?_ _
  go_wp2_with fail
  go_ret
  exact ⟨rfl, ((hs3.on (al1 _ _)).on hbJ).bl⟩
set_option maxRecDepth 100000 in
set_option maxHeartbeats 2000000 in
theorem p26ext {k m d o x c : Int} {w : World} (hT : T26 w) (h1 : inT o = true) : Calls Tryz.prog 51 #[.agg #[.int .i64 k, .int .i64 m, .int .i64 d, .int .i64 o, .int .i64 x, .int .i64 c]] w fun e w' => e = .returned (.string (jn [wEas, itB o])) ∧ Below w.heap.size w w' := by
  have S0 := Lib.hid (SA.new hT k m d o x c)
  have HJ := Lib.hid (fun (u : World) => p26joi (xs := [wEas, itB o]) (w := u.alloc (.cells #[.string wEas, .string (itB o)] 9)) (lit2 wEas (itB o) _) (by simp) (by have a1 := itB_size h1; simp only [jn, ByteArray.size_append]; have e1 : wEas.size = 6 := rfl; have e2 : wSp.size = 1 := rfl; omega))
  have HC := Lib.hid (fun (u : World) (hu : SA w w.heap.size k m d o x c u) => (p26ito h1 u hu.t).mono (R' := fun e u' => e = .returned (.string (itB o)) ∧ SA w w.heap.size k m d o x c u') fun e u' hh => ⟨hh.1, hu.on hh.2⟩)
  generalize hw : itB o = t0 at *
  clear hw
  obtain ⟨s0, s1, s2, s3, s4, s5⟩ := S0.out.cells
  go_enter Tryz.func51, Tryz.ntmps51
  go_wp2_with fail
  refine (HC.out _ S0.out).mono ?_
  rintro e u1 ⟨rfl, hs1⟩
  clear s0 s1 s2 s3 s4 s5
  go_wp2_with fail
  refine (HJ.out u1).mono ?_
  rintro e uJ ⟨rfl, hbJ⟩
  go_wp2_with fail
  go_ret
  exact ⟨rfl, ((hs1.on (al1 _ _)).on hbJ).bl⟩
abbrev F1 : DataW Unit := DataW.put (.map []) (.int .i64 1) (.lit (.int .i64 50))
abbrev F2 : DataW Unit := DataW.put F1 (.int .i64 2) (.lit (.int .i64 51))
abbrev F3 : DataW Unit := DataW.put F2 (.int .i64 3) (.lit (.int .i64 52))
theorem lawI26 : Keyed Tryz.prog 3 := int_keyed Tryz.underlying3
theorem zeroF26 (w : World) : (zeroValue 54).run Tryz.prog w = .ok .nilFunc w := by kernel_rfl
set_option maxRecDepth 100000 in
theorem p26afo (w : World) : Calls Tryz.prog 32 #[] w fun e w' => e = .returned (.map (some w.heap.size)) ∧ w'.ownsMap Tryz.prog 3 funElem w.heap.size 3 F3 ∧ Below w.heap.size w w' := by
  have hmm := @run_makeMap Tryz.prog
  have k1 : keyOf Tryz.prog 3 (.int .i64 1) = some (.int .i64 1) := keyOf_int_mk Tryz.underlying3 (by decide)
  have k2 : keyOf Tryz.prog 3 (.int .i64 2) = some (.int .i64 2) := keyOf_int_mk Tryz.underlying3 (by decide)
  have k3 : keyOf Tryz.prog 3 (.int .i64 3) = some (.int .i64 3) := keyOf_int_mk Tryz.underlying3 (by decide)
  have o0 := World.ownsMap_made w Tryz.prog 3 funElem
  have b0 : Below w.heap.size w (w.alloc (.map #[] 0)) := (Below.refl _ _).alloc (Nat.le_refl _) _
  go_enter Tryz.func32, Tryz.ntmps32
  go_wp2_with (first
    | (refine insert_own rfl rfl lawI26 Tryz.underlying65 w.heap.size rfl o2 (by unfold maxLen; omega) rfl k3 rfl (funElem_mk _) ?_; intro u3 o3 g3)
    | (refine insert_own rfl rfl lawI26 Tryz.underlying65 w.heap.size rfl o1 (by unfold maxLen; omega) rfl k2 rfl (funElem_mk _) ?_; intro u2 o2 g2)
    | (refine insert_own rfl rfl lawI26 Tryz.underlying65 w.heap.size rfl o0 (by unfold maxLen; omega) rfl k1 rfl (funElem_mk _) ?_; intro u1 o1 g1))
  go_ret
  have b1 := b0.grown g1 b0.size (fun k h => by cases h; exact Nat.le_refl _)
  have b2 := b1.grown g2 b1.size (fun k h => by cases h; exact Nat.le_refl _)
  exact ⟨rfl, o3, b2.grown g3 b2.size (fun k h => by cases h; exact Nat.le_refl _)⟩
theorem wp_lookup {H : Type} {P : Program} {u : World} {o : Oper} {a : Act} {K : Act → World → Prop} {Q : Exit → Act → World → Prop} {t : TypeId} {m x : Operand} (hop : o.op = Op.lookup t m x true) {k e : TypeId} (KK : Keyed P k) (ht : P.underlying t = some (.map k e))
    {R : Value → Option (DataW H × List MemPlace)} {z : Value} (hz : (zeroValue e).run P u = .ok z u) {zd : DataW H} {zp : List MemPlace} (hzd : R z = some (zd, zp)) {b n : Nat} {D : DataW H} (hm : a.eval m = .map (some b)) (hown : u.ownsMap P k R b n D) {key : Value} {kl : Lit} (hx : a.eval x = key) (hkey : keyOf P k key = some kl)
    (hK : ∀ v ps, R v = some (D.atKey kl zd, ps) → K (a.put o.dst (.tuple #[v, .bool (Maps.has D kl)])) u) : o.wp P a u K Q := by
  obtain ⟨v, ps, hrun, hv⟩ := hown.look_ok KK ht hz hzd hkey
  unfold Oper.wp
  simp [execOp, hop, hm, hx, hrun, Result.andThen]
  exact hK v ps hv
def txJ (a : Anc) : ByteArray := if a.k = 1 then jn [wFix, itB a.m, itB a.d] else if a.k = 2 then jn [wEas, itB a.o] else jn [wNth, nm a.w, itB a.c, itB a.m, itB a.d]
theorem txA_J (a : Anc) : txA a = txJ a ++ wLf := by
  unfold txA txJ
  split
  · simp only [jn, ByteArray.append_assoc]
  · split
    · simp only [jn, ByteArray.append_assoc]
    · simp only [jn, ByteArray.append_assoc]
set_option maxRecDepth 100000 in
set_option maxHeartbeats 2000000 in
theorem p26ant_go1 {m d o x c : Int} {t : ByteArray} {w : World} (hT : T26 w) (HF : ∀ u : World, T26 u → Calls Tryz.prog 50 #[.agg #[.int .i64 1, .int .i64 m, .int .i64 d, .int .i64 o, .int .i64 x, .int .i64 c]] u fun e w' => e = .returned (.string t) ∧ Below u.heap.size u w') :
    Calls Tryz.prog 19 #[.agg #[.int .i64 1, .int .i64 m, .int .i64 d, .int .i64 o, .int .i64 x, .int .i64 c]] w fun e w' => e = .returned (.string t) ∧ Below w.heap.size w w' := by
  have S0 := Lib.hid ((SA.new hT 1 m d o x c).on (below_dn (Below.refl _ _) 1))
  have HF := Lib.hid HF
  have kk : keyOf Tryz.prog 3 (.int .i64 1) = some (.int .i64 1) := keyOf_int_mk Tryz.underlying3 (by decide)
  have hat : F3.atKey (.int .i64 1) (.lit (.int .i64 (-1))) = .lit (.int .i64 (50 : Nat)) := rfl
  have hha : Maps.has F3 (.int .i64 1) = true := rfl
  clear hT
  go_enter Tryz.func19, Tryz.ntmps19
  go_wp2_with fail
  refine wp_region_held_drew (S := fun u => SA w w.heap.size 1 m d o x c u) (by kernel_rfl) S0.out (fun hHeld => ?_)
  refine wpAnyH_take (i := 1) (oi := { dst := some 7, op := _, type := _, pos := _, after := _, guard := _ }) (v := ?v2_1) rfl (by kernel_rfl) (by kernel_rfl) (by kernel_rfl) (fun _ _ _ h => h) (Or.inl ⟨by rfl, ?hy2_1⟩) hHeld ?_
  case hy2_1 => (intro w hSw; obtain ⟨s0, s1, s2, s3, s4, s5⟩ := (SA.cells hSw); go_simp; try with_reducible rfl)
  simp only [Act.put, List.setIfInBounds_toArray, List.set_cons_zero, List.set_cons_succ]
  refine wpAnyH_take (i := 2) (oi := { dst := some 8, op := _, type := _, pos := _, after := _, guard := _ }) (v := ?v2_2) rfl (by kernel_rfl) (by kernel_rfl) (by kernel_rfl) (fun _ _ _ h => h) (Or.inl ⟨by rfl, ?hy2_2⟩) hHeld ?_
  case hy2_2 => (intro w hSw; obtain ⟨s0, s1, s2, s3, s4, s5⟩ := (SA.cells hSw); go_simp; try with_reducible rfl)
  simp only [Act.put, List.setIfInBounds_toArray, List.set_cons_zero, List.set_cons_succ]
  refine wpAnyH_ready (rs := [0]) (by kernel_rfl) (by simp) ?_
  refine AllReadyH.cons (o := { dst := some 6, op := _, type := _, pos := _, after := _, guard := _ }) rfl (fun K hK => ?_) AllReadyH.nil
  go_simp
  go_at_call 32
  refine (p26afo _).mono ?_
  rintro ee u0 ⟨rfl, hmap, hb0⟩
  refine hK.out _ _ (S0.out.on hb0) (fun hHeld => ?_)
  clear hK K
  refine wpAnyH_ready (rs := [3]) (by kernel_rfl) (by simp) ?_
  refine AllReadyH.cons (o := { dst := some 9, op := _, type := _, pos := _, after := _, guard := _ }) rfl (fun K hK => ?_) AllReadyH.nil
  rw [if_pos (by rfl)]
  refine wp_lookup (zd := .lit (.int .i64 (-1))) (zp := []) (D := F3) rfl lawI26 Tryz.underlying65 (zeroF26 _) rfl rfl hmap rfl kk ?_
  intro v ps hv
  rw [hat] at hv
  obtain rfl := funElem_inv hv
  rw [hha]
  refine hK.out _ _ (S0.out.on hb0) (fun hHeld => ?_)
  clear hK K
  simp only [Act.put, List.setIfInBounds_toArray, List.set_cons_zero, List.set_cons_succ]
  refine wpAnyH_take (i := 4) (oi := { dst := some 5, op := _, type := _, pos := _, after := _, guard := _ }) (v := ?v2_4) rfl (by kernel_rfl) (by kernel_rfl) (by kernel_rfl) (fun _ _ _ h => h) (Or.inl ⟨by rfl, ?hy2_4⟩) hHeld ?_
  case hy2_4 => (intro w hSw; obtain ⟨s0, s1, s2, s3, s4, s5⟩ := (SA.cells hSw); go_simp; try with_reducible rfl)
  simp only [Act.put, List.setIfInBounds_toArray, List.set_cons_zero, List.set_cons_succ]
  refine wpAnyH_take (i := 5) (oi := { dst := some 10, op := _, type := _, pos := _, after := _, guard := _ }) (v := ?v2_5) rfl (by kernel_rfl) (by kernel_rfl) (by kernel_rfl) (fun _ _ _ h => h) (Or.inl ⟨by rfl, ?hy2_5⟩) hHeld ?_
  case hy2_5 => (intro w hSw; obtain ⟨s0, s1, s2, s3, s4, s5⟩ := (SA.cells hSw); go_simp; try with_reducible rfl)
  simp only [Act.put, List.setIfInBounds_toArray, List.set_cons_zero, List.set_cons_succ]
  refine wpAnyH_take (i := 6) (oi := { dst := some 11, op := _, type := _, pos := _, after := _, guard := _ }) (v := ?v2_6) rfl (by kernel_rfl) (by kernel_rfl) (by kernel_rfl) (fun _ _ _ h => h) (Or.inl ⟨by rfl, ?hy2_6⟩) hHeld ?_
  case hy2_6 => (intro w hSw; obtain ⟨s0, s1, s2, s3, s4, s5⟩ := (SA.cells hSw); go_simp; try with_reducible rfl)
  simp only [Act.put, List.setIfInBounds_toArray, List.set_cons_zero, List.set_cons_succ]
  refine wpAnyH_take (i := 7) (oi := { dst := some 3, op := _, type := _, pos := _, after := _, guard := _ }) (v := ?v2_7) rfl (by kernel_rfl) (by kernel_rfl) (by kernel_rfl) (fun _ _ _ h => h) (Or.inl ⟨by rfl, ?hy2_7⟩) hHeld ?_
  case hy2_7 => (intro w hSw; obtain ⟨s0, s1, s2, s3, s4, s5⟩ := (SA.cells hSw); go_simp; try with_reducible rfl)
  simp only [Act.put, List.setIfInBounds_toArray, List.set_cons_zero, List.set_cons_succ]
  refine wpAnyH_take (i := 8) (oi := { dst := some 4, op := _, type := _, pos := _, after := _, guard := _ }) (v := ?v2_8) rfl (by kernel_rfl) (by kernel_rfl) (by kernel_rfl) (fun _ _ _ h => h) (Or.inl ⟨by rfl, ?hy2_8⟩) hHeld ?_
  case hy2_8 => (intro w hSw; obtain ⟨s0, s1, s2, s3, s4, s5⟩ := (SA.cells hSw); go_simp; try with_reducible rfl)
  simp only [Act.put, List.setIfInBounds_toArray, List.set_cons_zero, List.set_cons_succ]
  refine wpAnyH_done (by kernel_rfl) ?_ _
  have S1 := Lib.hid (S0.out.on hb0)
  obtain ⟨s0, s1, s2, s3, s4, s5⟩ := S1.out.cells
  go_wp2_with fail
  refine (HF.out u0 S1.out.t).mono ?_
  rintro e u2 ⟨rfl, hb2⟩
  go_wp2_with fail
  go_ret
  exact ⟨rfl, (S1.out.on hb2).bl⟩
set_option maxRecDepth 100000 in
set_option maxHeartbeats 2000000 in
theorem p26ant_go2 {m d o x c : Int} {t : ByteArray} {w : World} (hT : T26 w) (HF : ∀ u : World, T26 u → Calls Tryz.prog 51 #[.agg #[.int .i64 2, .int .i64 m, .int .i64 d, .int .i64 o, .int .i64 x, .int .i64 c]] u fun e w' => e = .returned (.string t) ∧ Below u.heap.size u w') :
    Calls Tryz.prog 19 #[.agg #[.int .i64 2, .int .i64 m, .int .i64 d, .int .i64 o, .int .i64 x, .int .i64 c]] w fun e w' => e = .returned (.string t) ∧ Below w.heap.size w w' := by
  have S0 := Lib.hid ((SA.new hT 2 m d o x c).on (below_dn (Below.refl _ _) 1))
  have HF := Lib.hid HF
  have kk : keyOf Tryz.prog 3 (.int .i64 2) = some (.int .i64 2) := keyOf_int_mk Tryz.underlying3 (by decide)
  have hat : F3.atKey (.int .i64 2) (.lit (.int .i64 (-1))) = .lit (.int .i64 (51 : Nat)) := rfl
  have hha : Maps.has F3 (.int .i64 2) = true := rfl
  clear hT
  go_enter Tryz.func19, Tryz.ntmps19
  go_wp2_with fail
  refine wp_region_held_drew (S := fun u => SA w w.heap.size 2 m d o x c u) (by kernel_rfl) S0.out (fun hHeld => ?_)
  refine wpAnyH_take (i := 1) (oi := { dst := some 7, op := _, type := _, pos := _, after := _, guard := _ }) (v := ?v3_1) rfl (by kernel_rfl) (by kernel_rfl) (by kernel_rfl) (fun _ _ _ h => h) (Or.inl ⟨by rfl, ?hy3_1⟩) hHeld ?_
  case hy3_1 => (intro w hSw; obtain ⟨s0, s1, s2, s3, s4, s5⟩ := (SA.cells hSw); go_simp; try with_reducible rfl)
  simp only [Act.put, List.setIfInBounds_toArray, List.set_cons_zero, List.set_cons_succ]
  refine wpAnyH_take (i := 2) (oi := { dst := some 8, op := _, type := _, pos := _, after := _, guard := _ }) (v := ?v3_2) rfl (by kernel_rfl) (by kernel_rfl) (by kernel_rfl) (fun _ _ _ h => h) (Or.inl ⟨by rfl, ?hy3_2⟩) hHeld ?_
  case hy3_2 => (intro w hSw; obtain ⟨s0, s1, s2, s3, s4, s5⟩ := (SA.cells hSw); go_simp; try with_reducible rfl)
  simp only [Act.put, List.setIfInBounds_toArray, List.set_cons_zero, List.set_cons_succ]
  refine wpAnyH_ready (rs := [0]) (by kernel_rfl) (by simp) ?_
  refine AllReadyH.cons (o := { dst := some 6, op := _, type := _, pos := _, after := _, guard := _ }) rfl (fun K hK => ?_) AllReadyH.nil
  go_simp
  go_at_call 32
  refine (p26afo _).mono ?_
  rintro ee u0 ⟨rfl, hmap, hb0⟩
  refine hK.out _ _ (S0.out.on hb0) (fun hHeld => ?_)
  clear hK K
  refine wpAnyH_ready (rs := [3]) (by kernel_rfl) (by simp) ?_
  refine AllReadyH.cons (o := { dst := some 9, op := _, type := _, pos := _, after := _, guard := _ }) rfl (fun K hK => ?_) AllReadyH.nil
  rw [if_pos (by rfl)]
  refine wp_lookup (zd := .lit (.int .i64 (-1))) (zp := []) (D := F3) rfl lawI26 Tryz.underlying65 (zeroF26 _) rfl rfl hmap rfl kk ?_
  intro v ps hv
  rw [hat] at hv
  obtain rfl := funElem_inv hv
  rw [hha]
  refine hK.out _ _ (S0.out.on hb0) (fun hHeld => ?_)
  clear hK K
  simp only [Act.put, List.setIfInBounds_toArray, List.set_cons_zero, List.set_cons_succ]
  refine wpAnyH_take (i := 4) (oi := { dst := some 5, op := _, type := _, pos := _, after := _, guard := _ }) (v := ?v3_4) rfl (by kernel_rfl) (by kernel_rfl) (by kernel_rfl) (fun _ _ _ h => h) (Or.inl ⟨by rfl, ?hy3_4⟩) hHeld ?_
  case hy3_4 => (intro w hSw; obtain ⟨s0, s1, s2, s3, s4, s5⟩ := (SA.cells hSw); go_simp; try with_reducible rfl)
  simp only [Act.put, List.setIfInBounds_toArray, List.set_cons_zero, List.set_cons_succ]
  refine wpAnyH_take (i := 5) (oi := { dst := some 10, op := _, type := _, pos := _, after := _, guard := _ }) (v := ?v3_5) rfl (by kernel_rfl) (by kernel_rfl) (by kernel_rfl) (fun _ _ _ h => h) (Or.inl ⟨by rfl, ?hy3_5⟩) hHeld ?_
  case hy3_5 => (intro w hSw; obtain ⟨s0, s1, s2, s3, s4, s5⟩ := (SA.cells hSw); go_simp; try with_reducible rfl)
  simp only [Act.put, List.setIfInBounds_toArray, List.set_cons_zero, List.set_cons_succ]
  refine wpAnyH_take (i := 6) (oi := { dst := some 11, op := _, type := _, pos := _, after := _, guard := _ }) (v := ?v3_6) rfl (by kernel_rfl) (by kernel_rfl) (by kernel_rfl) (fun _ _ _ h => h) (Or.inl ⟨by rfl, ?hy3_6⟩) hHeld ?_
  case hy3_6 => (intro w hSw; obtain ⟨s0, s1, s2, s3, s4, s5⟩ := (SA.cells hSw); go_simp; try with_reducible rfl)
  simp only [Act.put, List.setIfInBounds_toArray, List.set_cons_zero, List.set_cons_succ]
  refine wpAnyH_take (i := 7) (oi := { dst := some 3, op := _, type := _, pos := _, after := _, guard := _ }) (v := ?v3_7) rfl (by kernel_rfl) (by kernel_rfl) (by kernel_rfl) (fun _ _ _ h => h) (Or.inl ⟨by rfl, ?hy3_7⟩) hHeld ?_
  case hy3_7 => (intro w hSw; obtain ⟨s0, s1, s2, s3, s4, s5⟩ := (SA.cells hSw); go_simp; try with_reducible rfl)
  simp only [Act.put, List.setIfInBounds_toArray, List.set_cons_zero, List.set_cons_succ]
  refine wpAnyH_take (i := 8) (oi := { dst := some 4, op := _, type := _, pos := _, after := _, guard := _ }) (v := ?v3_8) rfl (by kernel_rfl) (by kernel_rfl) (by kernel_rfl) (fun _ _ _ h => h) (Or.inl ⟨by rfl, ?hy3_8⟩) hHeld ?_
  case hy3_8 => (intro w hSw; obtain ⟨s0, s1, s2, s3, s4, s5⟩ := (SA.cells hSw); go_simp; try with_reducible rfl)
  simp only [Act.put, List.setIfInBounds_toArray, List.set_cons_zero, List.set_cons_succ]
  refine wpAnyH_done (by kernel_rfl) ?_ _
  have S1 := Lib.hid (S0.out.on hb0)
  obtain ⟨s0, s1, s2, s3, s4, s5⟩ := S1.out.cells
  go_wp2_with fail
  refine (HF.out u0 S1.out.t).mono ?_
  rintro e u2 ⟨rfl, hb2⟩
  go_wp2_with fail
  go_ret
  exact ⟨rfl, (S1.out.on hb2).bl⟩
set_option maxRecDepth 100000 in
set_option maxHeartbeats 2000000 in
theorem p26ant_go3 {m d o x c : Int} {t : ByteArray} {w : World} (hT : T26 w) (HF : ∀ u : World, T26 u → Calls Tryz.prog 52 #[.agg #[.int .i64 3, .int .i64 m, .int .i64 d, .int .i64 o, .int .i64 x, .int .i64 c]] u fun e w' => e = .returned (.string t) ∧ Below u.heap.size u w') :
    Calls Tryz.prog 19 #[.agg #[.int .i64 3, .int .i64 m, .int .i64 d, .int .i64 o, .int .i64 x, .int .i64 c]] w fun e w' => e = .returned (.string t) ∧ Below w.heap.size w w' := by
  have S0 := Lib.hid ((SA.new hT 3 m d o x c).on (below_dn (Below.refl _ _) 1))
  have HF := Lib.hid HF
  have kk : keyOf Tryz.prog 3 (.int .i64 3) = some (.int .i64 3) := keyOf_int_mk Tryz.underlying3 (by decide)
  have hat : F3.atKey (.int .i64 3) (.lit (.int .i64 (-1))) = .lit (.int .i64 (52 : Nat)) := rfl
  have hha : Maps.has F3 (.int .i64 3) = true := rfl
  clear hT
  go_enter Tryz.func19, Tryz.ntmps19
  go_wp2_with fail
  refine wp_region_held_drew (S := fun u => SA w w.heap.size 3 m d o x c u) (by kernel_rfl) S0.out (fun hHeld => ?_)
  refine wpAnyH_take (i := 1) (oi := { dst := some 7, op := _, type := _, pos := _, after := _, guard := _ }) (v := ?v4_1) rfl (by kernel_rfl) (by kernel_rfl) (by kernel_rfl) (fun _ _ _ h => h) (Or.inl ⟨by rfl, ?hy4_1⟩) hHeld ?_
  case hy4_1 => (intro w hSw; obtain ⟨s0, s1, s2, s3, s4, s5⟩ := (SA.cells hSw); go_simp; try with_reducible rfl)
  simp only [Act.put, List.setIfInBounds_toArray, List.set_cons_zero, List.set_cons_succ]
  refine wpAnyH_take (i := 2) (oi := { dst := some 8, op := _, type := _, pos := _, after := _, guard := _ }) (v := ?v4_2) rfl (by kernel_rfl) (by kernel_rfl) (by kernel_rfl) (fun _ _ _ h => h) (Or.inl ⟨by rfl, ?hy4_2⟩) hHeld ?_
  case hy4_2 => (intro w hSw; obtain ⟨s0, s1, s2, s3, s4, s5⟩ := (SA.cells hSw); go_simp; try with_reducible rfl)
  simp only [Act.put, List.setIfInBounds_toArray, List.set_cons_zero, List.set_cons_succ]
  refine wpAnyH_ready (rs := [0]) (by kernel_rfl) (by simp) ?_
  refine AllReadyH.cons (o := { dst := some 6, op := _, type := _, pos := _, after := _, guard := _ }) rfl (fun K hK => ?_) AllReadyH.nil
  go_simp
  go_at_call 32
  refine (p26afo _).mono ?_
  rintro ee u0 ⟨rfl, hmap, hb0⟩
  refine hK.out _ _ (S0.out.on hb0) (fun hHeld => ?_)
  clear hK K
  refine wpAnyH_ready (rs := [3]) (by kernel_rfl) (by simp) ?_
  refine AllReadyH.cons (o := { dst := some 9, op := _, type := _, pos := _, after := _, guard := _ }) rfl (fun K hK => ?_) AllReadyH.nil
  rw [if_pos (by rfl)]
  refine wp_lookup (zd := .lit (.int .i64 (-1))) (zp := []) (D := F3) rfl lawI26 Tryz.underlying65 (zeroF26 _) rfl rfl hmap rfl kk ?_
  intro v ps hv
  rw [hat] at hv
  obtain rfl := funElem_inv hv
  rw [hha]
  refine hK.out _ _ (S0.out.on hb0) (fun hHeld => ?_)
  clear hK K
  simp only [Act.put, List.setIfInBounds_toArray, List.set_cons_zero, List.set_cons_succ]
  refine wpAnyH_take (i := 4) (oi := { dst := some 5, op := _, type := _, pos := _, after := _, guard := _ }) (v := ?v4_4) rfl (by kernel_rfl) (by kernel_rfl) (by kernel_rfl) (fun _ _ _ h => h) (Or.inl ⟨by rfl, ?hy4_4⟩) hHeld ?_
  case hy4_4 => (intro w hSw; obtain ⟨s0, s1, s2, s3, s4, s5⟩ := (SA.cells hSw); go_simp; try with_reducible rfl)
  simp only [Act.put, List.setIfInBounds_toArray, List.set_cons_zero, List.set_cons_succ]
  refine wpAnyH_take (i := 5) (oi := { dst := some 10, op := _, type := _, pos := _, after := _, guard := _ }) (v := ?v4_5) rfl (by kernel_rfl) (by kernel_rfl) (by kernel_rfl) (fun _ _ _ h => h) (Or.inl ⟨by rfl, ?hy4_5⟩) hHeld ?_
  case hy4_5 => (intro w hSw; obtain ⟨s0, s1, s2, s3, s4, s5⟩ := (SA.cells hSw); go_simp; try with_reducible rfl)
  simp only [Act.put, List.setIfInBounds_toArray, List.set_cons_zero, List.set_cons_succ]
  refine wpAnyH_take (i := 6) (oi := { dst := some 11, op := _, type := _, pos := _, after := _, guard := _ }) (v := ?v4_6) rfl (by kernel_rfl) (by kernel_rfl) (by kernel_rfl) (fun _ _ _ h => h) (Or.inl ⟨by rfl, ?hy4_6⟩) hHeld ?_
  case hy4_6 => (intro w hSw; obtain ⟨s0, s1, s2, s3, s4, s5⟩ := (SA.cells hSw); go_simp; try with_reducible rfl)
  simp only [Act.put, List.setIfInBounds_toArray, List.set_cons_zero, List.set_cons_succ]
  refine wpAnyH_take (i := 7) (oi := { dst := some 3, op := _, type := _, pos := _, after := _, guard := _ }) (v := ?v4_7) rfl (by kernel_rfl) (by kernel_rfl) (by kernel_rfl) (fun _ _ _ h => h) (Or.inl ⟨by rfl, ?hy4_7⟩) hHeld ?_
  case hy4_7 => (intro w hSw; obtain ⟨s0, s1, s2, s3, s4, s5⟩ := (SA.cells hSw); go_simp; try with_reducible rfl)
  simp only [Act.put, List.setIfInBounds_toArray, List.set_cons_zero, List.set_cons_succ]
  refine wpAnyH_take (i := 8) (oi := { dst := some 4, op := _, type := _, pos := _, after := _, guard := _ }) (v := ?v4_8) rfl (by kernel_rfl) (by kernel_rfl) (by kernel_rfl) (fun _ _ _ h => h) (Or.inl ⟨by rfl, ?hy4_8⟩) hHeld ?_
  case hy4_8 => (intro w hSw; obtain ⟨s0, s1, s2, s3, s4, s5⟩ := (SA.cells hSw); go_simp; try with_reducible rfl)
  simp only [Act.put, List.setIfInBounds_toArray, List.set_cons_zero, List.set_cons_succ]
  refine wpAnyH_done (by kernel_rfl) ?_ _
  have S1 := Lib.hid (S0.out.on hb0)
  obtain ⟨s0, s1, s2, s3, s4, s5⟩ := S1.out.cells
  go_wp2_with fail
  refine (HF.out u0 S1.out.t).mono ?_
  rintro e u2 ⟨rfl, hb2⟩
  go_wp2_with fail
  go_ret
  exact ⟨rfl, (S1.out.on hb2).bl⟩
theorem p26ant {a : Anc} {w : World} (hT : T26 w) (h : ancB a = true) : Calls Tryz.prog 19 #[anc26 a] w fun e w' => e = .returned (.string (txJ a)) ∧ Below w.heap.size w w' := by
  obtain ⟨k, m, d, o, x, c⟩ := a
  unfold ancB at h
  simp only [Bool.and_eq_true] at h
  obtain ⟨⟨hm, hd, ho, hc⟩, hk⟩ := h
  have e : k = 1 ∨ k = 2 ∨ k = 3 := by
    unfold ancK at hk
    by_cases q1 : k = 1
    · exact .inl q1
    · by_cases q2 : k = 2
      · exact .inr (.inl q2)
      · by_cases q3 : k = 3
        · exact .inr (.inr q3)
        · simp [q1, q2, q3] at hk
  rcases e with rfl | rfl | rfl
  · exact p26ant_go1 hT (fun u hu => p26fxt hu hm hd)
  · exact p26ant_go2 hT (fun u hu => p26ext hu ho)
  · exact p26ant_go3 hT (fun u hu => p26nxt hu hm hd hc)
theorem txJ_size {a : Anc} (h : ancB a = true) : (txJ a).size ≤ 60 := by
  obtain ⟨k, m, d, o, x, c⟩ := a
  unfold ancB at h
  simp only [Bool.and_eq_true] at h
  obtain ⟨⟨hm, hd, ho, hc⟩, -⟩ := h
  have a1 := itB_size hm
  have a2 := itB_size hd
  have a3 := itB_size ho
  have a4 := itB_size hc
  have a5 := nm_size x
  have e1 : wFix.size = 5 := rfl
  have e2 : wEas.size = 6 := rfl
  have e3 : wNth.size = 3 := rfl
  have e4 : wSp.size = 1 := rfl
  unfold txJ
  split
  · simp only [jn, ByteArray.size_append]; omega
  · split
    · simp only [jn, ByteArray.size_append]; omega
    · simp only [jn, ByteArray.size_append]; omega
set_option maxRecDepth 100000 in
theorem p26pwd {y : Int} (h1 : 1 ≤ y) (h2 : y ≤ 3) (w : World) : Calls Tryz.prog 20 #[.int .i64 y] w fun e w' => e = .returned (.string (txP y)) ∧ Below w.heap.size w w' := by
  have hy : y = 1 ∨ y = 2 ∨ y = 3 := by omega
  have HP := Lib.hid (fun u => p26pol u)
  rcases hy with rfl | rfl | rfl
  all_goals
    go_enter Tryz.func20, Tryz.ntmps20
    go_wp2_with fail
    refine (HP.out w).mono ?_
    rintro e u ⟨g, rfl, hI, hg, hb⟩
    have c0 : u.cell? ⟨g, 0, none⟩ = some (.string ⟨#[116, 114, 97, 110, 115, 102, 101, 114]⟩) := hI.cell 0 (by decide)
    have c1 : u.cell? ⟨g, 1, none⟩ = some (.string ⟨#[99, 111, 109, 109, 101, 109, 111, 114, 97, 116, 101]⟩) := hI.cell 1 (by decide)
    have c2 : u.cell? ⟨g, 2, none⟩ = some (.string ⟨#[111, 109, 105, 116]⟩) := hI.cell 2 (by decide)
    go_wp2_with fail
    go_ret
    exact ⟨rfl, hb⟩
end Go.Proofs.YtaamdimgloblpaaGreatDoor

namespace Go.Proofs.YtaamdimgloblpaaGreatDoor
open Go.RowKit

structure PrS (w0 : World) (f : Int) (v1 v2 : Value) (t : ByteArray) (u : World) : Prop where
  row : u.heap[w0.heap.size]? = some (.cells #[.int .i64 f, v1, v2] 25 (0, 0))
  bl : Below w0.heap.size w0 u
  bu : Lib.IsBuilderF 47 5 (w0.heap.size + 1) (w0.heap.size + 1) (Lib.strCells t) u
theorem bu_on {T e : TypeId} {B b : Nat} {p : Value} {bs : List Value} {u u' : World} (h : Lib.BuilderAtF T e B b p bs u) (hb : Below u.heap.size u u') : Lib.BuilderAtF T e B b p bs u' := by
  obtain ⟨hB, v, hr, ho, hn⟩ := h
  exact ⟨hB, v, row_kept hr hb, ho.kept (grown_of_below hb none) (by cases v.ownBlock <;> simp), hn⟩
theorem PrS.on {w0 : World} {f : Int} {v1 v2 : Value} {t : ByteArray} {u u' : World} (h : PrS w0 f v1 v2 t u) (hb : Below u.heap.size u u') : PrS w0 f v1 v2 t u' :=
  ⟨row_kept h.row hb, below_on h.bl hb, h.bu.elim (fun x => .inl (bu_on x hb)) (fun x => .inr (bu_on x hb))⟩
theorem PrS.lt {w0 : World} {f : Int} {v1 v2 : Value} {t : ByteArray} {u : World} (h : PrS w0 f v1 v2 t u) : w0.heap.size + 1 < u.heap.size := by
  rcases h.bu with ⟨_, v, hr, _⟩ | ⟨_, v, hr, _⟩
  · exact row_lt hr
  · exact row_lt hr
theorem str_app (a b : ByteArray) : Lib.strCells (a ++ b) = Lib.strCells a ++ Lib.strCells b := by
  rw [Lib.strCells_eq, Lib.strCells_eq, Lib.strCells_eq, ByteArray.data_append, Array.toList_append, Lib.byteCells_append]
theorem prs_write {w0 : World} {f : Int} {v1 v2 : Value} {t s : ByteArray} {u : World} (h : PrS w0 f v1 v2 t u) (hl : t.size + s.size ≤ 140737488355328) :
    Calls Tryz.prog 16 #[.pointer (some ⟨w0.heap.size + 1, 0, none⟩), .string s] u fun e u' => e = .returned (.tuple #[.int .i64 s.size, .nilIface]) ∧ PrS w0 f v1 v2 (t ++ s) u' ∧ Lib.OthersKept 5 (some (w0.heap.size + 1)) u u' := by
  refine (sh_WriteString _ _ _ s u h.bu (by rw [Lib.strCells_length]; exact hl) (Nat.le_of_lt h.lt)).mono ?_
  rintro e u' ⟨rfl, h1, h2, h3⟩
  refine ⟨rfl, ⟨?_, h.bl.trans (h2.mono (Nat.le_succ _)), .inr (by rw [str_app]; exact h1)⟩, h3⟩
  rw [h2.block _ (Nat.lt_succ_self _)]
  exact h.row
theorem prs_string {w0 : World} {f : Int} {v1 v2 : Value} {t : ByteArray} {u : World} (h : PrS w0 f v1 v2 t u) :
    Calls Tryz.prog 21 #[.pointer (some ⟨w0.heap.size + 1, 0, none⟩)] u fun e u' => e = .returned (.string t) ∧ Below w0.heap.size w0 u' := by
  have hb := h.bu
  rw [Lib.strCells_eq] at hb
  refine (sh_String _ _ t.data.toList u hb (Nat.le_of_lt h.lt)).mono ?_
  rintro e u' ⟨rfl, h1, h2, h3⟩
  exact ⟨by rw [Lib.mk_data], h.bl.trans (h2.mono (Nat.le_succ _))⟩
theorem PrS.new (w : World) (f : Int) (v1 v2 : Value) : PrS w f v1 v2 ByteArray.empty ((w.alloc (.cells #[.int .i64 f, v1, v2] 25)).alloc (.cells #[.pointer none, .slice none 0 0] 47)) := by
  have e1 := heap_alloc_new (w.alloc (.cells #[.int .i64 f, v1, v2] 25)) (.cells #[.pointer none, .slice none 0 0] 47)
  have es : (w.alloc (.cells #[.int .i64 f, v1, v2] 25)).heap.size = w.heap.size + 1 := by simp
  rw [es] at e1
  exact ⟨row_kept (heap_alloc_new w _) (al1 _ _), below_on (al1 w _) (al1 _ _), .inl ⟨Nat.le_refl _, _, e1, World.ownsRowF_nil _ _ _ _, by simp [Value.ownBlock]⟩⟩
theorem oth_row {b : Nat} {u u' : World} (h : Lib.OthersKept 5 (some b) u u') {X : Nat} {cs : Array Value} {T : TypeId} (hr : u.heap[X]? = some (.cells cs T (0, 0))) (hb : b < X) (hT : T ≠ 5) : u'.heap[X]? = some (.cells cs T (0, 0)) :=
  h X _ hr (fun e => by injection e with e; omega) (fun c fz e => hT (by injection e))
theorem txS_jn (t : Itm) : txS t = jn [wSe5, t.id, itB t.x, itB t.y, txJ t.anc] ++ wLf := by
  have e : wSea = wSe5 ++ wSp := rfl
  unfold txS
  rw [txA_J, e]
  simp only [jn, ByteArray.append_assoc]
theorem txF_jn (t : Itm) : txF t = jn [wFe5, t.id, itB t.x, txP t.y, txJ t.anc] ++ wLf := by
  have e : wFea = wFe5 ++ wSp := rfl
  unfold txF
  rw [txA_J, e]
  simp only [jn, ByteArray.append_assoc]
theorem txs_take (f : Itm → ByteArray) : ∀ (l : List Itm) (k : Nat) (t : Itm), l[k]? = some t → txs f (l.take (k + 1)) = txs f (l.take k) ++ f t
  | [], k, t, h => by simp at h
  | x :: l, 0, t, h => by
    simp at h; subst h
    simp [txs]
  | x :: l, k + 1, t, h => by
    have := txs_take f l k t (by simpa using h)
    rw [List.take_succ_cons, List.take_succ_cons]
    show f x ++ txs f (l.take (k + 1)) = f x ++ txs f (l.take k) ++ f t
    rw [this, ByteArray.append_assoc]
theorem txs_size (f : Itm → ByteArray) (n : Nat) : ∀ l : List Itm, (∀ t ∈ l, (f t).size ≤ n) → (txs f l).size ≤ l.length * n
  | [], _ => by simp [txs]
  | x :: l, h => by
    have h1 := h x (by simp)
    have h2 := txs_size f n l fun t ht => h t (by simp [ht])
    show (f x ++ txs f l).size ≤ _
    rw [ByteArray.size_append, List.length_cons, Nat.succ_mul]
    omega
theorem txP_size (y : Int) : (txP y).size ≤ 11 := by
  unfold txP
  split
  · decide
  · split <;> decide
/-- An item whose text is asked. -/
def gdS (t : Itm) : Bool := okS t && decide (t.id.size ≤ 500000)
def gdF (t : Itm) : Bool := okF t && decide (t.id.size ≤ 500000)
theorem gdS_parts {t : Itm} (h : gdS t = true) : inT t.x = true ∧ inT t.y = true ∧ ancB t.anc = true ∧ (jn [wSe5, t.id, itB t.x, itB t.y, txJ t.anc]).size ≤ 600000 := by
  unfold gdS okS at h
  simp only [Bool.and_eq_true, decide_eq_true_eq] at h
  obtain ⟨⟨_, hx, hy, ha⟩, hi⟩ := h
  have a1 := itB_size hx
  have a2 := itB_size hy
  have a3 := txJ_size ha
  refine ⟨hx, hy, ha, ?_⟩
  have e1 : wSe5.size = 6 := rfl
  have e2 : wSp.size = 1 := rfl
  simp only [jn, ByteArray.size_append]; omega
theorem gdF_parts {t : Itm} (h : gdF t = true) : inT t.x = true ∧ (1 ≤ t.y ∧ t.y ≤ 3) ∧ ancB t.anc = true ∧ (jn [wFe5, t.id, itB t.x, txP t.y, txJ t.anc]).size ≤ 600000 := by
  unfold gdF okF at h
  simp only [Bool.and_eq_true, decide_eq_true_eq] at h
  obtain ⟨⟨_, hx, hy, ha⟩, hi⟩ := h
  have a1 := itB_size hx
  have a2 := txP_size t.y
  have a3 := txJ_size ha
  refine ⟨hx, hy, ha, ?_⟩
  have e1 : wFe5.size = 5 := rfl
  have e2 : wSp.size = 1 := rfl
  simp only [jn, ByteArray.size_append]; omega
theorem txS_size {t : Itm} (h : gdS t = true) : (txS t).size ≤ 1000000 := by
  have h := (gdS_parts h).2.2.2
  rw [txS_jn, ByteArray.size_append]
  have e : wLf.size = 1 := rfl
  omega
theorem txF_size {t : Itm} (h : gdF t = true) : (txF t).size ≤ 1000000 := by
  have h := (gdF_parts h).2.2.2
  rw [txF_jn, ByteArray.size_append]
  have e : wLf.size = 1 := rfl
  omega
theorem nine_row {q : Nat} {T : TypeId} {id : ByteArray} {x y k m d o w c : Int} {u : World} (h : u.heap[q]? = some (.cells #[.string id, .int .i64 x, .int .i64 y, .int .i64 k, .int .i64 m, .int .i64 d, .int .i64 o, .int .i64 w, .int .i64 c] T (0, 0))) :
    u.cell? ⟨q, 0, none⟩ = some (.string id) ∧ u.cell? ⟨q, 1, none⟩ = some (.int .i64 x) ∧ u.cell? ⟨q, 2, none⟩ = some (.int .i64 y) ∧ u.cell? ⟨q, 3, none⟩ = some (.int .i64 k) ∧ u.cell? ⟨q, 4, none⟩ = some (.int .i64 m) ∧ u.cell? ⟨q, 5, none⟩ = some (.int .i64 d) ∧ u.cell? ⟨q, 6, none⟩ = some (.int .i64 o) ∧ u.cell? ⟨q, 7, none⟩ = some (.int .i64 w) ∧ u.cell? ⟨q, 8, none⟩ = some (.int .i64 c) := by
  refine ⟨?_, ?_, ?_, ?_, ?_, ?_, ?_, ?_, ?_⟩ <;> (rw [cell_of_row _ _ _ _ _ _ h]; rfl)
end Go.Proofs.YtaamdimgloblpaaGreatDoor

namespace Go.Proofs.YtaamdimgloblpaaGreatDoor
open Go.RowKit

def wCa9 : ByteArray := ⟨#[99, 97, 116, 97, 108, 111, 103, 117, 101]⟩
def wFr4 : ByteArray := ⟨#[102, 114, 101, 101]⟩
def wEn3 : ByteArray := ⟨#[101, 110, 100]⟩
theorem headS (f : Int) : (ByteArray.empty ++ (jn [wCa9] ++ wLf)) ++ (jn [wFr4, itB f] ++ wLf) = wCat ++ (wFre ++ (itB f ++ wLf)) := by
  have e1 : wCat = wCa9 ++ wLf := rfl
  have e2 : wFre = wFr4 ++ wSp := rfl
  rw [e1, e2]
  simp only [jn, ByteArray.append_assoc, ByteArray.empty_append]
structure SB (q : Nat) (T : TypeId) (id : ByteArray) (x y k m d o w c : Int) (u : World) : Prop where
  r : u.heap[q]? = some (.cells #[.string id, .int .i64 x, .int .i64 y, .int .i64 k, .int .i64 m, .int .i64 d, .int .i64 o, .int .i64 w, .int .i64 c] T (0, 0))
theorem SB.on {q : Nat} {T : TypeId} {id : ByteArray} {x y k m d o w c : Int} {u u' : World} (h : SB q T id x y k m d o w c u) (hb : Below u.heap.size u u') : SB q T id x y k m d o w c u' := ⟨row_kept h.r hb⟩
theorem SB.cells {q : Nat} {T : TypeId} {id : ByteArray} {x y k m d o w c : Int} {u : World} (h : SB q T id x y k m d o w c u) :
    u.cell? ⟨q, 0, none⟩ = some (.string id) ∧ u.cell? ⟨q, 1, none⟩ = some (.int .i64 x) ∧ u.cell? ⟨q, 2, none⟩ = some (.int .i64 y) ∧ u.cell? ⟨q, 3, none⟩ = some (.int .i64 k) ∧ u.cell? ⟨q, 4, none⟩ = some (.int .i64 m) ∧ u.cell? ⟨q, 5, none⟩ = some (.int .i64 d) ∧ u.cell? ⟨q, 6, none⟩ = some (.int .i64 o) ∧ u.cell? ⟨q, 7, none⟩ = some (.int .i64 w) ∧ u.cell? ⟨q, 8, none⟩ = some (.int .i64 c) := nine_row h.r
theorem parS {id : ByteArray} {x y k m d o w c : Int} (h : gdS ⟨id, x, y, k, m, d, o, w, c⟩ = true) : inT x = true ∧ inT y = true ∧ ancB ⟨k, m, d, o, w, c⟩ = true ∧ (jn [wSe5, id, itB x, itB y, txJ ⟨k, m, d, o, w, c⟩]).size ≤ 600000 := gdS_parts h
theorem parF {id : ByteArray} {x y k m d o w c : Int} (h : gdF ⟨id, x, y, k, m, d, o, w, c⟩ = true) : inT x = true ∧ (1 ≤ y ∧ y ≤ 3) ∧ ancB ⟨k, m, d, o, w, c⟩ = true ∧ (jn [wFe5, id, itB x, txP y, txJ ⟨k, m, d, o, w, c⟩]).size ≤ 600000 := gdF_parts h
theorem takS {l : List Itm} {i : Nat} {id : ByteArray} {x y k m d o w c : Int} (h : l[i]? = some ⟨id, x, y, k, m, d, o, w, c⟩) : txs txS (l.take (i + 1)) = txs txS (l.take i) ++ (jn [wSe5, id, itB x, itB y, txJ ⟨k, m, d, o, w, c⟩] ++ wLf) := (txs_take txS l i _ h).trans (congrArg _ (txS_jn _))
theorem takF {l : List Itm} {i : Nat} {id : ByteArray} {x y k m d o w c : Int} (h : l[i]? = some ⟨id, x, y, k, m, d, o, w, c⟩) : txs txF (l.take (i + 1)) = txs txF (l.take i) ++ (jn [wFe5, id, itB x, txP y, txJ ⟨k, m, d, o, w, c⟩] ++ wLf) := (txs_take txF l i _ h).trans (congrArg _ (txF_jn _))
theorem tak_size {f : Itm → ByteArray} {l : List Itm} {n : Nat} (h : ∀ t ∈ l, (f t).size ≤ 1000000) (hl : l.length ≤ 100000) : (txs f (l.take n)).size ≤ 100000000000 := by
  have h1 := txs_size f 1000000 (l.take n) fun t ht => h t (List.mem_of_mem_take ht)
  have h2 : (l.take n).length ≤ l.length := by rw [List.length_take]; omega
  have : (l.take n).length * 1000000 ≤ 100000 * 1000000 := Nat.mul_le_mul (Nat.le_trans h2 hl) (Nat.le_refl _)
  omega
set_option maxRecDepth 100000 in
set_option maxHeartbeats 1000000 in
theorem p26pri {c : Cat} {v1 v2 : Value} {w : World} (hT : T26 w) (h1 : SlAt w v1 c.ss) (h2 : SlAt w v2 c.fs) (hf : inT c.free = true) (hs : ∀ t ∈ c.ss, gdS t = true) (hg : ∀ t ∈ c.fs, gdF t = true) (n1 : c.ss.length ≤ 100000) (n2 : c.fs.length ≤ 100000) :
    Calls Tryz.prog 9 #[.agg #[.int .i64 c.free, v1, v2]] w fun e w' => e = .returned (.string (txC c)) ∧ Below w.heap.size w w' := by
  obtain ⟨free, ss, fs⟩ := c
  simp only at hf h1 h2 hs hg n1 n2 ⊢
  obtain ⟨A1, c1, rfl, _, _, a1⟩ := h1
  obtain ⟨A2, c2, rfl, _, _, a2⟩ := h2
  have Q1 := Lib.hid a1
  have Q2 := Lib.hid a2
  clear a1 a2
  have hT := Lib.hid hT
  have hs := Lib.hid hs
  have hg := Lib.hid hg
  have P0 := Lib.hid (PrS.new w free (.slice A1 ss.length c1) (.slice A2 fs.length c2))
  have HW := Lib.hid (fun (u : World) (t s : ByteArray) (h : PrS w free (.slice A1 ss.length c1) (.slice A2 fs.length c2) t u) (hl : t.size + s.size ≤ 140737488355328) => prs_write h hl)
  have HI := Lib.hid (fun (u : World) (x : Int) (hx : inT x = true) (t : T26 u) => p26ito hx u t)
  have HL0 : ∀ (u : World) (g : Nat), g = u.heap.size → Calls Tryz.prog 17 #[.slice (some ⟨g, 0, none⟩) 1 1] (u.alloc (.cells #[.string (wCa9)] 9)) fun e w' => e = .returned (.string (jn [wCa9] ++ wLf)) ∧ Below u.heap.size u w' := fun u g hgz => by
    subst hgz
    exact (p26lin (xs := [wCa9]) (lit1 (wCa9) _) (by simp) (by decide)).mono fun e w' hh => ⟨hh.1, below_on (al1 u _) hh.2⟩
  have HL0 := Lib.hid HL0
  have HL1 : ∀ (u : World) (g : Nat), g = u.heap.size → Calls Tryz.prog 17 #[.slice (some ⟨g, 0, none⟩) 2 2] (u.alloc (.cells #[.string (wFr4), .string (itB free)] 9)) fun e w' => e = .returned (.string (jn [wFr4, itB free] ++ wLf)) ∧ Below u.heap.size u w' := fun u g hgz => by
    subst hgz
    exact (p26lin (xs := [wFr4, itB free]) (lit2 (wFr4) (itB free) _) (by simp) (by have a1 := itB_size hf; simp only [jn, ByteArray.size_append]; have e1 : wFr4.size = 4 := rfl; have e2 : wSp.size = 1 := rfl; omega)).mono fun e w' hh => ⟨hh.1, below_on (al1 u _) hh.2⟩
  have HL1 := Lib.hid HL1
  have HL4 : ∀ (u : World) (g : Nat), g = u.heap.size → Calls Tryz.prog 17 #[.slice (some ⟨g, 0, none⟩) 1 1] (u.alloc (.cells #[.string (wEn3)] 9)) fun e w' => e = .returned (.string (jn [wEn3] ++ wLf)) ∧ Below u.heap.size u w' := fun u g hgz => by
    subst hgz
    exact (p26lin (xs := [wEn3]) (lit1 (wEn3) _) (by simp) (by decide)).mono fun e w' hh => ⟨hh.1, below_on (al1 u _) hh.2⟩
  have HL4 := Lib.hid HL4
  have HF := HI.out
  have hz := Lib.hid (fun (t : ByteArray) (A B : ByteArray) (h : A.size ≤ 1000) (e : t = A ++ B) (hB : B.size ≤ 200000000000) => show t.size ≤ 300000000000 by rw [e, ByteArray.size_append]; omega)
  have hH := Lib.hid (headS free)
  have hfs := itB_size hf
  have z0 : (jn [wCa9] ++ wLf).size ≤ 100 := by decide
  have z1 : (jn [wFr4, itB free] ++ wLf).size ≤ 100 := by
    have e1 : wFr4.size = 4 := rfl
    have e2 : wSp.size = 1 := rfl
    have e3 : wLf.size = 1 := rfl
    simp only [jn, ByteArray.size_append]; omega
  have z4 : (jn [wEn3] ++ wLf).size ≤ 100 := by decide
  have eE : jn [wEn3] ++ wLf = wEnd := rfl
  have HF := Lib.hid (fun (u : World) (t : T26 u) => p26ito hf u t)
  clear hf
  generalize ht0 : jn [wCa9] ++ wLf = t0 at *
  generalize ht1 : jn [wFr4, itB free] ++ wLf = t1 at *
  generalize ht4 : jn [wEn3] ++ wLf = t4 at *
  generalize hti : itB free = ti at *
  have hti := Lib.hid hti
  have ht0 := Lib.hid ht0
  have ht1 := Lib.hid ht1
  have ht4 := Lib.hid ht4
  have eE := Lib.hid eE
  have z0 := Lib.hid z0
  have z1 := Lib.hid z1
  have z4 := Lib.hid z4
  have hfs := Lib.hid hfs
  have e0 : (ByteArray.empty).size = 0 := rfl
  have e0 := Lib.hid e0
  go_enter Tryz.func9, Tryz.ntmps9
  go_wp2_with fail
  refine (HL0.out _ _ (by simp)).mono ?_
  rintro e u1 ⟨rfl, hb1⟩
  have P1 := Lib.hid (P0.out.on hb1)
  clear hb1 P0 HL0
  go_wp2_with fail
  refine (HW.out _ _ _ P1.out (by have := z0.out; have := e0.out; omega)).mono ?_
  rintro e u2 ⟨rfl, P2, -⟩
  clear P1
  have T2 := Lib.hid (hT.out.on P2.bl)
  have k0 : u2.cell? ⟨w.heap.size, 0, none⟩ = some (.int .i64 free) := by rw [cell_of_row _ _ _ _ _ _ P2.row]; rfl
  have P2 := Lib.hid P2
  go_wp2_with fail
  refine (HF.out _ T2.out).mono ?_
  rintro e u3 ⟨rfl, hb3⟩
  clear k0 T2
  have P3 := Lib.hid (P2.out.on hb3)
  clear hb3 P2
  go_wp2_with fail
  refine (HL1.out _ _ (by simp)).mono ?_
  rintro e u4 ⟨rfl, hb4⟩
  have P4 := Lib.hid (P3.out.on hb4)
  clear hb4 P3 HL1
  go_wp2_with fail
  refine (HW.out _ _ _ P4.out (by have := z0.out; have := z1.out; have := e0.out; simp only [ByteArray.size_append]; omega)).mono ?_
  rintro e u5 ⟨rfl, P5, -⟩
  clear P4
  have hz5 : (ByteArray.empty ++ t0 ++ t1).size ≤ 1000 := by have := z0.out; have := z1.out; have := e0.out; simp only [ByteArray.size_append]; omega
  have hz5 := Lib.hid hz5
  generalize hT5 : ByteArray.empty ++ t0 ++ t1 = T5 at *
  have hT5 := Lib.hid hT5.symm
  have k0 : u5.cell? ⟨w.heap.size, 1, none⟩ = some (.slice A1 ss.length c1) := by rw [cell_of_row _ _ _ _ _ _ P5.row]; rfl
  have P5 := Lib.hid P5
  go_wp2_with fail
  clear k0
  go_loopw [20] (fun i wr => ∃ k : Nat, k ≤ ss.length ∧ i = .int .i64 k ∧ PrS w free (.slice A1 ss.length c1) (.slice A2 fs.length c2) (T5 ++ txs txS (ss.take k)) wr) (fun i _ => ss.length - (intOf i).toNat)
  case atStart => exact ⟨0, Nat.zero_le _, rfl, by rw [List.take_zero]; show PrS _ _ _ _ (T5 ++ ByteArray.empty) _; rw [ByteArray.append_empty]; exact P5.out⟩
  case round =>
    clear P5
    obtain ⟨k, hk, rfl, hP⟩ := hrel
    by_cases hlt : k < ss.length
    · obtain ⟨c, hc⟩ : ∃ c, ss[k]? = some c := ⟨_, List.getElem?_eq_getElem hlt⟩
      obtain ⟨b, p, hA, hl1, hit⟩ := Q1.out k c hc
      subst hA
      have C1 := hit.on hP.bl hl1
      have hsz : (txs txS (ss.take k)).size ≤ 100000000000 := tak_size (fun t ht => txS_size (hs.out t ht)) n1
      have hsz := Lib.hid hsz
      have hgd := hs.out c (List.mem_of_getElem? hc)
      obtain ⟨id, x, y, a1, a2, a3, a4, a5, a6⟩ := c
      obtain ⟨hx, hy, ha, hl⟩ := parS hgd
      have htk := Lib.hid (takS hc)
      obtain ⟨q0, q1, q2, q3, q4, q5, q6, q7, q8⟩ := C1.nine
      clear C1 hit hl1 hgd hc
      have HL2 : ∀ (u : World) (g : Nat), g = u.heap.size → Calls Tryz.prog 17 #[.slice (some ⟨g, 0, none⟩) 5 5] (u.alloc (.cells #[.string (wSe5), .string (id), .string (itB x), .string (itB y), .string (txJ ⟨a1, a2, a3, a4, a5, a6⟩)] 9)) fun e w' => e = .returned (.string (jn [wSe5, id, itB x, itB y, txJ ⟨a1, a2, a3, a4, a5, a6⟩] ++ wLf)) ∧ Below u.heap.size u w' := fun u g hgz => by
        subst hgz
        exact (p26lin (xs := [wSe5, id, itB x, itB y, txJ ⟨a1, a2, a3, a4, a5, a6⟩]) (lit5 (wSe5) (id) (itB x) (itB y) (txJ ⟨a1, a2, a3, a4, a5, a6⟩) _) (by simp) (Nat.le_trans hl (by decide))).mono fun e w' hh => ⟨hh.1, below_on (al1 u _) hh.2⟩
      have HL2 := Lib.hid HL2
      have HC0 := Lib.hid (fun (u : World) (hu : T26 u) => p26ito hx u hu)
      have HC1 := Lib.hid (fun (u : World) (hu : T26 u) => p26ito hy u hu)
      have HC2 := Lib.hid (fun (u : World) (hu : T26 u) => p26ant hu ha)
      generalize htl : jn [wSe5, id, itB x, itB y, txJ ⟨a1, a2, a3, a4, a5, a6⟩] ++ wLf = tl at *
      have hzl : tl.size ≤ 600001 := by rw [← htl, ByteArray.size_append]; have e : wLf.size = 1 := rfl; omega
      have hzl := Lib.hid hzl
      clear htl hl hx hy ha
      generalize itB x = tx at *
      generalize itB y = ty at *
      generalize txJ ⟨a1, a2, a3, a4, a5, a6⟩ = ta at *
      have hP0 := Lib.hid ((hP.on (al1 wr (.cells #[.string id, .int .i64 x, .int .i64 y, .int .i64 a1, .int .i64 a2, .int .i64 a3, .int .i64 a4, .int .i64 a5, .int .i64 a6] 38))).on (below_dn (Below.refl _ _) 1))
      have hq := hP.lt
      have S0 := Lib.hid ((show SB wr.heap.size 38 id x y a1 a2 a3 a4 a5 a6 (wr.alloc (.cells #[.string id, .int .i64 x, .int .i64 y, .int .i64 a1, .int .i64 a2, .int .i64 a3, .int .i64 a4, .int .i64 a5, .int .i64 a6] 38)) from ⟨heap_alloc_new _ _⟩).on (below_dn (Below.refl _ _) 1))
      clear hP
      go_wp2_with fail
      clear q0 q1 q2 q3 q4 q5 q6 q7 q8
      refine wp_region_held_drew (S := fun u => SB wr.heap.size 38 id x y a1 a2 a3 a4 a5 a6 u) (by kernel_rfl) S0.out (fun hHeld => ?_)
      refine wpAnyH_take (i := 0) (oi := { dst := some 24, op := _, type := _, pos := _, after := _, guard := _ }) (v := ?v1_0) rfl (by kernel_rfl) (by kernel_rfl) (by kernel_rfl) (fun _ _ _ h => h) (Or.inl ⟨by rfl, ?hy1_0⟩) hHeld ?_
      case hy1_0 => (intro w hSw; obtain ⟨s0, s1, s2, s3, s4, s5, s6, s7, s8⟩ := (SB.cells hSw); go_simp; try with_reducible rfl)
      simp only [Act.put, List.setIfInBounds_toArray, List.set_cons_zero, List.set_cons_succ]
      refine wpAnyH_take (i := 1) (oi := { dst := some 25, op := _, type := _, pos := _, after := _, guard := _ }) (v := ?v1_1) rfl (by kernel_rfl) (by kernel_rfl) (by kernel_rfl) (fun _ _ _ h => h) (Or.inl ⟨by rfl, ?hy1_1⟩) hHeld ?_
      case hy1_1 => (intro w hSw; obtain ⟨s0, s1, s2, s3, s4, s5, s6, s7, s8⟩ := (SB.cells hSw); go_simp; try with_reducible rfl)
      simp only [Act.put, List.setIfInBounds_toArray, List.set_cons_zero, List.set_cons_succ]
      refine wpAnyH_take (i := 2) (oi := { dst := some 26, op := _, type := _, pos := _, after := _, guard := _ }) (v := ?v1_2) rfl (by kernel_rfl) (by kernel_rfl) (by kernel_rfl) (fun _ _ _ h => h) (Or.inl ⟨by rfl, ?hy1_2⟩) hHeld ?_
      case hy1_2 => (intro w hSw; obtain ⟨s0, s1, s2, s3, s4, s5, s6, s7, s8⟩ := (SB.cells hSw); go_simp; try with_reducible rfl)
      simp only [Act.put, List.setIfInBounds_toArray, List.set_cons_zero, List.set_cons_succ]
      refine wpAnyH_take (i := 3) (oi := { dst := some 27, op := _, type := _, pos := _, after := _, guard := _ }) (v := ?v1_3) rfl (by kernel_rfl) (by kernel_rfl) (by kernel_rfl) (fun _ _ _ h => h) (Or.inl ⟨by rfl, ?hy1_3⟩) hHeld ?_
      case hy1_3 => (intro w hSw; obtain ⟨s0, s1, s2, s3, s4, s5, s6, s7, s8⟩ := (SB.cells hSw); go_simp; try with_reducible rfl)
      simp only [Act.put, List.setIfInBounds_toArray, List.set_cons_zero, List.set_cons_succ]
      refine wpAnyH_take (i := 5) (oi := { dst := some 29, op := _, type := _, pos := _, after := _, guard := _ }) (v := ?v1_5) rfl (by kernel_rfl) (by kernel_rfl) (by kernel_rfl) (fun _ _ _ h => h) (Or.inl ⟨by rfl, ?hy1_5⟩) hHeld ?_
      case hy1_5 => (intro w hSw; obtain ⟨s0, s1, s2, s3, s4, s5, s6, s7, s8⟩ := (SB.cells hSw); go_simp; try with_reducible rfl)
      simp only [Act.put, List.setIfInBounds_toArray, List.set_cons_zero, List.set_cons_succ]
      refine wpAnyH_take (i := 6) (oi := { dst := some 30, op := _, type := _, pos := _, after := _, guard := _ }) (v := ?v1_6) rfl (by kernel_rfl) (by kernel_rfl) (by kernel_rfl) (fun _ _ _ h => h) (Or.inl ⟨by rfl, ?hy1_6⟩) hHeld ?_
      case hy1_6 => (intro w hSw; obtain ⟨s0, s1, s2, s3, s4, s5, s6, s7, s8⟩ := (SB.cells hSw); go_simp; try with_reducible rfl)
      simp only [Act.put, List.setIfInBounds_toArray, List.set_cons_zero, List.set_cons_succ]
      refine wpAnyH_take (i := 8) (oi := { dst := some 32, op := _, type := _, pos := _, after := _, guard := _ }) (v := ?v1_8) rfl (by kernel_rfl) (by kernel_rfl) (by kernel_rfl) (fun _ _ _ h => h) (Or.inl ⟨by rfl, ?hy1_8⟩) hHeld ?_
      case hy1_8 => (intro w hSw; obtain ⟨s0, s1, s2, s3, s4, s5, s6, s7, s8⟩ := (SB.cells hSw); go_simp; try with_reducible rfl)
      simp only [Act.put, List.setIfInBounds_toArray, List.set_cons_zero, List.set_cons_succ]
      refine wpAnyH_take (i := 9) (oi := { dst := some 33, op := _, type := _, pos := _, after := _, guard := _ }) (v := ?v1_9) rfl (by kernel_rfl) (by kernel_rfl) (by kernel_rfl) (fun _ _ _ h => h) (Or.inl ⟨by rfl, ?hy1_9⟩) hHeld ?_
      case hy1_9 => (intro w hSw; obtain ⟨s0, s1, s2, s3, s4, s5, s6, s7, s8⟩ := (SB.cells hSw); go_simp; try with_reducible rfl)
      simp only [Act.put, List.setIfInBounds_toArray, List.set_cons_zero, List.set_cons_succ]
      refine wpAnyH_ready (rs := [4]) (by kernel_rfl) (by simp) ?_
      refine AllReadyH.cons (o := { dst := some 28, op := _, type := _, pos := _, after := _, guard := _ }) rfl (fun K hK => ?_) AllReadyH.nil
      go_simp
      go_at_call 18
      refine (HC0.out _ (hT.out.on hP0.out.bl)).mono ?_
      rintro ee0 u0 ⟨rfl, hb0⟩
      have pp0 := hP0.out.on hb0
      have ss0 := S0.out.on hb0
      clear hb0
      refine hK.out _ _ ss0 (fun hHeld => ?_)
      clear hK K
      refine wpAnyH_ready (rs := [7]) (by kernel_rfl) (by simp) ?_
      refine AllReadyH.cons (o := { dst := some 31, op := _, type := _, pos := _, after := _, guard := _ }) rfl (fun K hK => ?_) AllReadyH.nil
      go_simp
      go_at_call 18
      refine (HC1.out _ (hT.out.on pp0.bl)).mono ?_
      rintro ee1 u1 ⟨rfl, hb1⟩
      have pp1 := pp0.on hb1
      have ss1 := ss0.on hb1
      clear hb1
      refine hK.out _ _ ss1 (fun hHeld => ?_)
      clear hK K
      refine wpAnyH_ready (rs := [10]) (by kernel_rfl) (by simp) ?_
      refine AllReadyH.cons (o := { dst := some 34, op := _, type := _, pos := _, after := _, guard := _ }) rfl (fun K hK => ?_) AllReadyH.nil
      go_simp
      go_at_call 19
      refine (HC2.out _ (hT.out.on pp1.bl)).mono ?_
      rintro ee2 u2 ⟨rfl, hb2⟩
      have pp2 := pp1.on hb2
      have ss2 := ss1.on hb2
      clear hb2
      refine hK.out _ _ ss2 (fun hHeld => ?_)
      clear hK K
      refine wpAnyH_ready (rs := [11]) (by kernel_rfl) (by simp) ?_
      refine AllReadyH.cons (o := { dst := some 35, op := _, type := _, pos := _, after := _, guard := _ }) rfl (fun K hK => ?_) AllReadyH.nil
      go_simp
      refine hK.out _ _ (ss2.on (al1 _ _)) (fun hHeld => ?_)
      clear hK K
      refine wpAnyH_ready (rs := [12]) (by kernel_rfl) (by simp) ?_
      refine AllReadyH.cons (o := { dst := some 36, op := _, type := _, pos := _, after := _, guard := _ }) rfl (fun K hK => ?_) AllReadyH.nil
      go_simp
      go_at_call 17
      refine (HL2.out u2 _ rfl).mono ?_
      rintro eeL uL ⟨rfl, hbL⟩
      have ppL := pp2.on hbL
      have ssL := ss2.on hbL
      clear hbL
      refine hK.out _ _ ssL (fun hHeld => ?_)
      clear hK K
      refine wpAnyH_ready (rs := [13]) (by kernel_rfl) (by simp) ?_
      refine AllReadyH.cons (o := { dst := some 37, op := _, type := _, pos := _, after := _, guard := _ }) rfl (fun K hK => ?_) AllReadyH.nil
      go_simp
      go_at_call 16
      refine (HW.out _ _ _ ppL (by have := hsz.out; have := hz5.out; have := hzl.out; simp only [ByteArray.size_append]; omega)).mono ?_
      rintro eeW uW ⟨rfl, ppW, hoW⟩
      have ssW : SB wr.heap.size 38 id x y a1 a2 a3 a4 a5 a6 uW := ⟨oth_row hoW ssL.r hq (by decide)⟩
      clear hoW
      refine hK.out _ _ ssW (fun hHeld => ?_)
      clear hK K
      refine wpAnyH_done (by kernel_rfl) ?_ _
      go_wp2_with fail
      go_roundw
      case rel => exact ⟨k + 1, by omega, by go_num, by rw [htk.out, ← ByteArray.append_assoc]; exact ppW⟩
      case measure => simp [intOf]; omega
    · obtain rfl : k = ss.length := by omega
      rw [List.take_length] at hP
      have hsz : (txs txS ss).size ≤ 100000000000 := by have := tak_size (n := ss.length) (fun t ht => txS_size (hs.out t ht)) n1; rwa [List.take_length] at this
      have hz6 : (T5 ++ txs txS ss).size ≤ 100000001000 := by have := hz5.out; rw [ByteArray.size_append]; omega
      clear hsz
      have k0 : wr.cell? ⟨w.heap.size, 2, none⟩ = some (.slice A2 fs.length c2) := by rw [cell_of_row _ _ _ _ _ _ hP.row]; rfl
      generalize hT6 : T5 ++ txs txS ss = T6 at *
      have hz6 := Lib.hid hz6
      have hT6 := Lib.hid hT6
      have hP := Lib.hid hP
      go_wp2_with fail
      clear k0
      go_loopw [42] (fun i wr => ∃ k : Nat, k ≤ fs.length ∧ i = .int .i64 k ∧ PrS w free (.slice A1 ss.length c1) (.slice A2 fs.length c2) (T6 ++ txs txF (fs.take k)) wr) (fun i _ => fs.length - (intOf i).toNat)
      case atStart => exact ⟨0, Nat.zero_le _, rfl, by rw [List.take_zero]; show PrS _ _ _ _ (T6 ++ ByteArray.empty) _; rw [ByteArray.append_empty]; exact hP.out⟩
      case round =>
        clear hP hlt hk
        obtain ⟨k, hk, rfl, hP⟩ := hrel
        by_cases hlt : k < fs.length
        · obtain ⟨c, hc⟩ : ∃ c, fs[k]? = some c := ⟨_, List.getElem?_eq_getElem hlt⟩
          obtain ⟨b, p, hA, hl1, hit⟩ := Q2.out k c hc
          subst hA
          have C1 := hit.on hP.bl hl1
          have hsz : (txs txF (fs.take k)).size ≤ 100000000000 := tak_size (fun t ht => txF_size (hg.out t ht)) n2
          have hsz := Lib.hid hsz
          have hgd := hg.out c (List.mem_of_getElem? hc)
          obtain ⟨id, x, y, a1, a2, a3, a4, a5, a6⟩ := c
          obtain ⟨hx, hy, ha, hl⟩ := parF hgd
          have htk := Lib.hid (takF hc)
          obtain ⟨q0, q1, q2, q3, q4, q5, q6, q7, q8⟩ := C1.nine
          clear C1 hit hl1 hgd hc
          have HL2 : ∀ (u : World) (g : Nat), g = u.heap.size → Calls Tryz.prog 17 #[.slice (some ⟨g, 0, none⟩) 5 5] (u.alloc (.cells #[.string (wFe5), .string (id), .string (itB x), .string (txP y), .string (txJ ⟨a1, a2, a3, a4, a5, a6⟩)] 9)) fun e w' => e = .returned (.string (jn [wFe5, id, itB x, txP y, txJ ⟨a1, a2, a3, a4, a5, a6⟩] ++ wLf)) ∧ Below u.heap.size u w' := fun u g hgz => by
            subst hgz
            exact (p26lin (xs := [wFe5, id, itB x, txP y, txJ ⟨a1, a2, a3, a4, a5, a6⟩]) (lit5 (wFe5) (id) (itB x) (txP y) (txJ ⟨a1, a2, a3, a4, a5, a6⟩) _) (by simp) (Nat.le_trans hl (by decide))).mono fun e w' hh => ⟨hh.1, below_on (al1 u _) hh.2⟩
          have HL2 := Lib.hid HL2
          have HC0 := Lib.hid (fun (u : World) (hu : T26 u) => p26ito hx u hu)
          have HC1 := Lib.hid (fun (u : World) (hu : T26 u) => p26pwd hy.1 hy.2 u)
          have HC2 := Lib.hid (fun (u : World) (hu : T26 u) => p26ant hu ha)
          generalize htl : jn [wFe5, id, itB x, txP y, txJ ⟨a1, a2, a3, a4, a5, a6⟩] ++ wLf = tl at *
          have hzl : tl.size ≤ 600001 := by rw [← htl, ByteArray.size_append]; have e : wLf.size = 1 := rfl; omega
          have hzl := Lib.hid hzl
          clear htl hl hx hy ha
          generalize itB x = tx at *
          generalize txP y = ty at *
          generalize txJ ⟨a1, a2, a3, a4, a5, a6⟩ = ta at *
          have hP0 := Lib.hid ((hP.on (al1 wr (.cells #[.string id, .int .i64 x, .int .i64 y, .int .i64 a1, .int .i64 a2, .int .i64 a3, .int .i64 a4, .int .i64 a5, .int .i64 a6] 40))).on (below_dn (Below.refl _ _) 1))
          have hq := hP.lt
          have S0 := Lib.hid ((show SB wr.heap.size 40 id x y a1 a2 a3 a4 a5 a6 (wr.alloc (.cells #[.string id, .int .i64 x, .int .i64 y, .int .i64 a1, .int .i64 a2, .int .i64 a3, .int .i64 a4, .int .i64 a5, .int .i64 a6] 40)) from ⟨heap_alloc_new _ _⟩).on (below_dn (Below.refl _ _) 1))
          clear hP
          go_wp2_with fail
          clear q0 q1 q2 q3 q4 q5 q6 q7 q8
          refine wp_region_held_drew (S := fun u => SB wr.heap.size 40 id x y a1 a2 a3 a4 a5 a6 u) (by kernel_rfl) S0.out (fun hHeld => ?_)
          refine wpAnyH_take (i := 0) (oi := { dst := some 46, op := _, type := _, pos := _, after := _, guard := _ }) (v := ?v2_0) rfl (by kernel_rfl) (by kernel_rfl) (by kernel_rfl) (fun _ _ _ h => h) (Or.inl ⟨by rfl, ?hy2_0⟩) hHeld ?_
          case hy2_0 => (intro w hSw; obtain ⟨s0, s1, s2, s3, s4, s5, s6, s7, s8⟩ := (SB.cells hSw); go_simp; try with_reducible rfl)
          simp only [Act.put, List.setIfInBounds_toArray, List.set_cons_zero, List.set_cons_succ]
          refine wpAnyH_take (i := 1) (oi := { dst := some 47, op := _, type := _, pos := _, after := _, guard := _ }) (v := ?v2_1) rfl (by kernel_rfl) (by kernel_rfl) (by kernel_rfl) (fun _ _ _ h => h) (Or.inl ⟨by rfl, ?hy2_1⟩) hHeld ?_
          case hy2_1 => (intro w hSw; obtain ⟨s0, s1, s2, s3, s4, s5, s6, s7, s8⟩ := (SB.cells hSw); go_simp; try with_reducible rfl)
          simp only [Act.put, List.setIfInBounds_toArray, List.set_cons_zero, List.set_cons_succ]
          refine wpAnyH_take (i := 2) (oi := { dst := some 48, op := _, type := _, pos := _, after := _, guard := _ }) (v := ?v2_2) rfl (by kernel_rfl) (by kernel_rfl) (by kernel_rfl) (fun _ _ _ h => h) (Or.inl ⟨by rfl, ?hy2_2⟩) hHeld ?_
          case hy2_2 => (intro w hSw; obtain ⟨s0, s1, s2, s3, s4, s5, s6, s7, s8⟩ := (SB.cells hSw); go_simp; try with_reducible rfl)
          simp only [Act.put, List.setIfInBounds_toArray, List.set_cons_zero, List.set_cons_succ]
          refine wpAnyH_take (i := 3) (oi := { dst := some 49, op := _, type := _, pos := _, after := _, guard := _ }) (v := ?v2_3) rfl (by kernel_rfl) (by kernel_rfl) (by kernel_rfl) (fun _ _ _ h => h) (Or.inl ⟨by rfl, ?hy2_3⟩) hHeld ?_
          case hy2_3 => (intro w hSw; obtain ⟨s0, s1, s2, s3, s4, s5, s6, s7, s8⟩ := (SB.cells hSw); go_simp; try with_reducible rfl)
          simp only [Act.put, List.setIfInBounds_toArray, List.set_cons_zero, List.set_cons_succ]
          refine wpAnyH_take (i := 5) (oi := { dst := some 51, op := _, type := _, pos := _, after := _, guard := _ }) (v := ?v2_5) rfl (by kernel_rfl) (by kernel_rfl) (by kernel_rfl) (fun _ _ _ h => h) (Or.inl ⟨by rfl, ?hy2_5⟩) hHeld ?_
          case hy2_5 => (intro w hSw; obtain ⟨s0, s1, s2, s3, s4, s5, s6, s7, s8⟩ := (SB.cells hSw); go_simp; try with_reducible rfl)
          simp only [Act.put, List.setIfInBounds_toArray, List.set_cons_zero, List.set_cons_succ]
          refine wpAnyH_take (i := 6) (oi := { dst := some 52, op := _, type := _, pos := _, after := _, guard := _ }) (v := ?v2_6) rfl (by kernel_rfl) (by kernel_rfl) (by kernel_rfl) (fun _ _ _ h => h) (Or.inl ⟨by rfl, ?hy2_6⟩) hHeld ?_
          case hy2_6 => (intro w hSw; obtain ⟨s0, s1, s2, s3, s4, s5, s6, s7, s8⟩ := (SB.cells hSw); go_simp; try with_reducible rfl)
          simp only [Act.put, List.setIfInBounds_toArray, List.set_cons_zero, List.set_cons_succ]
          refine wpAnyH_take (i := 8) (oi := { dst := some 54, op := _, type := _, pos := _, after := _, guard := _ }) (v := ?v2_8) rfl (by kernel_rfl) (by kernel_rfl) (by kernel_rfl) (fun _ _ _ h => h) (Or.inl ⟨by rfl, ?hy2_8⟩) hHeld ?_
          case hy2_8 => (intro w hSw; obtain ⟨s0, s1, s2, s3, s4, s5, s6, s7, s8⟩ := (SB.cells hSw); go_simp; try with_reducible rfl)
          simp only [Act.put, List.setIfInBounds_toArray, List.set_cons_zero, List.set_cons_succ]
          refine wpAnyH_take (i := 9) (oi := { dst := some 55, op := _, type := _, pos := _, after := _, guard := _ }) (v := ?v2_9) rfl (by kernel_rfl) (by kernel_rfl) (by kernel_rfl) (fun _ _ _ h => h) (Or.inl ⟨by rfl, ?hy2_9⟩) hHeld ?_
          case hy2_9 => (intro w hSw; obtain ⟨s0, s1, s2, s3, s4, s5, s6, s7, s8⟩ := (SB.cells hSw); go_simp; try with_reducible rfl)
          simp only [Act.put, List.setIfInBounds_toArray, List.set_cons_zero, List.set_cons_succ]
          refine wpAnyH_ready (rs := [4]) (by kernel_rfl) (by simp) ?_
          refine AllReadyH.cons (o := { dst := some 50, op := _, type := _, pos := _, after := _, guard := _ }) rfl (fun K hK => ?_) AllReadyH.nil
          go_simp
          go_at_call 18
          refine (HC0.out _ (hT.out.on hP0.out.bl)).mono ?_
          rintro ee0 u0 ⟨rfl, hb0⟩
          have pp0 := hP0.out.on hb0
          have ss0 := S0.out.on hb0
          clear hb0
          refine hK.out _ _ ss0 (fun hHeld => ?_)
          clear hK K
          refine wpAnyH_ready (rs := [7]) (by kernel_rfl) (by simp) ?_
          refine AllReadyH.cons (o := { dst := some 53, op := _, type := _, pos := _, after := _, guard := _ }) rfl (fun K hK => ?_) AllReadyH.nil
          go_simp
          go_at_call 20
          refine (HC1.out _ (hT.out.on pp0.bl)).mono ?_
          rintro ee1 u1 ⟨rfl, hb1⟩
          have pp1 := pp0.on hb1
          have ss1 := ss0.on hb1
          clear hb1
          refine hK.out _ _ ss1 (fun hHeld => ?_)
          clear hK K
          refine wpAnyH_ready (rs := [10]) (by kernel_rfl) (by simp) ?_
          refine AllReadyH.cons (o := { dst := some 56, op := _, type := _, pos := _, after := _, guard := _ }) rfl (fun K hK => ?_) AllReadyH.nil
          go_simp
          go_at_call 19
          refine (HC2.out _ (hT.out.on pp1.bl)).mono ?_
          rintro ee2 u2 ⟨rfl, hb2⟩
          have pp2 := pp1.on hb2
          have ss2 := ss1.on hb2
          clear hb2
          refine hK.out _ _ ss2 (fun hHeld => ?_)
          clear hK K
          refine wpAnyH_ready (rs := [11]) (by kernel_rfl) (by simp) ?_
          refine AllReadyH.cons (o := { dst := some 57, op := _, type := _, pos := _, after := _, guard := _ }) rfl (fun K hK => ?_) AllReadyH.nil
          go_simp
          refine hK.out _ _ (ss2.on (al1 _ _)) (fun hHeld => ?_)
          clear hK K
          refine wpAnyH_ready (rs := [12]) (by kernel_rfl) (by simp) ?_
          refine AllReadyH.cons (o := { dst := some 58, op := _, type := _, pos := _, after := _, guard := _ }) rfl (fun K hK => ?_) AllReadyH.nil
          go_simp
          go_at_call 17
          refine (HL2.out u2 _ rfl).mono ?_
          rintro eeL uL ⟨rfl, hbL⟩
          have ppL := pp2.on hbL
          have ssL := ss2.on hbL
          clear hbL
          refine hK.out _ _ ssL (fun hHeld => ?_)
          clear hK K
          refine wpAnyH_ready (rs := [13]) (by kernel_rfl) (by simp) ?_
          refine AllReadyH.cons (o := { dst := some 59, op := _, type := _, pos := _, after := _, guard := _ }) rfl (fun K hK => ?_) AllReadyH.nil
          go_simp
          go_at_call 16
          refine (HW.out _ _ _ ppL (by have := hsz.out; have := hz5.out; have := hzl.out; have := hz6.out; simp only [ByteArray.size_append]; omega)).mono ?_
          rintro eeW uW ⟨rfl, ppW, hoW⟩
          have ssW : SB wr.heap.size 40 id x y a1 a2 a3 a4 a5 a6 uW := ⟨oth_row hoW ssL.r hq (by decide)⟩
          clear hoW
          refine hK.out _ _ ssW (fun hHeld => ?_)
          clear hK K
          refine wpAnyH_done (by kernel_rfl) ?_ _
          go_wp2_with fail
          go_roundw
          case rel => exact ⟨k + 1, by omega, by go_num, by rw [htk.out, ← ByteArray.append_assoc]; exact ppW⟩
          case measure => simp [intOf]; omega
        · obtain rfl : k = fs.length := by omega
          rw [List.take_length] at hP
          have hsz : (txs txF fs).size ≤ 100000000000 := by have := tak_size (n := fs.length) (fun t ht => txF_size (hg.out t ht)) n2; rwa [List.take_length] at this
          have hz7 : (T6 ++ txs txF fs).size ≤ 200000001000 := by have := hz6.out; rw [ByteArray.size_append]; omega
          have hz7 := Lib.hid hz7
          have hP := Lib.hid hP
          clear hsz
          go_wp2_with fail
          refine (HL4.out _ _ (by simp)).mono ?_
          rintro e u6 ⟨rfl, hb6⟩
          have P6 := Lib.hid (hP.out.on hb6)
          clear hb6 hP
          go_wp2_with fail
          refine (HW.out _ _ _ P6.out (by have : wEnd.size = 4 := rfl; have := z4.out; have := hz7.out; omega)).mono ?_
          rintro e u7 ⟨rfl, P7, -⟩
          clear P6
          go_wp2_with fail
          refine (prs_string P7).mono ?_
          rintro e u8 ⟨rfl, hb8⟩
          go_wp2_with fail
          go_ret
          refine ⟨?_, hb8⟩
          show Ending.returned (Value.string (T6 ++ txs txF fs ++ wEnd)) = Ending.returned (Value.string (wCat ++ (wFre ++ (itB free ++ (wLf ++ (txs txS ss ++ (txs txF fs ++ wEnd)))))))
          rw [← hT6.out, hH.out, hti.out]
          simp only [ByteArray.append_assoc]
end Go.Proofs.YtaamdimgloblpaaGreatDoor

namespace Go.Proofs.YtaamdimgloblpaaGreatDoor
open Go.RowKit

def bS1 : ByteArray := ⟨#[99, 97, 116, 97, 108, 111, 103, 117, 101, 10, 102, 114, 101, 101, 32, 55, 10, 115, 101, 97, 115, 111, 110, 32, 115, 32, 49, 32, 50, 32, 110, 116, 104, 32, 109, 111, 110, 100, 97, 121, 32, 45, 49, 32, 53, 32, 51, 49, 10, 102, 101, 97, 115, 116, 32, 102, 32, 51, 32, 111, 109, 105, 116, 32, 101, 97, 115, 116, 101, 114, 32, 52, 57, 10, 101, 110, 100, 10]⟩
def bS2 : ByteArray := ⟨#[99, 97, 116, 97, 108, 111, 103, 117, 101, 10, 102, 114, 101, 101, 32, 48, 48, 10, 101, 110, 100, 10]⟩
def bS3 : ByteArray := ⟨#[99, 97, 116, 97, 108, 111, 103, 117, 101, 10, 102, 114, 101, 101, 32, 48, 10, 101, 110, 100]⟩
def aSea : Itm := ⟨⟨#[115]⟩, 1, 2, 3, 5, 31, 0, 1, -1⟩
def aFea : Itm := ⟨⟨#[102]⟩, 3, 3, 2, 0, 0, 49, 0, 0⟩
theorem aE1 : (pEnd 100 bS1).b = false := by kernel_rfl
theorem aC1 : (pBody 100 bS1 ⟨0, false⟩).1 = ⟨7, [aSea], [aFea]⟩ := by kernel_rfl
theorem aE2 : (pEnd 100 bS2) = ⟨16, true⟩ := by kernel_rfl
theorem aE3 : (pEnd 100 bS3) = ⟨20, true⟩ := by kernel_rfl
theorem aP : txC ⟨0, [], []⟩ = ⟨#[99, 97, 116, 97, 108, 111, 103, 117, 101, 10, 102, 114, 101, 101, 32, 48, 10, 101, 110, 100, 10]⟩ := by kernel_rfl
theorem a_par1 (w : World) (hT : WTab w) : Calls Tryz.prog 10 #[.string ⟨#[99, 97, 116, 97, 108, 111, 103, 117, 101, 10, 102, 114, 101, 101, 32, 55, 10, 115, 101, 97, 115, 111, 110, 32, 115, 32, 49, 32, 50, 32, 110, 116, 104, 32, 109, 111, 110, 100, 97, 121, 32, 45, 49, 32, 53, 32, 51, 49, 10, 102, 101, 97, 115, 116, 32, 102, 32, 51, 32, 111, 109, 105, 116, 32, 101, 97, 115, 116, 101, 114, 32, 52, 57, 10, 101, 110, 100, 10]⟩] w fun e w' => ∃ vS vF, e = .returned (.tuple #[.agg #[.int .i64 7, vS, vF], .int .i64 0, .int .i64 0]) ∧ SlAt w' vS [aSea] ∧ SlAt w' vF [aFea] ∧ Below w.heap.size w w' := by
  have h := p26par_yes (S := bS1) (N := 100) (w := w) (by decide) (by decide) (by decide) hT aE1
  rw [aC1] at h
  exact h
theorem a_par2 (w : World) (hT : WTab w) : Calls Tryz.prog 10 #[.string ⟨#[99, 97, 116, 97, 108, 111, 103, 117, 101, 10, 102, 114, 101, 101, 32, 48, 48, 10, 101, 110, 100, 10]⟩] w fun e w' => e = .returned (.tuple #[.agg #[.int .i64 0, .slice none 0 0, .slice none 0 0], .int .i64 16, .int .i64 6]) ∧ Below w.heap.size w w' := by
  have h := p26par_no (S := bS2) (N := 100) (w := w) (by decide) (by decide) (by decide) hT (by rw [aE2])
  rw [aE2] at h
  exact h
theorem a_par3 (w : World) (hT : WTab w) : Calls Tryz.prog 10 #[.string ⟨#[99, 97, 116, 97, 108, 111, 103, 117, 101, 10, 102, 114, 101, 101, 32, 48, 10, 101, 110, 100]⟩] w fun e w' => e = .returned (.tuple #[.agg #[.int .i64 0, .slice none 0 0, .slice none 0 0], .int .i64 20, .int .i64 6]) ∧ Below w.heap.size w w' := by
  have h := p26par_no (S := bS3) (N := 100) (w := w) (by decide) (by decide) (by decide) hT (by rw [aE3])
  rw [aE3] at h
  exact h
theorem slat_nil (w : World) : SlAt w (.slice none 0 0) [] := ⟨none, 0, rfl, Nat.le_refl _, by unfold maxLen; omega, fun i t h => by simp at h⟩
theorem a_pri (w : World) (hT : T26 w) : Calls Tryz.prog 9 #[.agg #[.int .i64 0, .slice none 0 0, .slice none 0 0]] w fun e w' => e = .returned (.string ⟨#[99, 97, 116, 97, 108, 111, 103, 117, 101, 10, 102, 114, 101, 101, 32, 48, 10, 101, 110, 100, 10]⟩) ∧ Below w.heap.size w w' := by
  have h := p26pri (c := ⟨0, [], []⟩) hT (slat_nil w) (slat_nil w) (by decide) (by simp) (by simp) (by simp) (by simp)
  rw [aP] at h
  exact h
structure Aw26 (w0 : World) (B : Nat) (vS vF : Value) (u : World) : Prop where
  row : u.heap[B]? = some (.cells #[.int .i64 7, vS, vF] 25 (0, 0))
  s : SlAt u vS [aSea]
  f : SlAt u vF [aFea]
  bl : Below w0.heap.size w0 u
theorem Aw26.on {w0 : World} {B : Nat} {vS vF : Value} {u u' : World} (h : Aw26 w0 B vS vF u) (hb : Below u.heap.size u u') : Aw26 w0 B vS vF u' := ⟨row_kept h.row hb, h.s.on hb, h.f.on hb, below_on h.bl hb⟩
theorem Aw26.facts {w0 : World} {B : Nat} {vS vF : Value} {u : World} (h : Aw26 w0 B vS vF u) : ∃ b1 o1 c1 b2 o2 c2, vS = .slice (some ⟨b1, o1, none⟩) 1 c1 ∧ vF = .slice (some ⟨b2, o2, none⟩) 1 c2 ∧ ItmAt u b1 o1 aSea ∧ ItmAt u b2 o2 aFea ∧ 1 ≤ c1 ∧ 1 ≤ c2 := by
  obtain ⟨A1, c1, h1, h1c, _, h1i⟩ := h.s
  obtain ⟨A2, c2, h2, h2c, _, h2i⟩ := h.f
  obtain ⟨b1, o1, e1, _, i1⟩ := h1i 0 aSea rfl
  obtain ⟨b2, o2, e2, _, i2⟩ := h2i 0 aFea rfl
  subst e1 e2
  exact ⟨b1, o1, c1, b2, o2, c2, h1, h2, by simpa using i1, by simpa using i2, h1c, h2c⟩
theorem eq_sea (u : World) : (binOp .eql 38 (.agg aSea.vals) (.agg #[.string ⟨#[115]⟩, .int .i64 1, .int .i64 2, .int .i64 3, .int .i64 5, .int .i64 31, .int .i64 0, .int .i64 1, .int .i64 (-1)])).run Tryz.prog u = .ok (.bool true) u := by simp [go_sem, aSea, Itm.vals]
theorem eq_fea (u : World) : (binOp .eql 40 (.agg aFea.vals) (.agg #[.string ⟨#[102]⟩, .int .i64 3, .int .i64 3, .int .i64 2, .int .i64 0, .int .i64 0, .int .i64 49, .int .i64 0, .int .i64 0])).run Tryz.prog u = .ok (.bool true) u := by simp [go_sem, aFea, Itm.vals]
set_option maxRecDepth 100000 in
set_option maxHeartbeats 4000000 in
theorem c26awake_any (w : World) (hT : T26 w) : Calls Tryz.prog 6 #[] w fun e w' => e = .returned (.bool true) ∧ Below w.heap.size w w' := by
  have H1 := Lib.hid (fun (u : World) (h : T26 u) => a_par1 u h.wk)
  have H2 := Lib.hid (fun (u : World) (h : T26 u) => a_par2 u h.wk)
  have H3 := Lib.hid (fun (u : World) (h : T26 u) => a_par3 u h.wk)
  have H4 := Lib.hid (fun (u : World) (h : T26 u) => a_pri u h)
  have hT := Lib.hid hT
  go_enter Tryz.func6, Tryz.ntmps6
  go_wp2_with fail
  refine (H1.out _ hT.out).mono ?_
  rintro e u1 ⟨vS, vF, rfl, hs, hf, hb⟩
  have A1 : Aw26 w u1.heap.size vS vF (u1.alloc (.cells #[.int .i64 7, vS, vF] 25)) := ⟨heap_alloc_new _ _, hs.on (al1 _ _), hf.on (al1 _ _), below_on hb (al1 _ _)⟩
  obtain ⟨b1, o1, c1, b2, o2, c2, rfl, rfl, -, -, hc1, hc2⟩ := A1.facts
  have A1 := Lib.hid A1
  clear hs hf hb
  go_wp2_with fail
  refine (H2.out _ (hT.out.on A1.out.bl)).mono ?_
  rintro e u2 ⟨rfl, hb⟩
  have A2 := Lib.hid ((A1.out.on hb).on (al1 _ (.cells #[.int .i64 0, .slice none 0 0, .slice none 0 0] 25)))
  clear A1 hb
  go_wp2_with fail
  refine (H3.out _ (hT.out.on A2.out.bl)).mono ?_
  rintro e u3 ⟨rfl, hb⟩
  have A3 := ((A2.out.on hb).on (al1 _ (.cells #[.int .i64 0, .slice none 0 0, .slice none 0 0] 25)))
  clear A2 hb
  have l3 : (1 : Nat) ≤ c1 := hc1
  have k0 : (u3.alloc (.cells #[.int .i64 0, .slice none 0 0, .slice none 0 0] 25)).cell? ⟨u1.heap.size, 1, none⟩ = some (.slice (some ⟨b1, o1, none⟩) 1 c1) := by rw [cell_of_row _ _ _ _ _ _ A3.row]; rfl
  have k1 : (u3.alloc (.cells #[.int .i64 0, .slice none 0 0, .slice none 0 0] 25)).cell? ⟨u1.heap.size, 2, none⟩ = some (.slice (some ⟨b2, o2, none⟩) 1 c2) := by rw [cell_of_row _ _ _ _ _ _ A3.row]; rfl
  have A3 := Lib.hid A3
  go_wp2_with fail
  clear k0 k1
  refine (H4.out _ (hT.out.on A3.out.bl)).mono ?_
  rintro e u4 ⟨rfl, hb⟩
  have A4 := A3.out.on hb
  clear A3 hb
  have k0 : u4.cell? ⟨u1.heap.size, 0, none⟩ = some (.int .i64 7) := by rw [cell_of_row _ _ _ _ _ _ A4.row]; rfl
  have k1 : u4.cell? ⟨u1.heap.size, 1, none⟩ = some (.slice (some ⟨b1, o1, none⟩) 1 c1) := by rw [cell_of_row _ _ _ _ _ _ A4.row]; rfl
  have k2 : u4.cell? ⟨u1.heap.size, 2, none⟩ = some (.slice (some ⟨b2, o2, none⟩) 1 c2) := by rw [cell_of_row _ _ _ _ _ _ A4.row]; rfl
  obtain ⟨b1', o1', c1', b2', o2', c2', hv1, hv2, i1, i2, -, -⟩ := A4.facts
  cases hv1
  cases hv2
  obtain ⟨q0, q1, q2, q3, q4, q5, q6, q7, q8⟩ := i1.nine
  obtain ⟨r0, r1, r2, r3, r4, r5, r6, r7, r8⟩ := i2.nine
  have E1 := eq_sea
  have E2 := eq_fea
  simp only [aSea, aFea, Itm.vals] at E1 E2
  have bl := Lib.hid A4.bl
  clear A4 i1 i2
  go_wp2_with fail
  go_ret
  exact ⟨rfl, bl.out⟩
end Go.Proofs.YtaamdimgloblpaaGreatDoor
