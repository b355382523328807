/- Package cattext: the text of an anchor, of a policy. -/
import Derived.Test.YthmfhgehahpgbaaGreatDoorYq
import Derived.Maps.OwnSet
namespace Go.Proofs.YthmfhgehahpgbaaGreatDoor
open Go.RowKit
open Go.Maps (Keyed int_keyed keyOf_int_mk IsMap)

theorem nm_size (x : Int) : (nm x).size ≤ 9 := by
  unfold nm
  split
  · decide
  · split
    · decide
    · split
      · decide
      · split
        · decide
        · split
          · decide
          · split
            · decide
            · split <;> decide
set_option maxRecDepth 100000 in
set_option maxHeartbeats 2000000 in
theorem p26nxt {k m d o x c : Int} {w : World} (hT : T26 w) (h1 : inT m = true) (h2 : inT d = true) (h3 : inT c = true) : Calls Tryz.prog 76 #[.agg #[.int .i64 k, .int .i64 m, .int .i64 d, .int .i64 o, .int .i64 x, .int .i64 c]] w fun e w' => e = .returned (.string (jn [wNth, nm x, itB c, itB m, itB d])) ∧ Below w.heap.size w w' := by
  have S0 := Lib.hid ((SA.new hT k m d o x c).on (below_dn (Below.refl _ _) 1))
  have HJ := Lib.hid (fun (u : World) => p26joi (xs := [wNth, nm x, itB c, itB m, itB d]) (w := u.alloc (.cells #[.string (wNth), .string (nm x), .string (itB c), .string (itB m), .string (itB d)] 9)) (lit5 (wNth) (nm x) (itB c) (itB m) (itB d) _) (by simp) (by have a1 := itB_size h1; have a2 := itB_size h2; have a3 := itB_size h3; have a4 := nm_size x; simp only [jn, ByteArray.size_append]; have e1 : wNth.size = 3 := rfl; have e2 : wSp.size = 1 := rfl; omega))
  have HC0 := Lib.hid (fun (u : World) (hu : SA w w.heap.size k m d o x c u) => (name_any x u hu.t.wk).mono (R' := fun e u' => e = .returned (.string (nm x)) ∧ SA w w.heap.size k m d o x c u') fun e u' hh => ⟨hh.1, hh.2 ▸ hu⟩)
  have HC1 := Lib.hid (fun (u : World) (hu : SA w w.heap.size k m d o x c u) => (p26ito h3 u hu.t).mono (R' := fun e u' => e = .returned (.string (itB c)) ∧ SA w w.heap.size k m d o x c u') fun e u' hh => ⟨hh.1, hu.on hh.2⟩)
  have HC2 := Lib.hid (fun (u : World) (hu : SA w w.heap.size k m d o x c u) => (p26ito h1 u hu.t).mono (R' := fun e u' => e = .returned (.string (itB m)) ∧ SA w w.heap.size k m d o x c u') fun e u' hh => ⟨hh.1, hu.on hh.2⟩)
  have HC3 := Lib.hid (fun (u : World) (hu : SA w w.heap.size k m d o x c u) => (p26ito h2 u hu.t).mono (R' := fun e u' => e = .returned (.string (itB d)) ∧ SA w w.heap.size k m d o x c u') fun e u' hh => ⟨hh.1, hu.on hh.2⟩)
  generalize hw0 : nm x = t0 at *
  generalize hw1 : itB c = t1 at *
  generalize hw2 : itB m = t2 at *
  generalize hw3 : itB d = t3 at *
  clear hw0 hw1 hw2 hw3
  go_enter Tryz.func76, Tryz.ntmps76
  go_wp2_with fail
  refine wp_region_held_drew (S := fun u => SA w w.heap.size k m d o x c u) (by kernel_rfl) S0.out (fun hHeld => ?_)
  refine wpAnyH_take (i := 0) (oi := { dst := some 3, op := _, type := _, pos := _, after := _, guard := _ }) (v := ?v1_0) rfl (by kernel_rfl) (by kernel_rfl) (by kernel_rfl) (fun _ _ _ h => h) (Or.inl ⟨by rfl, ?hy1_0⟩) hHeld ?_
  case hy1_0 => (intro w hSw; obtain ⟨s0, s1, s2, s3, s4, s5⟩ := (SA.cells hSw); go_simp; try with_reducible rfl)
  simp only [Act.put, List.setIfInBounds_toArray, List.set_cons_zero, List.set_cons_succ]
  refine wpAnyH_take (i := 1) (oi := { dst := some 4, op := _, type := _, pos := _, after := _, guard := _ }) (v := ?v1_1) rfl (by kernel_rfl) (by kernel_rfl) (by kernel_rfl) (fun _ _ _ h => h) (Or.inl ⟨by rfl, ?hy1_1⟩) hHeld ?_
  case hy1_1 => (intro w hSw; obtain ⟨s0, s1, s2, s3, s4, s5⟩ := (SA.cells hSw); go_simp; try with_reducible rfl)
  simp only [Act.put, List.setIfInBounds_toArray, List.set_cons_zero, List.set_cons_succ]
  refine wpAnyH_take (i := 3) (oi := { dst := some 6, op := _, type := _, pos := _, after := _, guard := _ }) (v := ?v1_3) rfl (by kernel_rfl) (by kernel_rfl) (by kernel_rfl) (fun _ _ _ h => h) (Or.inl ⟨by rfl, ?hy1_3⟩) hHeld ?_
  case hy1_3 => (intro w hSw; obtain ⟨s0, s1, s2, s3, s4, s5⟩ := (SA.cells hSw); go_simp; try with_reducible rfl)
  simp only [Act.put, List.setIfInBounds_toArray, List.set_cons_zero, List.set_cons_succ]
  refine wpAnyH_take (i := 4) (oi := { dst := some 7, op := _, type := _, pos := _, after := _, guard := _ }) (v := ?v1_4) rfl (by kernel_rfl) (by kernel_rfl) (by kernel_rfl) (fun _ _ _ h => h) (Or.inl ⟨by rfl, ?hy1_4⟩) hHeld ?_
  case hy1_4 => (intro w hSw; obtain ⟨s0, s1, s2, s3, s4, s5⟩ := (SA.cells hSw); go_simp; try with_reducible rfl)
  simp only [Act.put, List.setIfInBounds_toArray, List.set_cons_zero, List.set_cons_succ]
  refine wpAnyH_take (i := 6) (oi := { dst := some 9, op := _, type := _, pos := _, after := _, guard := _ }) (v := ?v1_6) rfl (by kernel_rfl) (by kernel_rfl) (by kernel_rfl) (fun _ _ _ h => h) (Or.inl ⟨by rfl, ?hy1_6⟩) hHeld ?_
  case hy1_6 => (intro w hSw; obtain ⟨s0, s1, s2, s3, s4, s5⟩ := (SA.cells hSw); go_simp; try with_reducible rfl)
  simp only [Act.put, List.setIfInBounds_toArray, List.set_cons_zero, List.set_cons_succ]
  refine wpAnyH_take (i := 7) (oi := { dst := some 10, op := _, type := _, pos := _, after := _, guard := _ }) (v := ?v1_7) rfl (by kernel_rfl) (by kernel_rfl) (by kernel_rfl) (fun _ _ _ h => h) (Or.inl ⟨by rfl, ?hy1_7⟩) hHeld ?_
  case hy1_7 => (intro w hSw; obtain ⟨s0, s1, s2, s3, s4, s5⟩ := (SA.cells hSw); go_simp; try with_reducible rfl)
  simp only [Act.put, List.setIfInBounds_toArray, List.set_cons_zero, List.set_cons_succ]
  refine wpAnyH_take (i := 9) (oi := { dst := some 12, op := _, type := _, pos := _, after := _, guard := _ }) (v := ?v1_9) rfl (by kernel_rfl) (by kernel_rfl) (by kernel_rfl) (fun _ _ _ h => h) (Or.inl ⟨by rfl, ?hy1_9⟩) hHeld ?_
  case hy1_9 => (intro w hSw; obtain ⟨s0, s1, s2, s3, s4, s5⟩ := (SA.cells hSw); go_simp; try with_reducible rfl)
  simp only [Act.put, List.setIfInBounds_toArray, List.set_cons_zero, List.set_cons_succ]
  refine wpAnyH_take (i := 10) (oi := { dst := some 13, op := _, type := _, pos := _, after := _, guard := _ }) (v := ?v1_10) rfl (by kernel_rfl) (by kernel_rfl) (by kernel_rfl) (fun _ _ _ h => h) (Or.inl ⟨by rfl, ?hy1_10⟩) hHeld ?_
  case hy1_10 => (intro w hSw; obtain ⟨s0, s1, s2, s3, s4, s5⟩ := (SA.cells hSw); go_simp; try with_reducible rfl)
  simp only [Act.put, List.setIfInBounds_toArray, List.set_cons_zero, List.set_cons_succ]
  refine wpAnyH_ready (rs := [2]) (by kernel_rfl) (by simp) ?_
  refine AllReadyH.cons (o := { dst := some 5, op := _, type := _, pos := _, after := _, guard := _ }) rfl (fun K hK => ?_) AllReadyH.nil
  go_simp
  go_at_call 97
  refine (HC0.out _ (by assumption)).mono ?_
  rintro ee0 u0 ⟨rfl, hs0⟩
  refine hK.out _ _ hs0 (fun hHeld => ?_)
  clear hK K
  refine wpAnyH_ready (rs := [5]) (by kernel_rfl) (by simp) ?_
  refine AllReadyH.cons (o := { dst := some 8, op := _, type := _, pos := _, after := _, guard := _ }) rfl (fun K hK => ?_) AllReadyH.nil
  go_simp
  go_at_call 31
  refine (HC1.out _ (by assumption)).mono ?_
  rintro ee1 u1 ⟨rfl, hs1⟩
  refine hK.out _ _ hs1 (fun hHeld => ?_)
  clear hK K
  refine wpAnyH_ready (rs := [8]) (by kernel_rfl) (by simp) ?_
  refine AllReadyH.cons (o := { dst := some 11, op := _, type := _, pos := _, after := _, guard := _ }) rfl (fun K hK => ?_) AllReadyH.nil
  go_simp
  go_at_call 31
  refine (HC2.out _ (by assumption)).mono ?_
  rintro ee2 u2 ⟨rfl, hs2⟩
  refine hK.out _ _ hs2 (fun hHeld => ?_)
  clear hK K
  refine wpAnyH_ready (rs := [11]) (by kernel_rfl) (by simp) ?_
  refine AllReadyH.cons (o := { dst := some 14, op := _, type := _, pos := _, after := _, guard := _ }) rfl (fun K hK => ?_) AllReadyH.nil
  go_simp
  go_at_call 31
  refine (HC3.out _ (by assumption)).mono ?_
  rintro ee3 u3 ⟨rfl, hs3⟩
  refine hK.out _ _ hs3 (fun hHeld => ?_)
  clear hK K
  refine wpAnyH_ready (rs := [12]) (by kernel_rfl) (by simp) ?_
  refine AllReadyH.cons (o := { dst := some 15, op := _, type := _, pos := _, after := _, guard := _ }) rfl (fun K hK => ?_) AllReadyH.nil
  go_simp
  refine hK.out _ _ (hs3.on (al1 _ _)) (fun hHeld => ?_)
  clear hK K
  refine wpAnyH_ready (rs := [13]) (by kernel_rfl) (by simp) ?_
  refine AllReadyH.cons (o := { dst := some 16, op := _, type := _, pos := _, after := _, guard := _ }) rfl (fun K hK => ?_) AllReadyH.nil
  go_simp
  go_at_call 55
  refine (HJ.out u3).mono ?_
  rintro eeJ uJ ⟨rfl, hbJ⟩
  refine hK.out _ _ ((hs3.on (al1 _ _)).on hbJ) (fun hHeld => ?_)
  clear hK K
  refine wpAnyH_take (i := 14) (oi := { dst := some 2, op := _, type := _, pos := _, after := _, guard := _ }) (v := ?v1_14) rfl (by kernel_rfl) (by kernel_rfl) (by kernel_rfl) (fun _ _ _ h => h) (Or.inl ⟨by rfl, ?hy1_14⟩) hHeld ?_
  case hy1_14 => (intro w hSw; obtain ⟨s0, s1, s2, s3, s4, s5⟩ := (SA.cells hSw); go_simp; try with_reducible rfl)
  simp only [Act.put, List.setIfInBounds_toArray, List.set_cons_zero, List.set_cons_succ]
  refine wpAnyH_done (by kernel_rfl) ?_ _
  go_wp2_with fail
  go_ret
  exact ⟨rfl, ((hs3.on (al1 _ _)).on hbJ).bl⟩
set_option maxRecDepth 100000 in
set_option maxHeartbeats 2000000 in
theorem p26ext {k m d o x c : Int} {w : World} (hT : T26 w) (h1 : inT o = true) : Calls Tryz.prog 75 #[.agg #[.int .i64 k, .int .i64 m, .int .i64 d, .int .i64 o, .int .i64 x, .int .i64 c]] w fun e w' => e = .returned (.string (jn [wEas, itB o])) ∧ Below w.heap.size w w' := by
  have S0 := Lib.hid (SA.new hT k m d o x c)
  have HJ := Lib.hid (fun (u : World) => p26joi (xs := [wEas, itB o]) (w := u.alloc (.cells #[.string wEas, .string (itB o)] 9)) (lit2 wEas (itB o) _) (by simp) (by have a1 := itB_size h1; simp only [jn, ByteArray.size_append]; have e1 : wEas.size = 6 := rfl; have e2 : wSp.size = 1 := rfl; omega))
  have HC := Lib.hid (fun (u : World) (hu : SA w w.heap.size k m d o x c u) => (p26ito h1 u hu.t).mono (R' := fun e u' => e = .returned (.string (itB o)) ∧ SA w w.heap.size k m d o x c u') fun e u' hh => ⟨hh.1, hu.on hh.2⟩)
  generalize hw : itB o = t0 at *
  clear hw
  obtain ⟨s0, s1, s2, s3, s4, s5⟩ := S0.out.cells
  go_enter Tryz.func75, Tryz.ntmps75
  go_wp2_with fail
  refine (HC.out _ S0.out).mono ?_
  rintro e u1 ⟨rfl, hs1⟩
  clear s0 s1 s2 s3 s4 s5
  go_wp2_with fail
  refine (HJ.out u1).mono ?_
  rintro e uJ ⟨rfl, hbJ⟩
  go_wp2_with fail
  go_ret
  exact ⟨rfl, ((hs1.on (al1 _ _)).on hbJ).bl⟩
/-! the forms of anchors -/
abbrev F1 : DataW Unit := DataW.put (.map []) (.int .i64 1) (.lit (.int .i64 74))
abbrev F2 : DataW Unit := DataW.put F1 (.int .i64 2) (.lit (.int .i64 75))
abbrev F3 : DataW Unit := DataW.put F2 (.int .i64 3) (.lit (.int .i64 76))
theorem lawI26 : Keyed Tryz.prog 3 := int_keyed Tryz.underlying3
theorem zeroF26 (w : World) : (zeroValue 74).run Tryz.prog w = .ok .nilFunc w := by kernel_rfl
set_option maxRecDepth 100000 in
theorem p26afo (w : World) : Calls Tryz.prog 57 #[] w fun e w' => e = .returned (.map (some w.heap.size)) ∧ w'.ownsMap Tryz.prog 3 funElem w.heap.size 3 F3 ∧ Below w.heap.size w w' := by
  have hmm := @run_makeMap Tryz.prog
  have k1 : keyOf Tryz.prog 3 (.int .i64 1) = some (.int .i64 1) := keyOf_int_mk Tryz.underlying3 (by decide)
  have k2 : keyOf Tryz.prog 3 (.int .i64 2) = some (.int .i64 2) := keyOf_int_mk Tryz.underlying3 (by decide)
  have k3 : keyOf Tryz.prog 3 (.int .i64 3) = some (.int .i64 3) := keyOf_int_mk Tryz.underlying3 (by decide)
  have o0 := World.ownsMap_made w Tryz.prog 3 funElem
  have b0 : Below w.heap.size w (w.alloc (.map #[] 0)) := (Below.refl _ _).alloc (Nat.le_refl _) _
  go_enter Tryz.func57, Tryz.ntmps57
  go_wp2_with (first
    | (refine insert_own rfl rfl lawI26 Tryz.underlying87 w.heap.size rfl o2 (by unfold maxLen; omega) rfl k3 rfl (funElem_mk _) ?_; intro u3 o3 g3)
    | (refine insert_own rfl rfl lawI26 Tryz.underlying87 w.heap.size rfl o1 (by unfold maxLen; omega) rfl k2 rfl (funElem_mk _) ?_; intro u2 o2 g2)
    | (refine insert_own rfl rfl lawI26 Tryz.underlying87 w.heap.size rfl o0 (by unfold maxLen; omega) rfl k1 rfl (funElem_mk _) ?_; intro u1 o1 g1))
  go_ret
  have b1 := b0.grown g1 b0.size (fun k h => by cases h; exact Nat.le_refl _)
  have b2 := b1.grown g2 b1.size (fun k h => by cases h; exact Nat.le_refl _)
  exact ⟨rfl, o3, b2.grown g3 b2.size (fun k h => by cases h; exact Nat.le_refl _)⟩
theorem wp_lookup {H : Type} {P : Program} {u : World} {o : Oper} {a : Act} {K : Act → World → Prop} {Q : Exit → Act → World → Prop} {t : TypeId} {m x : Operand} (hop : o.op = Op.lookup t m x true) {k e : TypeId} (KK : Keyed P k) (ht : P.underlying t = some (.map k e))
    {R : Value → Option (DataW H × List MemPlace)} {z : Value} (hz : (zeroValue e).run P u = .ok z u) {zd : DataW H} {zp : List MemPlace} (hzd : R z = some (zd, zp)) {b n : Nat} {D : DataW H} (hm : a.eval m = .map (some b)) (hown : u.ownsMap P k R b n D) {key : Value} {kl : Lit} (hx : a.eval x = key) (hkey : keyOf P k key = some kl)
    (hK : ∀ v ps, R v = some (D.atKey kl zd, ps) → K (a.put o.dst (.tuple #[v, .bool (Maps.has D kl)])) u) : o.wp P a u K Q := by
  obtain ⟨v, ps, hrun, hv⟩ := hown.look_ok KK ht hz hzd hkey
  unfold Oper.wp
  simp [execOp, hop, hm, hx, hrun, Result.andThen]
  exact hK v ps hv
def txJ (a : Anc) : ByteArray := if a.k = 1 then jn [wFix, itB a.m, itB a.d] else if a.k = 2 then jn [wEas, itB a.o] else jn [wNth, nm a.w, itB a.c, itB a.m, itB a.d]
theorem txA_J (a : Anc) : txA a = txJ a ++ wLf := by
  unfold txA txJ
  split
  · simp only [jn, ByteArray.append_assoc]
  · split
    · simp only [jn, ByteArray.append_assoc]
    · simp only [jn, ByteArray.append_assoc]
set_option maxRecDepth 100000 in
set_option maxHeartbeats 2000000 in
theorem p26ant_go1 {m d o x c : Int} {t : ByteArray} {w : World} (hT : T26 w) (HF : ∀ u : World, T26 u → Calls Tryz.prog 74 #[.agg #[.int .i64 1, .int .i64 m, .int .i64 d, .int .i64 o, .int .i64 x, .int .i64 c]] u fun e w' => e = .returned (.string t) ∧ Below u.heap.size u w') :
    Calls Tryz.prog 32 #[.agg #[.int .i64 1, .int .i64 m, .int .i64 d, .int .i64 o, .int .i64 x, .int .i64 c]] w fun e w' => e = .returned (.string t) ∧ Below w.heap.size w w' := by
  have S0 := Lib.hid ((SA.new hT 1 m d o x c).on (below_dn (Below.refl _ _) 1))
  have HF := Lib.hid HF
  have kk : keyOf Tryz.prog 3 (.int .i64 1) = some (.int .i64 1) := keyOf_int_mk Tryz.underlying3 (by decide)
  have hat : F3.atKey (.int .i64 1) (.lit (.int .i64 (-1))) = .lit (.int .i64 (74 : Nat)) := rfl
  have hha : Maps.has F3 (.int .i64 1) = true := rfl
  clear hT
  go_enter Tryz.func32, Tryz.ntmps32
  go_wp2_with fail
  refine wp_region_held_drew (S := fun u => SA w w.heap.size 1 m d o x c u) (by kernel_rfl) S0.out (fun hHeld => ?_)
  refine wpAnyH_take (i := 1) (oi := { dst := some 7, op := _, type := _, pos := _, after := _, guard := _ }) (v := ?v2_1) rfl (by kernel_rfl) (by kernel_rfl) (by kernel_rfl) (fun _ _ _ h => h) (Or.inl ⟨by rfl, ?hy2_1⟩) hHeld ?_
  case hy2_1 => (intro w hSw; obtain ⟨s0, s1, s2, s3, s4, s5⟩ := (SA.cells hSw); go_simp; try with_reducible rfl)
  simp only [Act.put, List.setIfInBounds_toArray, List.set_cons_zero, List.set_cons_succ]
  refine wpAnyH_take (i := 2) (oi := { dst := some 8, op := _, type := _, pos := _, after := _, guard := _ }) (v := ?v2_2) rfl (by kernel_rfl) (by kernel_rfl) (by kernel_rfl) (fun _ _ _ h => h) (Or.inl ⟨by rfl, ?hy2_2⟩) hHeld ?_
  case hy2_2 => (intro w hSw; obtain ⟨s0, s1, s2, s3, s4, s5⟩ := (SA.cells hSw); go_simp; try with_reducible rfl)
  simp only [Act.put, List.setIfInBounds_toArray, List.set_cons_zero, List.set_cons_succ]
  refine wpAnyH_ready (rs := [0]) (by kernel_rfl) (by simp) ?_
  refine AllReadyH.cons (o := { dst := some 6, op := _, type := _, pos := _, after := _, guard := _ }) rfl (fun K hK => ?_) AllReadyH.nil
  go_simp
  go_at_call 57
  refine (p26afo _).mono ?_
  rintro ee u0 ⟨rfl, hmap, hb0⟩
  refine hK.out _ _ (S0.out.on hb0) (fun hHeld => ?_)
  clear hK K
  refine wpAnyH_ready (rs := [3]) (by kernel_rfl) (by simp) ?_
  refine AllReadyH.cons (o := { dst := some 9, op := _, type := _, pos := _, after := _, guard := _ }) rfl (fun K hK => ?_) AllReadyH.nil
  rw [if_pos (by rfl)]
  refine wp_lookup (zd := .lit (.int .i64 (-1))) (zp := []) (D := F3) rfl lawI26 Tryz.underlying87 (zeroF26 _) rfl rfl hmap rfl kk ?_
  intro v ps hv
  rw [hat] at hv
  obtain rfl := funElem_inv hv
  rw [hha]
  refine hK.out _ _ (S0.out.on hb0) (fun hHeld => ?_)
  clear hK K
  simp only [Act.put, List.setIfInBounds_toArray, List.set_cons_zero, List.set_cons_succ]
  refine wpAnyH_take (i := 4) (oi := { dst := some 5, op := _, type := _, pos := _, after := _, guard := _ }) (v := ?v2_4) rfl (by kernel_rfl) (by kernel_rfl) (by kernel_rfl) (fun _ _ _ h => h) (Or.inl ⟨by rfl, ?hy2_4⟩) hHeld ?_
  case hy2_4 => (intro w hSw; obtain ⟨s0, s1, s2, s3, s4, s5⟩ := (SA.cells hSw); go_simp; try with_reducible rfl)
  simp only [Act.put, List.setIfInBounds_toArray, List.set_cons_zero, List.set_cons_succ]
  refine wpAnyH_take (i := 5) (oi := { dst := some 10, op := _, type := _, pos := _, after := _, guard := _ }) (v := ?v2_5) rfl (by kernel_rfl) (by kernel_rfl) (by kernel_rfl) (fun _ _ _ h => h) (Or.inl ⟨by rfl, ?hy2_5⟩) hHeld ?_
  case hy2_5 => (intro w hSw; obtain ⟨s0, s1, s2, s3, s4, s5⟩ := (SA.cells hSw); go_simp; try with_reducible rfl)
  simp only [Act.put, List.setIfInBounds_toArray, List.set_cons_zero, List.set_cons_succ]
  refine wpAnyH_take (i := 6) (oi := { dst := some 11, op := _, type := _, pos := _, after := _, guard := _ }) (v := ?v2_6) rfl (by kernel_rfl) (by kernel_rfl) (by kernel_rfl) (fun _ _ _ h => h) (Or.inl ⟨by rfl, ?hy2_6⟩) hHeld ?_
  case hy2_6 => (intro w hSw; obtain ⟨s0, s1, s2, s3, s4, s5⟩ := (SA.cells hSw); go_simp; try with_reducible rfl)
  simp only [Act.put, List.setIfInBounds_toArray, List.set_cons_zero, List.set_cons_succ]
  refine wpAnyH_take (i := 7) (oi := { dst := some 3, op := _, type := _, pos := _, after := _, guard := _ }) (v := ?v2_7) rfl (by kernel_rfl) (by kernel_rfl) (by kernel_rfl) (fun _ _ _ h => h) (Or.inl ⟨by rfl, ?hy2_7⟩) hHeld ?_
  case hy2_7 => (intro w hSw; obtain ⟨s0, s1, s2, s3, s4, s5⟩ := (SA.cells hSw); go_simp; try with_reducible rfl)
  simp only [Act.put, List.setIfInBounds_toArray, List.set_cons_zero, List.set_cons_succ]
  refine wpAnyH_take (i := 8) (oi := { dst := some 4, op := _, type := _, pos := _, after := _, guard := _ }) (v := ?v2_8) rfl (by kernel_rfl) (by kernel_rfl) (by kernel_rfl) (fun _ _ _ h => h) (Or.inl ⟨by rfl, ?hy2_8⟩) hHeld ?_
  case hy2_8 => (intro w hSw; obtain ⟨s0, s1, s2, s3, s4, s5⟩ := (SA.cells hSw); go_simp; try with_reducible rfl)
  simp only [Act.put, List.setIfInBounds_toArray, List.set_cons_zero, List.set_cons_succ]
  refine wpAnyH_done (by kernel_rfl) ?_ _
  have S1 := Lib.hid (S0.out.on hb0)
  obtain ⟨s0, s1, s2, s3, s4, s5⟩ := S1.out.cells
  go_wp2_with fail
  refine (HF.out u0 S1.out.t).mono ?_
  rintro e u2 ⟨rfl, hb2⟩
  go_wp2_with fail
  go_ret
  exact ⟨rfl, (S1.out.on hb2).bl⟩
set_option maxRecDepth 100000 in
set_option maxHeartbeats 2000000 in
theorem p26ant_go2 {m d o x c : Int} {t : ByteArray} {w : World} (hT : T26 w) (HF : ∀ u : World, T26 u → Calls Tryz.prog 75 #[.agg #[.int .i64 2, .int .i64 m, .int .i64 d, .int .i64 o, .int .i64 x, .int .i64 c]] u fun e w' => e = .returned (.string t) ∧ Below u.heap.size u w') :
    Calls Tryz.prog 32 #[.agg #[.int .i64 2, .int .i64 m, .int .i64 d, .int .i64 o, .int .i64 x, .int .i64 c]] w fun e w' => e = .returned (.string t) ∧ Below w.heap.size w w' := by
  have S0 := Lib.hid ((SA.new hT 2 m d o x c).on (below_dn (Below.refl _ _) 1))
  have HF := Lib.hid HF
  have kk : keyOf Tryz.prog 3 (.int .i64 2) = some (.int .i64 2) := keyOf_int_mk Tryz.underlying3 (by decide)
  have hat : F3.atKey (.int .i64 2) (.lit (.int .i64 (-1))) = .lit (.int .i64 (75 : Nat)) := rfl
  have hha : Maps.has F3 (.int .i64 2) = true := rfl
  clear hT
  go_enter Tryz.func32, Tryz.ntmps32
  go_wp2_with fail
  refine wp_region_held_drew (S := fun u => SA w w.heap.size 2 m d o x c u) (by kernel_rfl) S0.out (fun hHeld => ?_)
  refine wpAnyH_take (i := 1) (oi := { dst := some 7, op := _, type := _, pos := _, after := _, guard := _ }) (v := ?v3_1) rfl (by kernel_rfl) (by kernel_rfl) (by kernel_rfl) (fun _ _ _ h => h) (Or.inl ⟨by rfl, ?hy3_1⟩) hHeld ?_
  case hy3_1 => (intro w hSw; obtain ⟨s0, s1, s2, s3, s4, s5⟩ := (SA.cells hSw); go_simp; try with_reducible rfl)
  simp only [Act.put, List.setIfInBounds_toArray, List.set_cons_zero, List.set_cons_succ]
  refine wpAnyH_take (i := 2) (oi := { dst := some 8, op := _, type := _, pos := _, after := _, guard := _ }) (v := ?v3_2) rfl (by kernel_rfl) (by kernel_rfl) (by kernel_rfl) (fun _ _ _ h => h) (Or.inl ⟨by rfl, ?hy3_2⟩) hHeld ?_
  case hy3_2 => (intro w hSw; obtain ⟨s0, s1, s2, s3, s4, s5⟩ := (SA.cells hSw); go_simp; try with_reducible rfl)
  simp only [Act.put, List.setIfInBounds_toArray, List.set_cons_zero, List.set_cons_succ]
  refine wpAnyH_ready (rs := [0]) (by kernel_rfl) (by simp) ?_
  refine AllReadyH.cons (o := { dst := some 6, op := _, type := _, pos := _, after := _, guard := _ }) rfl (fun K hK => ?_) AllReadyH.nil
  go_simp
  go_at_call 57
  refine (p26afo _).mono ?_
  rintro ee u0 ⟨rfl, hmap, hb0⟩
  refine hK.out _ _ (S0.out.on hb0) (fun hHeld => ?_)
  clear hK K
  refine wpAnyH_ready (rs := [3]) (by kernel_rfl) (by simp) ?_
  refine AllReadyH.cons (o := { dst := some 9, op := _, type := _, pos := _, after := _, guard := _ }) rfl (fun K hK => ?_) AllReadyH.nil
  rw [if_pos (by rfl)]
  refine wp_lookup (zd := .lit (.int .i64 (-1))) (zp := []) (D := F3) rfl lawI26 Tryz.underlying87 (zeroF26 _) rfl rfl hmap rfl kk ?_
  intro v ps hv
  rw [hat] at hv
  obtain rfl := funElem_inv hv
  rw [hha]
  refine hK.out _ _ (S0.out.on hb0) (fun hHeld => ?_)
  clear hK K
  simp only [Act.put, List.setIfInBounds_toArray, List.set_cons_zero, List.set_cons_succ]
  refine wpAnyH_take (i := 4) (oi := { dst := some 5, op := _, type := _, pos := _, after := _, guard := _ }) (v := ?v3_4) rfl (by kernel_rfl) (by kernel_rfl) (by kernel_rfl) (fun _ _ _ h => h) (Or.inl ⟨by rfl, ?hy3_4⟩) hHeld ?_
  case hy3_4 => (intro w hSw; obtain ⟨s0, s1, s2, s3, s4, s5⟩ := (SA.cells hSw); go_simp; try with_reducible rfl)
  simp only [Act.put, List.setIfInBounds_toArray, List.set_cons_zero, List.set_cons_succ]
  refine wpAnyH_take (i := 5) (oi := { dst := some 10, op := _, type := _, pos := _, after := _, guard := _ }) (v := ?v3_5) rfl (by kernel_rfl) (by kernel_rfl) (by kernel_rfl) (fun _ _ _ h => h) (Or.inl ⟨by rfl, ?hy3_5⟩) hHeld ?_
  case hy3_5 => (intro w hSw; obtain ⟨s0, s1, s2, s3, s4, s5⟩ := (SA.cells hSw); go_simp; try with_reducible rfl)
  simp only [Act.put, List.setIfInBounds_toArray, List.set_cons_zero, List.set_cons_succ]
  refine wpAnyH_take (i := 6) (oi := { dst := some 11, op := _, type := _, pos := _, after := _, guard := _ }) (v := ?v3_6) rfl (by kernel_rfl) (by kernel_rfl) (by kernel_rfl) (fun _ _ _ h => h) (Or.inl ⟨by rfl, ?hy3_6⟩) hHeld ?_
  case hy3_6 => (intro w hSw; obtain ⟨s0, s1, s2, s3, s4, s5⟩ := (SA.cells hSw); go_simp; try with_reducible rfl)
  simp only [Act.put, List.setIfInBounds_toArray, List.set_cons_zero, List.set_cons_succ]
  refine wpAnyH_take (i := 7) (oi := { dst := some 3, op := _, type := _, pos := _, after := _, guard := _ }) (v := ?v3_7) rfl (by kernel_rfl) (by kernel_rfl) (by kernel_rfl) (fun _ _ _ h => h) (Or.inl ⟨by rfl, ?hy3_7⟩) hHeld ?_
  case hy3_7 => (intro w hSw; obtain ⟨s0, s1, s2, s3, s4, s5⟩ := (SA.cells hSw); go_simp; try with_reducible rfl)
  simp only [Act.put, List.setIfInBounds_toArray, List.set_cons_zero, List.set_cons_succ]
  refine wpAnyH_take (i := 8) (oi := { dst := some 4, op := _, type := _, pos := _, after := _, guard := _ }) (v := ?v3_8) rfl (by kernel_rfl) (by kernel_rfl) (by kernel_rfl) (fun _ _ _ h => h) (Or.inl ⟨by rfl, ?hy3_8⟩) hHeld ?_
  case hy3_8 => (intro w hSw; obtain ⟨s0, s1, s2, s3, s4, s5⟩ := (SA.cells hSw); go_simp; try with_reducible rfl)
  simp only [Act.put, List.setIfInBounds_toArray, List.set_cons_zero, List.set_cons_succ]
  refine wpAnyH_done (by kernel_rfl) ?_ _
  have S1 := Lib.hid (S0.out.on hb0)
  obtain ⟨s0, s1, s2, s3, s4, s5⟩ := S1.out.cells
  go_wp2_with fail
  refine (HF.out u0 S1.out.t).mono ?_
  rintro e u2 ⟨rfl, hb2⟩
  go_wp2_with fail
  go_ret
  exact ⟨rfl, (S1.out.on hb2).bl⟩
set_option maxRecDepth 100000 in
set_option maxHeartbeats 2000000 in
theorem p26ant_go3 {m d o x c : Int} {t : ByteArray} {w : World} (hT : T26 w) (HF : ∀ u : World, T26 u → Calls Tryz.prog 76 #[.agg #[.int .i64 3, .int .i64 m, .int .i64 d, .int .i64 o, .int .i64 x, .int .i64 c]] u fun e w' => e = .returned (.string t) ∧ Below u.heap.size u w') :
    Calls Tryz.prog 32 #[.agg #[.int .i64 3, .int .i64 m, .int .i64 d, .int .i64 o, .int .i64 x, .int .i64 c]] w fun e w' => e = .returned (.string t) ∧ Below w.heap.size w w' := by
  have S0 := Lib.hid ((SA.new hT 3 m d o x c).on (below_dn (Below.refl _ _) 1))
  have HF := Lib.hid HF
  have kk : keyOf Tryz.prog 3 (.int .i64 3) = some (.int .i64 3) := keyOf_int_mk Tryz.underlying3 (by decide)
  have hat : F3.atKey (.int .i64 3) (.lit (.int .i64 (-1))) = .lit (.int .i64 (76 : Nat)) := rfl
  have hha : Maps.has F3 (.int .i64 3) = true := rfl
  clear hT
  go_enter Tryz.func32, Tryz.ntmps32
  go_wp2_with fail
  refine wp_region_held_drew (S := fun u => SA w w.heap.size 3 m d o x c u) (by kernel_rfl) S0.out (fun hHeld => ?_)
  refine wpAnyH_take (i := 1) (oi := { dst := some 7, op := _, type := _, pos := _, after := _, guard := _ }) (v := ?v4_1) rfl (by kernel_rfl) (by kernel_rfl) (by kernel_rfl) (fun _ _ _ h => h) (Or.inl ⟨by rfl, ?hy4_1⟩) hHeld ?_
  case hy4_1 => (intro w hSw; obtain ⟨s0, s1, s2, s3, s4, s5⟩ := (SA.cells hSw); go_simp; try with_reducible rfl)
  simp only [Act.put, List.setIfInBounds_toArray, List.set_cons_zero, List.set_cons_succ]
  refine wpAnyH_take (i := 2) (oi := { dst := some 8, op := _, type := _, pos := _, after := _, guard := _ }) (v := ?v4_2) rfl (by kernel_rfl) (by kernel_rfl) (by kernel_rfl) (fun _ _ _ h => h) (Or.inl ⟨by rfl, ?hy4_2⟩) hHeld ?_
  case hy4_2 => (intro w hSw; obtain ⟨s0, s1, s2, s3, s4, s5⟩ := (SA.cells hSw); go_simp; try with_reducible rfl)
  simp only [Act.put, List.setIfInBounds_toArray, List.set_cons_zero, List.set_cons_succ]
  refine wpAnyH_ready (rs := [0]) (by kernel_rfl) (by simp) ?_
  refine AllReadyH.cons (o := { dst := some 6, op := _, type := _, pos := _, after := _, guard := _ }) rfl (fun K hK => ?_) AllReadyH.nil
  go_simp
  go_at_call 57
  refine (p26afo _).mono ?_
  rintro ee u0 ⟨rfl, hmap, hb0⟩
  refine hK.out _ _ (S0.out.on hb0) (fun hHeld => ?_)
  clear hK K
  refine wpAnyH_ready (rs := [3]) (by kernel_rfl) (by simp) ?_
  refine AllReadyH.cons (o := { dst := some 9, op := _, type := _, pos := _, after := _, guard := _ }) rfl (fun K hK => ?_) AllReadyH.nil
  rw [if_pos (by rfl)]
  refine wp_lookup (zd := .lit (.int .i64 (-1))) (zp := []) (D := F3) rfl lawI26 Tryz.underlying87 (zeroF26 _) rfl rfl hmap rfl kk ?_
  intro v ps hv
  rw [hat] at hv
  obtain rfl := funElem_inv hv
  rw [hha]
  refine hK.out _ _ (S0.out.on hb0) (fun hHeld => ?_)
  clear hK K
  simp only [Act.put, List.setIfInBounds_toArray, List.set_cons_zero, List.set_cons_succ]
  refine wpAnyH_take (i := 4) (oi := { dst := some 5, op := _, type := _, pos := _, after := _, guard := _ }) (v := ?v4_4) rfl (by kernel_rfl) (by kernel_rfl) (by kernel_rfl) (fun _ _ _ h => h) (Or.inl ⟨by rfl, ?hy4_4⟩) hHeld ?_
  case hy4_4 => (intro w hSw; obtain ⟨s0, s1, s2, s3, s4, s5⟩ := (SA.cells hSw); go_simp; try with_reducible rfl)
  simp only [Act.put, List.setIfInBounds_toArray, List.set_cons_zero, List.set_cons_succ]
  refine wpAnyH_take (i := 5) (oi := { dst := some 10, op := _, type := _, pos := _, after := _, guard := _ }) (v := ?v4_5) rfl (by kernel_rfl) (by kernel_rfl) (by kernel_rfl) (fun _ _ _ h => h) (Or.inl ⟨by rfl, ?hy4_5⟩) hHeld ?_
  case hy4_5 => (intro w hSw; obtain ⟨s0, s1, s2, s3, s4, s5⟩ := (SA.cells hSw); go_simp; try with_reducible rfl)
  simp only [Act.put, List.setIfInBounds_toArray, List.set_cons_zero, List.set_cons_succ]
  refine wpAnyH_take (i := 6) (oi := { dst := some 11, op := _, type := _, pos := _, after := _, guard := _ }) (v := ?v4_6) rfl (by kernel_rfl) (by kernel_rfl) (by kernel_rfl) (fun _ _ _ h => h) (Or.inl ⟨by rfl, ?hy4_6⟩) hHeld ?_
  case hy4_6 => (intro w hSw; obtain ⟨s0, s1, s2, s3, s4, s5⟩ := (SA.cells hSw); go_simp; try with_reducible rfl)
  simp only [Act.put, List.setIfInBounds_toArray, List.set_cons_zero, List.set_cons_succ]
  refine wpAnyH_take (i := 7) (oi := { dst := some 3, op := _, type := _, pos := _, after := _, guard := _ }) (v := ?v4_7) rfl (by kernel_rfl) (by kernel_rfl) (by kernel_rfl) (fun _ _ _ h => h) (Or.inl ⟨by rfl, ?hy4_7⟩) hHeld ?_
  case hy4_7 => (intro w hSw; obtain ⟨s0, s1, s2, s3, s4, s5⟩ := (SA.cells hSw); go_simp; try with_reducible rfl)
  simp only [Act.put, List.setIfInBounds_toArray, List.set_cons_zero, List.set_cons_succ]
  refine wpAnyH_take (i := 8) (oi := { dst := some 4, op := _, type := _, pos := _, after := _, guard := _ }) (v := ?v4_8) rfl (by kernel_rfl) (by kernel_rfl) (by kernel_rfl) (fun _ _ _ h => h) (Or.inl ⟨by rfl, ?hy4_8⟩) hHeld ?_
  case hy4_8 => (intro w hSw; obtain ⟨s0, s1, s2, s3, s4, s5⟩ := (SA.cells hSw); go_simp; try with_reducible rfl)
  simp only [Act.put, List.setIfInBounds_toArray, List.set_cons_zero, List.set_cons_succ]
  refine wpAnyH_done (by kernel_rfl) ?_ _
  have S1 := Lib.hid (S0.out.on hb0)
  obtain ⟨s0, s1, s2, s3, s4, s5⟩ := S1.out.cells
  go_wp2_with fail
  refine (HF.out u0 S1.out.t).mono ?_
  rintro e u2 ⟨rfl, hb2⟩
  go_wp2_with fail
  go_ret
  exact ⟨rfl, (S1.out.on hb2).bl⟩
theorem p26ant {a : Anc} {w : World} (hT : T26 w) (h : ancB a = true) : Calls Tryz.prog 32 #[anc26 a] w fun e w' => e = .returned (.string (txJ a)) ∧ Below w.heap.size w w' := by
  obtain ⟨k, m, d, o, x, c⟩ := a
  unfold ancB at h
  simp only [Bool.and_eq_true] at h
  obtain ⟨⟨hm, hd, ho, hc⟩, hk⟩ := h
  have e : k = 1 ∨ k = 2 ∨ k = 3 := by
    unfold ancK at hk
    by_cases q1 : k = 1
    · exact .inl q1
    · by_cases q2 : k = 2
      · exact .inr (.inl q2)
      · by_cases q3 : k = 3
        · exact .inr (.inr q3)
        · simp [q1, q2, q3] at hk
  rcases e with rfl | rfl | rfl
  · exact p26ant_go1 hT (fun u hu => p26fxt hu hm hd)
  · exact p26ant_go2 hT (fun u hu => p26ext hu ho)
  · exact p26ant_go3 hT (fun u hu => p26nxt hu hm hd hc)
theorem txJ_size {a : Anc} (h : ancB a = true) : (txJ a).size ≤ 60 := by
  obtain ⟨k, m, d, o, x, c⟩ := a
  unfold ancB at h
  simp only [Bool.and_eq_true] at h
  obtain ⟨⟨hm, hd, ho, hc⟩, -⟩ := h
  have a1 := itB_size hm
  have a2 := itB_size hd
  have a3 := itB_size ho
  have a4 := itB_size hc
  have a5 := nm_size x
  have e1 : wFix.size = 5 := rfl
  have e2 : wEas.size = 6 := rfl
  have e3 : wNth.size = 3 := rfl
  have e4 : wSp.size = 1 := rfl
  unfold txJ
  split
  · simp only [jn, ByteArray.size_append]; omega
  · split
    · simp only [jn, ByteArray.size_append]; omega
    · simp only [jn, ByteArray.size_append]; omega
set_option maxRecDepth 100000 in
theorem p26pwd {y : Int} (h1 : 1 ≤ y) (h2 : y ≤ 3) (w : World) : Calls Tryz.prog 33 #[.int .i64 y] w fun e w' => e = .returned (.string (txP y)) ∧ Below w.heap.size w w' := by
  have hy : y = 1 ∨ y = 2 ∨ y = 3 := by omega
  have HP := Lib.hid (fun u => p26pol u)
  rcases hy with rfl | rfl | rfl
  all_goals
    go_enter Tryz.func33, Tryz.ntmps33
    go_wp2_with fail
    refine (HP.out w).mono ?_
    rintro e u ⟨g, rfl, hI, hg, hb⟩
    have c0 : u.cell? ⟨g, 0, none⟩ = some (.string ⟨#[116, 114, 97, 110, 115, 102, 101, 114]⟩) := hI.cell 0 (by decide)
    have c1 : u.cell? ⟨g, 1, none⟩ = some (.string ⟨#[99, 111, 109, 109, 101, 109, 111, 114, 97, 116, 101]⟩) := hI.cell 1 (by decide)
    have c2 : u.cell? ⟨g, 2, none⟩ = some (.string ⟨#[111, 109, 105, 116]⟩) := hI.cell 2 (by decide)
    go_wp2_with fail
    go_ret
    exact ⟨rfl, hb⟩
end Go.Proofs.YthmfhgehahpgbaaGreatDoor
