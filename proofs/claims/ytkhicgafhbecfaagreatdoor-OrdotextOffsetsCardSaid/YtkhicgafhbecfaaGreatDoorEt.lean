/- Package ordotext: Print. -/
import Derived.Test.YtkhicgafhbecfaaGreatDoorEs
namespace Go.Proofs.YtkhicgafhbecfaaGreatDoor
open Go.RowKit

/-! what Print's calls keep -/
structure PrK (w0 : World) (yr : Int) (v : Value) (t : ByteArray) (u : World) : Prop where
  row : u.heap[w0.heap.size]? = some (.cells #[.int .i64 yr, v] 25 (0, 0))
  bl : Below w0.heap.size w0 u
  bu : Lib.IsBuilderF 64 5 (w0.heap.size + 1) (w0.heap.size + 1) (Lib.strCells t) u
theorem PrK.on {w0 : World} {yr : Int} {v : Value} {t : ByteArray} {u u' : World} (h : PrK w0 yr v t u) (hb : Below u.heap.size u u') : PrK w0 yr v t u' :=
  ⟨row_kept h.row hb, below_on h.bl hb, h.bu.elim (fun x => .inl (bu_on x hb)) (fun x => .inr (bu_on x hb))⟩
theorem PrK.lt {w0 : World} {yr : Int} {v : Value} {t : ByteArray} {u : World} (h : PrK w0 yr v t u) : w0.heap.size + 1 < u.heap.size := by
  rcases h.bu with ⟨_, v, hr, _⟩ | ⟨_, v, hr, _⟩
  · exact row_lt hr
  · exact row_lt hr
theorem prk_write {w0 : World} {yr : Int} {v : Value} {t s : ByteArray} {u : World} (h : PrK w0 yr v t u) (hl : t.size + s.size ≤ 140737488355328) :
    Calls Tryz.prog 30 #[.pointer (some ⟨w0.heap.size + 1, 0, none⟩), .string s] u fun e u' => e = .returned (.tuple #[.int .i64 s.size, .nilIface]) ∧ PrK w0 yr v (t ++ s) u' := by
  refine (sh_WriteString _ _ _ s u h.bu (by rw [Lib.strCells_length]; exact hl) (Nat.le_of_lt h.lt)).mono ?_
  rintro e u' ⟨rfl, h1, h2, h3⟩
  refine ⟨rfl, ⟨?_, h.bl.trans (h2.mono (Nat.le_succ _)), .inr (by rw [str_app]; exact h1)⟩⟩
  rw [h2.block _ (Nat.lt_succ_self _)]
  exact h.row
theorem prk_string {w0 : World} {yr : Int} {v : Value} {t : ByteArray} {u : World} (h : PrK w0 yr v t u) :
    Calls Tryz.prog 34 #[.pointer (some ⟨w0.heap.size + 1, 0, none⟩)] u fun e u' => e = .returned (.string t) ∧ Below w0.heap.size w0 u' := by
  have hb := h.bu
  rw [Lib.strCells_eq] at hb
  refine (sh_String _ _ t.data.toList u hb (Nat.le_of_lt h.lt)).mono ?_
  rintro e u' ⟨rfl, h1, h2, h3⟩
  exact ⟨by rw [Lib.mk_data], h.bl.trans (h2.mono (Nat.le_succ _))⟩
theorem PrK.new (w : World) (yr : Int) (v : Value) : PrK w yr v ByteArray.empty ((w.alloc (.cells #[.int .i64 yr, v] 25)).alloc (.cells #[.pointer none, .slice none 0 0] 64)) := by
  have e1 := heap_alloc_new (w.alloc (.cells #[.int .i64 yr, v] 25)) (.cells #[.pointer none, .slice none 0 0] 64)
  have es : (w.alloc (.cells #[.int .i64 yr, v] 25)).heap.size = w.heap.size + 1 := by simp
  rw [es] at e1
  exact ⟨row_kept (heap_alloc_new w _) (al1 _ _), below_on (al1 w _) (al1 _ _), .inl ⟨Nat.le_refl _, _, e1, World.ownsRowF_nil _ _ _ _, by simp [Value.ownBlock]⟩⟩
theorem txEs_take : ∀ (l : List Ent) (k : Nat) (e : Ent), l[k]? = some e → txEs (l.take (k + 1)) = txEs (l.take k) ++ (wDay ++ txE e)
  | [], k, t, h => by simp at h
  | x :: l, 0, t, h => by
    obtain rfl : x = t := by simpa using h
    show (wDay ++ txE x) ++ ByteArray.empty = ByteArray.empty ++ (wDay ++ txE x)
    rw [ByteArray.append_empty, ByteArray.empty_append]
  | x :: l, k + 1, t, h => by
    have := txEs_take l k t (by simpa using h)
    rw [List.take_succ_cons, List.take_succ_cons]
    show (wDay ++ txE x) ++ txEs (l.take (k + 1)) = ((wDay ++ txE x) ++ txEs (l.take k)) ++ (wDay ++ txE t)
    rw [this, ByteArray.append_assoc (a := wDay ++ txE x)]
theorem txEs_le : ∀ (l : List Ent) (k : Nat), (txEs (l.take k)).size ≤ (txEs l).size
  | [], k => by rw [List.take_nil]; exact Nat.le_refl _
  | x :: l, 0 => by rw [List.take_zero]; exact Nat.zero_le _
  | x :: l, k + 1 => by
    have := txEs_le l k
    rw [List.take_succ_cons]
    show ((wDay ++ txE x) ++ txEs (l.take k)).size ≤ ((wDay ++ txE x) ++ txEs l).size
    rw [ByteArray.size_append, ByteArray.size_append (a := wDay ++ txE x)]; omega
theorem txK_size (k : Kal) : (txEs k.es).size + 10 ≤ (txK k).size + 0 ∧ (itB k.y).size ≤ (txK k).size := by
  unfold txK
  have e1 : wCl.size = 9 := rfl
  have e2 : wLf.size = 1 := rfl
  rw [ByteArray.size_append, ByteArray.size_append, ByteArray.size_append, ByteArray.size_append]
  omega
theorem sadd27 {a b : ByteArray} (h : a.size + b.size ≤ 100000000) (u : World) : (Op.stringOp .add a b).run Tryz.prog u = .ok (.string (a ++ b)) u := by
  rw [run_string_add_if, if_neg]
  omega
set_option maxRecDepth 100000 in
set_option maxHeartbeats 4000000 in
theorem p27pri {yr : Int} {es : List Ent} {v : Value} {l : List Enz} {w : World} (hT : T26 w) (h : KlAt w v l) (hl : l.map Enz.e = es) (hy : inT yr = true) (hok : ∀ e ∈ es, LnOk e) (hz : (txK ⟨yr, es⟩).size ≤ 10000000) (hn : es.length ≤ 1000000) :
    Calls Tryz.prog 14 #[.agg #[.int .i64 yr, v]] w fun e w' => e = .returned (.string (txK ⟨yr, es⟩)) ∧ Below w.heap.size w w' := by
  obtain ⟨A, cap, rfl, _, _, a1⟩ := h
  have Q := Lib.hid a1
  have hlen : l.length = es.length := by rw [← hl, List.length_map]
  have hgt : ∀ (k : Nat) (z : Enz), l[k]? = some z → es[k]? = some z.e := fun k z hk => by rw [← hl, List.getElem?_map, hk]; rfl
  have HG := Lib.hid hgt
  have hnl : l.length ≤ 1000000 := by rw [hlen]; exact hn
  replace hlen := Lib.hid hlen
  have HO := Lib.hid hok
  have hs1 := (txK_size ⟨yr, es⟩).1
  simp only at hs1
  have HZ := Lib.hid (show (txEs es).size ≤ 10000000 by omega)
  have HT := Lib.hid hT
  have zy := itB_size hy
  have hA : ∀ u : World, (Op.stringOp .add (jn [⟨#[99, 97, 108, 101, 110, 100, 97, 114]⟩, itB yr]) ⟨#[10]⟩).run Tryz.prog u = .ok (.string (wCl ++ (itB yr ++ wLf))) u := fun u => by
    have e : jn [⟨#[99, 97, 108, 101, 110, 100, 97, 114]⟩, itB yr] ++ ⟨#[10]⟩ = wCl ++ (itB yr ++ wLf) := by
      have q : wCl = ⟨#[99, 97, 108, 101, 110, 100, 97, 114]⟩ ++ wSp := rfl
      rw [q]
      show (⟨#[99, 97, 108, 101, 110, 100, 97, 114]⟩ ++ (wSp ++ itB yr)) ++ wLf = _
      simp only [ByteArray.append_assoc]
    rw [← e]
    exact sadd27 (by show (⟨#[99, 97, 108, 101, 110, 100, 97, 114]⟩ ++ (wSp ++ itB yr) : ByteArray).size + 1 ≤ _; rw [ByteArray.size_append, ByteArray.size_append]; have : (ByteArray.mk #[99, 97, 108, 101, 110, 100, 97, 114]).size = 8 := rfl; have : wSp.size = 1 := rfl; omega) u
  have hH : (wCl ++ (itB yr ++ wLf)).size ≤ 100 := by
    have e1 : wCl.size = 9 := rfl
    have e2 : wLf.size = 1 := rfl
    rw [ByteArray.size_append, ByteArray.size_append]; omega
  have eK : txK ⟨yr, es⟩ = ((wCl ++ (itB yr ++ wLf)) ++ txEs es) ++ wEnd := by
    unfold txK
    simp only [ByteArray.append_assoc]
  rw [eK]
  have hj : (jn [⟨#[99, 97, 108, 101, 110, 100, 97, 114]⟩, itB yr]).size ≤ 100 := by
    show (⟨#[99, 97, 108, 101, 110, 100, 97, 114]⟩ ++ (wSp ++ itB yr) : ByteArray).size ≤ 100
    rw [ByteArray.size_append, ByteArray.size_append]; have : (ByteArray.mk #[99, 97, 108, 101, 110, 100, 97, 114]).size = 8 := rfl; have : wSp.size = 1 := rfl; omega
  have HJ := Lib.hid (fun (u : World) (g cap : Nat) (h : StrsIn g cap [⟨#[99, 97, 108, 101, 110, 100, 97, 114]⟩, itB yr] u) => p27jnd h (by simp) (Nat.le_trans hj (by decide)))
  have HNb := Lib.hid (fun (w0 u : World) (L : Nat) (t : T26 w0) (h : LnS w0 L [⟨#[99, 97, 108, 101, 110, 100, 97, 114]⟩] u) => p27nmb h t hy (by decide))
  generalize jn [⟨#[99, 97, 108, 101, 110, 100, 97, 114]⟩, itB yr] = tj at *
  generalize hHH : wCl ++ (itB yr ++ wLf) = H at *
  generalize itB yr = ti at *
  clear hl hgt hok hs1 hz eK hHH hT zy hj a1
  obtain ⟨w1, hw1⟩ : ∃ u, u = (w.alloc (.cells #[.int .i64 yr, .slice A l.length cap] 25)).alloc (.cells #[.pointer none, .slice none 0 0] 64) := ⟨_, rfl⟩
  have P0 : PrK w yr (.slice A l.length cap) ByteArray.empty w1 := hw1 ▸ PrK.new w yr (.slice A l.length cap)
  have T1 := HT.out.on P0.bl
  have HWr := Lib.hid (fun (u : World) (t s : ByteArray) (h : PrK w yr (.slice A l.length cap) t u) (hl : t.size + s.size ≤ 140737488355328) => prk_write h hl)
  go_enter Tryz.func14, Tryz.ntmps14
  go_wp2_with fail
  rw [← hw1]
  clear hw1
  have P0 := Lib.hid P0
  have T1 := Lib.hid T1
  have l1 := P0.out.lt
  refine wp_region_held_drew (S := fun u_ => u_.heap[w.heap.size]? = some (.cells #[.int .i64 yr, .slice A l.length cap] 25 (0, 0))) (by kernel_rfl) (row_dn P0.out.row 1) (fun hHeld => ?_)
  refine wpAnyH_take (i := 2) (oi := { dst := some 8, op := _, type := _, pos := _, after := _, guard := _ }) (v := ?v1_2) rfl (by kernel_rfl) (by kernel_rfl) (by kernel_rfl) (fun _ _ _ h => h) (Or.inl ⟨by rfl, ?hy1_2⟩) hHeld ?_
  case hy1_2 => (intro wq hSw; have s0 := cell_of_row wq w.heap.size 0 _ _ _ hSw; go_simp; try with_reducible rfl)
  simp only [Act.put, List.setIfInBounds_toArray, List.set_cons_zero, List.set_cons_succ]
  refine wpAnyH_take (i := 3) (oi := { dst := some 9, op := _, type := _, pos := _, after := _, guard := _ }) (v := ?v1_3) rfl (by kernel_rfl) (by kernel_rfl) (by kernel_rfl) (fun _ _ _ h => h) (Or.inl ⟨by rfl, ?hy1_3⟩) hHeld ?_
  case hy1_3 => (intro wq hSw; have s0 := cell_of_row wq w.heap.size 0 _ _ _ hSw; go_simp; try with_reducible rfl)
  simp only [Act.put, List.setIfInBounds_toArray, List.set_cons_zero, List.set_cons_succ]
  obtain ⟨wd, hwd⟩ : ∃ wd, wd = w1.drew := ⟨_, rfl⟩
  have bd : Below w1.heap.size w1 wd := hwd ▸ below_dn (Below.refl _ _) 1
  rw [← hwd] at hHeld ⊢
  clear hwd
  refine wpAnyH_ready (rs := [0]) (by kernel_rfl) (by simp) ?_
  refine AllReadyH.cons (o := { dst := some 6, op := _, type := _, pos := _, after := _, guard := _ }) rfl (fun K hK => ?_) AllReadyH.nil
  go_simp
  have a0 := al1 wd (.cells #[.slice none 0 0] 72)
  have b0 := below_on bd a0
  have n0 : LnS w1 wd.heap.size [] (wd.alloc (.cells #[.slice none 0 0] 72)) := ⟨⟨_, heap_alloc_new wd _, StrsAt.emp _ _⟩, b0, bd.size⟩
  clear a0
  refine hK.out _ _ (row_kept P0.out.row b0) (fun hHeld => ?_)
  clear hK K
  refine wpAnyH_ready (rs := [1]) (by kernel_rfl) (by simp) ?_
  refine AllReadyH.cons (o := { dst := some 7, op := _, type := _, pos := _, after := _, guard := _ }) rfl (fun K hK => ?_) AllReadyH.nil
  go_simp
  go_at_call 31
  refine (p27wrd n0 (by decide)).mono ?_
  rintro e1 u1 ⟨rfl, n1, -⟩
  clear n0 b0
  refine hK.out _ _ (row_kept P0.out.row n1.bl) (fun hHeld => ?_)
  clear hK K
  refine wpAnyH_ready (rs := [4]) (by kernel_rfl) (by simp) ?_
  refine AllReadyH.cons (o := { dst := some 10, op := _, type := _, pos := _, after := _, guard := _ }) rfl (fun K hK => ?_) AllReadyH.nil
  go_simp
  go_at_call 32
  refine (HNb.out _ _ _ T1.out n1).mono ?_
  rintro e2 u2 ⟨rfl, n2, -⟩
  clear n1
  refine hK.out _ _ (row_kept P0.out.row n2.bl) (fun hHeld => ?_)
  clear hK K
  refine wpAnyH_take (i := 5) (oi := { dst := some 11, op := _, type := _, pos := _, after := _, guard := _ }) (v := ?v1_5) rfl (by kernel_rfl) (by kernel_rfl) (by kernel_rfl) (fun _ _ _ h => h) (Or.inl ⟨by rfl, ?hy1_5⟩) hHeld ?_
  case hy1_5 => (intro wq hSw; have s0 := cell_of_row wq w.heap.size 0 _ _ _ hSw; go_simp; try with_reducible rfl)
  simp only [Act.put, List.setIfInBounds_toArray, List.set_cons_zero, List.set_cons_succ]
  refine wpAnyH_take (i := 6) (oi := { dst := some 12, op := _, type := _, pos := _, after := _, guard := _ }) (v := ?v1_6) rfl (by kernel_rfl) (by kernel_rfl) (by kernel_rfl) (fun _ _ _ h => h) (Or.inl ⟨by rfl, ?hy1_6⟩) hHeld ?_
  case hy1_6 => (intro wq hSw; have s0 := cell_of_row wq w.heap.size 0 _ _ _ hSw; go_simp; try with_reducible rfl)
  simp only [Act.put, List.setIfInBounds_toArray, List.set_cons_zero, List.set_cons_succ]
  have mb := n2.bl
  obtain ⟨vw, rw0, ow⟩ := n2.row
  rcases ow.get with ⟨-, e0⟩ | ⟨g, cw, rfl, hI⟩
  · simp at e0
  have cw0 := cell_of_row u2 _ 0 _ _ _ rw0
  simp only [List.getElem?_toArray, List.getElem?_cons_zero] at cw0
  refine wpAnyH_ready (rs := [7]) (by kernel_rfl) (by simp) ?_
  refine AllReadyH.cons (o := { dst := some 13, op := _, type := _, pos := _, after := _, guard := _ }) rfl (fun K hK => ?_) AllReadyH.nil
  go_simp
  refine hK.out _ _ (row_kept P0.out.row mb) (fun hHeld => ?_)
  clear hK K
  refine wpAnyH_ready (rs := [8]) (by kernel_rfl) (by simp) ?_
  refine AllReadyH.cons (o := { dst := some 14, op := _, type := _, pos := _, after := _, guard := _ }) rfl (fun K hK => ?_) AllReadyH.nil
  go_simp
  go_at_call 33
  refine (HJ.out _ _ _ hI).mono ?_
  rintro e3 u3 ⟨rfl, b3⟩
  have P3 := P0.out.on (below_on mb b3)
  refine hK.out _ _ P3.row (fun hHeld => ?_)
  clear hK K
  refine wpAnyH_take (i := 9) (oi := { dst := some 15, op := _, type := _, pos := _, after := _, guard := _ }) (v := ?v1_9) rfl (by kernel_rfl) (by kernel_rfl) (by kernel_rfl) (fun _ _ _ h => h) (Or.inl ⟨by rfl, ?hy1_9⟩) hHeld ?_
  case hy1_9 => (intro wq hSw; have s0 := cell_of_row wq w.heap.size 0 _ _ _ hSw; go_simp; try with_reducible rfl)
  simp only [Act.put, List.setIfInBounds_toArray, List.set_cons_zero, List.set_cons_succ]
  refine wpAnyH_ready (rs := [10]) (by kernel_rfl) (by simp) ?_
  refine AllReadyH.cons (o := { dst := some 16, op := _, type := _, pos := _, after := _, guard := _ }) rfl (fun K hK => ?_) AllReadyH.nil
  go_simp
  go_at_call 30
  refine (HWr.out _ _ _ P3 (by have e0 : (ByteArray.empty).size = 0 := rfl; omega)).mono ?_
  rintro e4 u4 ⟨rfl, P4⟩
  refine hK.out _ _ P4.row (fun hHeld => ?_)
  clear hK K
  refine wpAnyH_done (by kernel_rfl) ?_ _
  rw [ByteArray.empty_append] at P4
  have k1 : u4.cell? ⟨w.heap.size, 1, none⟩ = some (.slice A l.length cap) := by rw [cell_of_row _ _ _ _ _ _ P4.row]; rfl
  have P4 := Lib.hid P4
  go_wp2_with fail
  clear k1
  go_loopw [20] (fun i wr => ∃ k : Nat, k ≤ l.length ∧ i = .int .i64 k ∧ PrK w yr (.slice A l.length cap) (H ++ txEs (es.take k)) wr) (fun i _ => l.length - (intOf i).toNat)
  case atStart => exact ⟨0, Nat.zero_le _, rfl, by rw [List.take_zero]; show PrK _ _ _ (H ++ ByteArray.empty) _; rw [ByteArray.append_empty]; exact P4.out⟩
  case round =>
    obtain ⟨k, hk, rfl, hP⟩ := hrel
    by_cases hlt : k < l.length
    · obtain ⟨z, hzk⟩ : ∃ z, l[k]? = some z := ⟨_, List.getElem?_eq_getElem hlt⟩
      obtain ⟨⟨b1, o1, rfl, lt1, g1⟩, t1, t2⟩ := Q.out k z hzk
      have hek := HG.out k z hzk
      have hok := HO.out z.e (List.mem_of_getElem? hek)
      have htk := Lib.hid ((txEs_take es k z.e hek).trans (congrArg _ (txL_txE z.e)))
      have hsz := Lib.hid (Nat.le_trans (txEs_le es k) HZ.out)
      obtain ⟨⟨ey, em, ed, ewd, ese, ewk, eki, epr, erk, efy, efm, efd, eco, eom⟩, vc, vo⟩ := z
      have g1 : ∀ j, j < 14 → wr.cell? ⟨b1, o1 + k * 14 + j, none⟩ = _ := fun j hj => (hP.bl.cell lt1).trans (g1 j hj)
      have p0 := g1 0 (by omega)
      simp only [Enz.vals, List.getElem?_cons_zero, Nat.add_zero] at p0
      have p1 := g1 1 (by omega)
      simp only [Enz.vals, List.getElem?_cons_succ, List.getElem?_cons_zero] at p1
      have p2 := g1 2 (by omega)
      simp only [Enz.vals, List.getElem?_cons_succ, List.getElem?_cons_zero] at p2
      have p3 := g1 3 (by omega)
      simp only [Enz.vals, List.getElem?_cons_succ, List.getElem?_cons_zero] at p3
      have p4 := g1 4 (by omega)
      simp only [Enz.vals, List.getElem?_cons_succ, List.getElem?_cons_zero] at p4
      have p5 := g1 5 (by omega)
      simp only [Enz.vals, List.getElem?_cons_succ, List.getElem?_cons_zero] at p5
      have p6 := g1 6 (by omega)
      simp only [Enz.vals, List.getElem?_cons_succ, List.getElem?_cons_zero] at p6
      have p7 := g1 7 (by omega)
      simp only [Enz.vals, List.getElem?_cons_succ, List.getElem?_cons_zero] at p7
      have p8 := g1 8 (by omega)
      simp only [Enz.vals, List.getElem?_cons_succ, List.getElem?_cons_zero] at p8
      have p9 := g1 9 (by omega)
      simp only [Enz.vals, List.getElem?_cons_succ, List.getElem?_cons_zero] at p9
      have p10 := g1 10 (by omega)
      simp only [Enz.vals, List.getElem?_cons_succ, List.getElem?_cons_zero] at p10
      have p11 := g1 11 (by omega)
      simp only [Enz.vals, List.getElem?_cons_succ, List.getElem?_cons_zero] at p11
      have p12 := g1 12 (by omega)
      simp only [Enz.vals, List.getElem?_cons_succ, List.getElem?_cons_zero] at p12
      have p13 := g1 13 (by omega)
      simp only [Enz.vals, List.getElem?_cons_succ, List.getElem?_cons_zero] at p13
      obtain ⟨ac, kc, rfl, -⟩ := (show TxAt w vc eco from t1)
      obtain ⟨ao, ko, rfl, -⟩ := (show TxAt w vo eom from t2)
      have HLn := Lib.hid (fun (u : World) (b : Below w.heap.size w u) => p27lin (HT.out.on b) (t1.on b) (t2.on b) hok)
      have hLz := Lib.hid hok.z
      have hP := Lib.hid hP
      have alE := al1 wr (.cells #[.int .i64 ey, .int .i64 em, .int .i64 ed, .int .i64 ewd, .string ese, .int .i64 ewk, .int .i64 eki, .string epr, .int .i64 erk, .int .i64 efy, .int .i64 efm, .int .i64 efd, .slice ac eco.length kc, .slice ao eom.length ko] 40)
      obtain ⟨q0, q1, q2, q3, q4, q5, q6, q7, q8, q9, q10, q11, q12, q13⟩ := row14 (heap_alloc_new wr (.cells #[.int .i64 ey, .int .i64 em, .int .i64 ed, .int .i64 ewd, .string ese, .int .i64 ewk, .int .i64 eki, .string epr, .int .i64 erk, .int .i64 efy, .int .i64 efm, .int .i64 efd, .slice ac eco.length kc, .slice ao eom.length ko] 40))
      have PA := Lib.hid (hP.out.on alE)
      clear g1 t1 t2 hzk hek hok lt1 alE
      generalize hTL : txL ⟨ey, em, ed, ewd, ese, ewk, eki, epr, erk, efy, efm, efd, eco, eom⟩ = tl at *
      clear hTL
      have hadd := fun u : World => sadd27 (a := tl) (b := ⟨#[10]⟩) (by have := hLz.out; have : (ByteArray.mk #[10]).size = 1 := rfl; omega) u
      go_wp2_with fail
      clear p0 q0 p1 q1 p2 q2 p3 q3 p4 q4 p5 q5 p6 q6 p7 q7 p8 q8 p9 q9 p10 q10 p11 q11 p12 q12 p13 q13
      refine (HLn.out _ PA.out.bl).mono ?_
      rintro e u5 ⟨rfl, b5⟩
      have P5 := Lib.hid (PA.out.on b5)
      clear b5 PA
      go_wp2_with fail
      refine (HWr.out _ _ _ P5.out (by have := hsz.out; have := hLz.out; have : (ByteArray.mk #[10]).size = 1 := rfl; simp only [ByteArray.size_append]; omega)).mono ?_
      rintro e u6 ⟨rfl, P6⟩
      go_wp2_with fail
      go_roundw
      case rel => exact ⟨k + 1, by omega, by go_num, by rw [htk.out, ← ByteArray.append_assoc]; exact P6⟩
      case measure => simp [intOf]; omega
    · obtain rfl : k = l.length := by omega
      rw [hlen.out, List.take_length] at hP
      rw [← hlen.out] at hP
      have hP := Lib.hid hP
      have eE : (⟨#[101, 110, 100, 10]⟩ : ByteArray).size = 4 := rfl
      go_wp2_with fail
      refine (HWr.out _ _ _ hP.out (by have := HZ.out; rw [ByteArray.size_append]; omega)).mono ?_
      rintro e u7 ⟨rfl, P7⟩
      go_wp2_with fail
      refine (prk_string P7).mono ?_
      rintro e u8 ⟨rfl, b8⟩
      go_wp2_with fail
      go_ret
      exact ⟨rfl, b8⟩
end Go.Proofs.YtkhicgafhbecfaaGreatDoor
