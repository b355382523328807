/- Package cattext: Print's walk. -/
import Derived.Test.YthmfhgehahpgbaaGreatDoorYt
namespace Go.Proofs.YthmfhgehahpgbaaGreatDoor
open Go.RowKit

def wCa9 : ByteArray := ⟨#[99, 97, 116, 97, 108, 111, 103, 117, 101]⟩
def wFr4 : ByteArray := ⟨#[102, 114, 101, 101]⟩
def wEn3 : ByteArray := ⟨#[101, 110, 100]⟩
theorem headS (f : Int) : (ByteArray.empty ++ (jn [wCa9] ++ wLf)) ++ (jn [wFr4, itB f] ++ wLf) = wCat ++ (wFre ++ (itB f ++ wLf)) := by
  have e1 : wCat = wCa9 ++ wLf := rfl
  have e2 : wFre = wFr4 ++ wSp := rfl
  rw [e1, e2]
  simp only [jn, ByteArray.append_assoc, ByteArray.empty_append]
structure SB (q : Nat) (T : TypeId) (id : ByteArray) (x y k m d o w c : Int) (u : World) : Prop where
  r : u.heap[q]? = some (.cells #[.string id, .int .i64 x, .int .i64 y, .int .i64 k, .int .i64 m, .int .i64 d, .int .i64 o, .int .i64 w, .int .i64 c] T (0, 0))
theorem SB.on {q : Nat} {T : TypeId} {id : ByteArray} {x y k m d o w c : Int} {u u' : World} (h : SB q T id x y k m d o w c u) (hb : Below u.heap.size u u') : SB q T id x y k m d o w c u' := ⟨row_kept h.r hb⟩
theorem SB.cells {q : Nat} {T : TypeId} {id : ByteArray} {x y k m d o w c : Int} {u : World} (h : SB q T id x y k m d o w c u) :
    u.cell? ⟨q, 0, none⟩ = some (.string id) ∧ u.cell? ⟨q, 1, none⟩ = some (.int .i64 x) ∧ u.cell? ⟨q, 2, none⟩ = some (.int .i64 y) ∧ u.cell? ⟨q, 3, none⟩ = some (.int .i64 k) ∧ u.cell? ⟨q, 4, none⟩ = some (.int .i64 m) ∧ u.cell? ⟨q, 5, none⟩ = some (.int .i64 d) ∧ u.cell? ⟨q, 6, none⟩ = some (.int .i64 o) ∧ u.cell? ⟨q, 7, none⟩ = some (.int .i64 w) ∧ u.cell? ⟨q, 8, none⟩ = some (.int .i64 c) := nine_row h.r
theorem parS {id : ByteArray} {x y k m d o w c : Int} (h : gdS ⟨id, x, y, k, m, d, o, w, c⟩ = true) : inT x = true ∧ inT y = true ∧ ancB ⟨k, m, d, o, w, c⟩ = true ∧ (jn [wSe5, id, itB x, itB y, txJ ⟨k, m, d, o, w, c⟩]).size ≤ 600000 := gdS_parts h
theorem parF {id : ByteArray} {x y k m d o w c : Int} (h : gdF ⟨id, x, y, k, m, d, o, w, c⟩ = true) : inT x = true ∧ (1 ≤ y ∧ y ≤ 3) ∧ ancB ⟨k, m, d, o, w, c⟩ = true ∧ (jn [wFe5, id, itB x, txP y, txJ ⟨k, m, d, o, w, c⟩]).size ≤ 600000 := gdF_parts h
theorem takS {l : List Itm} {i : Nat} {id : ByteArray} {x y k m d o w c : Int} (h : l[i]? = some ⟨id, x, y, k, m, d, o, w, c⟩) : txs txS (l.take (i + 1)) = txs txS (l.take i) ++ (jn [wSe5, id, itB x, itB y, txJ ⟨k, m, d, o, w, c⟩] ++ wLf) := (txs_take txS l i _ h).trans (congrArg _ (txS_jn _))
theorem takF {l : List Itm} {i : Nat} {id : ByteArray} {x y k m d o w c : Int} (h : l[i]? = some ⟨id, x, y, k, m, d, o, w, c⟩) : txs txF (l.take (i + 1)) = txs txF (l.take i) ++ (jn [wFe5, id, itB x, txP y, txJ ⟨k, m, d, o, w, c⟩] ++ wLf) := (txs_take txF l i _ h).trans (congrArg _ (txF_jn _))
theorem tak_size {f : Itm → ByteArray} {l : List Itm} {n : Nat} (h : ∀ t ∈ l, (f t).size ≤ 1000000) (hl : l.length ≤ 100000) : (txs f (l.take n)).size ≤ 100000000000 := by
  have h1 := txs_size f 1000000 (l.take n) fun t ht => h t (List.mem_of_mem_take ht)
  have h2 : (l.take n).length ≤ l.length := by rw [List.length_take]; omega
  have : (l.take n).length * 1000000 ≤ 100000 * 1000000 := Nat.mul_le_mul (Nat.le_trans h2 hl) (Nat.le_refl _)
  omega
set_option maxRecDepth 100000 in
set_option maxHeartbeats 1000000 in
theorem p26pri {c : Cat} {v1 v2 : Value} {w : World} (hT : T26 w) (h1 : SlAt w v1 c.ss) (h2 : SlAt w v2 c.fs) (hf : inT c.free = true) (hs : ∀ t ∈ c.ss, gdS t = true) (hg : ∀ t ∈ c.fs, gdF t = true) (n1 : c.ss.length ≤ 100000) (n2 : c.fs.length ≤ 100000) :
    Calls Tryz.prog 14 #[.agg #[.int .i64 c.free, v1, v2]] w fun e w' => e = .returned (.string (txC c)) ∧ Below w.heap.size w w' := by
  obtain ⟨free, ss, fs⟩ := c
  simp only at hf h1 h2 hs hg n1 n2 ⊢
  obtain ⟨A1, c1, rfl, _, _, a1⟩ := h1
  obtain ⟨A2, c2, rfl, _, _, a2⟩ := h2
  have Q1 := Lib.hid a1
  have Q2 := Lib.hid a2
  clear a1 a2
  have hT := Lib.hid hT
  have hs := Lib.hid hs
  have hg := Lib.hid hg
  have P0 := Lib.hid (PrS.new w free (.slice A1 ss.length c1) (.slice A2 fs.length c2))
  have HW := Lib.hid (fun (u : World) (t s : ByteArray) (h : PrS w free (.slice A1 ss.length c1) (.slice A2 fs.length c2) t u) (hl : t.size + s.size ≤ 140737488355328) => prs_write h hl)
  have HI := Lib.hid (fun (u : World) (x : Int) (hx : inT x = true) (t : T26 u) => p26ito hx u t)
  have HL0 : ∀ (u : World) (g : Nat), g = u.heap.size → Calls Tryz.prog 30 #[.slice (some ⟨g, 0, none⟩) 1 1] (u.alloc (.cells #[.string (wCa9)] 9)) fun e w' => e = .returned (.string (jn [wCa9] ++ wLf)) ∧ Below u.heap.size u w' := fun u g hgz => by
    subst hgz
    exact (p26lin (xs := [wCa9]) (lit1 (wCa9) _) (by simp) (by decide)).mono fun e w' hh => ⟨hh.1, below_on (al1 u _) hh.2⟩
  have HL0 := Lib.hid HL0
  have HL1 : ∀ (u : World) (g : Nat), g = u.heap.size → Calls Tryz.prog 30 #[.slice (some ⟨g, 0, none⟩) 2 2] (u.alloc (.cells #[.string (wFr4), .string (itB free)] 9)) fun e w' => e = .returned (.string (jn [wFr4, itB free] ++ wLf)) ∧ Below u.heap.size u w' := fun u g hgz => by
    subst hgz
    exact (p26lin (xs := [wFr4, itB free]) (lit2 (wFr4) (itB free) _) (by simp) (by have a1 := itB_size hf; simp only [jn, ByteArray.size_append]; have e1 : wFr4.size = 4 := rfl; have e2 : wSp.size = 1 := rfl; omega)).mono fun e w' hh => ⟨hh.1, below_on (al1 u _) hh.2⟩
  have HL1 := Lib.hid HL1
  have HL4 : ∀ (u : World) (g : Nat), g = u.heap.size → Calls Tryz.prog 30 #[.slice (some ⟨g, 0, none⟩) 1 1] (u.alloc (.cells #[.string (wEn3)] 9)) fun e w' => e = .returned (.string (jn [wEn3] ++ wLf)) ∧ Below u.heap.size u w' := fun u g hgz => by
    subst hgz
    exact (p26lin (xs := [wEn3]) (lit1 (wEn3) _) (by simp) (by decide)).mono fun e w' hh => ⟨hh.1, below_on (al1 u _) hh.2⟩
  have HL4 := Lib.hid HL4
  have HF := HI.out
  have hz := Lib.hid (fun (t : ByteArray) (A B : ByteArray) (h : A.size ≤ 1000) (e : t = A ++ B) (hB : B.size ≤ 200000000000) => show t.size ≤ 300000000000 by rw [e, ByteArray.size_append]; omega)
  have hH := Lib.hid (headS free)
  have hfs := itB_size hf
  have z0 : (jn [wCa9] ++ wLf).size ≤ 100 := by decide
  have z1 : (jn [wFr4, itB free] ++ wLf).size ≤ 100 := by
    have e1 : wFr4.size = 4 := rfl
    have e2 : wSp.size = 1 := rfl
    have e3 : wLf.size = 1 := rfl
    simp only [jn, ByteArray.size_append]; omega
  have z4 : (jn [wEn3] ++ wLf).size ≤ 100 := by decide
  have eE : jn [wEn3] ++ wLf = wEnd := rfl
  have HF := Lib.hid (fun (u : World) (t : T26 u) => p26ito hf u t)
  clear hf
  generalize ht0 : jn [wCa9] ++ wLf = t0 at *
  generalize ht1 : jn [wFr4, itB free] ++ wLf = t1 at *
  generalize ht4 : jn [wEn3] ++ wLf = t4 at *
  generalize hti : itB free = ti at *
  have hti := Lib.hid hti
  have ht0 := Lib.hid ht0
  have ht1 := Lib.hid ht1
  have ht4 := Lib.hid ht4
  have eE := Lib.hid eE
  have z0 := Lib.hid z0
  have z1 := Lib.hid z1
  have z4 := Lib.hid z4
  have hfs := Lib.hid hfs
  have e0 : (ByteArray.empty).size = 0 := rfl
  have e0 := Lib.hid e0
  go_enter Tryz.func14, Tryz.ntmps14
  go_wp2_with fail
  refine (HL0.out _ _ (by simp)).mono ?_
  rintro e u1 ⟨rfl, hb1⟩
  have P1 := Lib.hid (P0.out.on hb1)
  clear hb1 P0 HL0
  go_wp2_with fail
  refine (HW.out _ _ _ P1.out (by have := z0.out; have := e0.out; omega)).mono ?_
  rintro e u2 ⟨rfl, P2, -⟩
  clear P1
  have T2 := Lib.hid (hT.out.on P2.bl)
  have k0 : u2.cell? ⟨w.heap.size, 0, none⟩ = some (.int .i64 free) := by rw [cell_of_row _ _ _ _ _ _ P2.row]; rfl
  have P2 := Lib.hid P2
  go_wp2_with fail
  refine (HF.out _ T2.out).mono ?_
  rintro e u3 ⟨rfl, hb3⟩
  clear k0 T2
  have P3 := Lib.hid (P2.out.on hb3)
  clear hb3 P2
  go_wp2_with fail
  refine (HL1.out _ _ (by simp)).mono ?_
  rintro e u4 ⟨rfl, hb4⟩
  have P4 := Lib.hid (P3.out.on hb4)
  clear hb4 P3 HL1
  go_wp2_with fail
  refine (HW.out _ _ _ P4.out (by have := z0.out; have := z1.out; have := e0.out; simp only [ByteArray.size_append]; omega)).mono ?_
  rintro e u5 ⟨rfl, P5, -⟩
  clear P4
  have hz5 : (ByteArray.empty ++ t0 ++ t1).size ≤ 1000 := by have := z0.out; have := z1.out; have := e0.out; simp only [ByteArray.size_append]; omega
  have hz5 := Lib.hid hz5
  generalize hT5 : ByteArray.empty ++ t0 ++ t1 = T5 at *
  have hT5 := Lib.hid hT5.symm
  have k0 : u5.cell? ⟨w.heap.size, 1, none⟩ = some (.slice A1 ss.length c1) := by rw [cell_of_row _ _ _ _ _ _ P5.row]; rfl
  have P5 := Lib.hid P5
  go_wp2_with fail
  clear k0
  go_loopw [20] (fun i wr => ∃ k : Nat, k ≤ ss.length ∧ i = .int .i64 k ∧ PrS w free (.slice A1 ss.length c1) (.slice A2 fs.length c2) (T5 ++ txs txS (ss.take k)) wr) (fun i _ => ss.length - (intOf i).toNat)
  case atStart => exact ⟨0, Nat.zero_le _, rfl, by rw [List.take_zero]; show PrS _ _ _ _ (T5 ++ ByteArray.empty) _; rw [ByteArray.append_empty]; exact P5.out⟩
  case round =>
    clear P5
    obtain ⟨k, hk, rfl, hP⟩ := hrel
    by_cases hlt : k < ss.length
    · obtain ⟨c, hc⟩ : ∃ c, ss[k]? = some c := ⟨_, List.getElem?_eq_getElem hlt⟩
      obtain ⟨b, p, hA, hl1, hit⟩ := Q1.out k c hc
      subst hA
      have C1 := hit.on hP.bl hl1
      have hsz : (txs txS (ss.take k)).size ≤ 100000000000 := tak_size (fun t ht => txS_size (hs.out t ht)) n1
      have hsz := Lib.hid hsz
      have hgd := hs.out c (List.mem_of_getElem? hc)
      obtain ⟨id, x, y, a1, a2, a3, a4, a5, a6⟩ := c
      obtain ⟨hx, hy, ha, hl⟩ := parS hgd
      have htk := Lib.hid (takS hc)
      obtain ⟨q0, q1, q2, q3, q4, q5, q6, q7, q8⟩ := C1.nine
      clear C1 hit hl1 hgd hc
      have HL2 : ∀ (u : World) (g : Nat), g = u.heap.size → Calls Tryz.prog 30 #[.slice (some ⟨g, 0, none⟩) 5 5] (u.alloc (.cells #[.string (wSe5), .string (id), .string (itB x), .string (itB y), .string (txJ ⟨a1, a2, a3, a4, a5, a6⟩)] 9)) fun e w' => e = .returned (.string (jn [wSe5, id, itB x, itB y, txJ ⟨a1, a2, a3, a4, a5, a6⟩] ++ wLf)) ∧ Below u.heap.size u w' := fun u g hgz => by
        subst hgz
        exact (p26lin (xs := [wSe5, id, itB x, itB y, txJ ⟨a1, a2, a3, a4, a5, a6⟩]) (lit5 (wSe5) (id) (itB x) (itB y) (txJ ⟨a1, a2, a3, a4, a5, a6⟩) _) (by simp) (Nat.le_trans hl (by decide))).mono fun e w' hh => ⟨hh.1, below_on (al1 u _) hh.2⟩
      have HL2 := Lib.hid HL2
      have HC0 := Lib.hid (fun (u : World) (hu : T26 u) => p26ito hx u hu)
      have HC1 := Lib.hid (fun (u : World) (hu : T26 u) => p26ito hy u hu)
      have HC2 := Lib.hid (fun (u : World) (hu : T26 u) => p26ant hu ha)
      generalize htl : jn [wSe5, id, itB x, itB y, txJ ⟨a1, a2, a3, a4, a5, a6⟩] ++ wLf = tl at *
      have hzl : tl.size ≤ 600001 := by rw [← htl, ByteArray.size_append]; have e : wLf.size = 1 := rfl; omega
      have hzl := Lib.hid hzl
      clear htl hl hx hy ha
      generalize itB x = tx at *
      generalize itB y = ty at *
      generalize txJ ⟨a1, a2, a3, a4, a5, a6⟩ = ta at *
      have hP0 := Lib.hid ((hP.on (al1 wr (.cells #[.string id, .int .i64 x, .int .i64 y, .int .i64 a1, .int .i64 a2, .int .i64 a3, .int .i64 a4, .int .i64 a5, .int .i64 a6] 41))).on (below_dn (Below.refl _ _) 1))
      have hq := hP.lt
      have S0 := Lib.hid ((show SB wr.heap.size 41 id x y a1 a2 a3 a4 a5 a6 (wr.alloc (.cells #[.string id, .int .i64 x, .int .i64 y, .int .i64 a1, .int .i64 a2, .int .i64 a3, .int .i64 a4, .int .i64 a5, .int .i64 a6] 41)) from ⟨heap_alloc_new _ _⟩).on (below_dn (Below.refl _ _) 1))
      clear hP
      go_wp2_with fail
      clear q0 q1 q2 q3 q4 q5 q6 q7 q8
      refine wp_region_held_drew (S := fun u => SB wr.heap.size 41 id x y a1 a2 a3 a4 a5 a6 u) (by kernel_rfl) S0.out (fun hHeld => ?_)
      refine wpAnyH_take (i := 0) (oi := { dst := some 24, op := _, type := _, pos := _, after := _, guard := _ }) (v := ?v1_0) rfl (by kernel_rfl) (by kernel_rfl) (by kernel_rfl) (fun _ _ _ h => h) (Or.inl ⟨by rfl, ?hy1_0⟩) hHeld ?_
      case hy1_0 => (intro w hSw; obtain ⟨s0, s1, s2, s3, s4, s5, s6, s7, s8⟩ := (SB.cells hSw); go_simp; try with_reducible rfl)
      simp only [Act.put, List.setIfInBounds_toArray, List.set_cons_zero, List.set_cons_succ]
      refine wpAnyH_take (i := 1) (oi := { dst := some 25, op := _, type := _, pos := _, after := _, guard := _ }) (v := ?v1_1) rfl (by kernel_rfl) (by kernel_rfl) (by kernel_rfl) (fun _ _ _ h => h) (Or.inl ⟨by rfl, ?hy1_1⟩) hHeld ?_
      case hy1_1 => (intro w hSw; obtain ⟨s0, s1, s2, s3, s4, s5, s6, s7, s8⟩ := (SB.cells hSw); go_simp; try with_reducible rfl)
      simp only [Act.put, List.setIfInBounds_toArray, List.set_cons_zero, List.set_cons_succ]
      refine wpAnyH_take (i := 2) (oi := { dst := some 26, op := _, type := _, pos := _, after := _, guard := _ }) (v := ?v1_2) rfl (by kernel_rfl) (by kernel_rfl) (by kernel_rfl) (fun _ _ _ h => h) (Or.inl ⟨by rfl, ?hy1_2⟩) hHeld ?_
      case hy1_2 => (intro w hSw; obtain ⟨s0, s1, s2, s3, s4, s5, s6, s7, s8⟩ := (SB.cells hSw); go_simp; try with_reducible rfl)
      simp only [Act.put, List.setIfInBounds_toArray, List.set_cons_zero, List.set_cons_succ]
      refine wpAnyH_take (i := 3) (oi := { dst := some 27, op := _, type := _, pos := _, after := _, guard := _ }) (v := ?v1_3) rfl (by kernel_rfl) (by kernel_rfl) (by kernel_rfl) (fun _ _ _ h => h) (Or.inl ⟨by rfl, ?hy1_3⟩) hHeld ?_
      case hy1_3 => (intro w hSw; obtain ⟨s0, s1, s2, s3, s4, s5, s6, s7, s8⟩ := (SB.cells hSw); go_simp; try with_reducible rfl)
      simp only [Act.put, List.setIfInBounds_toArray, List.set_cons_zero, List.set_cons_succ]
      refine wpAnyH_take (i := 5) (oi := { dst := some 29, op := _, type := _, pos := _, after := _, guard := _ }) (v := ?v1_5) rfl (by kernel_rfl) (by kernel_rfl) (by kernel_rfl) (fun _ _ _ h => h) (Or.inl ⟨by rfl, ?hy1_5⟩) hHeld ?_
      case hy1_5 => (intro w hSw; obtain ⟨s0, s1, s2, s3, s4, s5, s6, s7, s8⟩ := (SB.cells hSw); go_simp; try with_reducible rfl)
      simp only [Act.put, List.setIfInBounds_toArray, List.set_cons_zero, List.set_cons_succ]
      refine wpAnyH_take (i := 6) (oi := { dst := some 30, op := _, type := _, pos := _, after := _, guard := _ }) (v := ?v1_6) rfl (by kernel_rfl) (by kernel_rfl) (by kernel_rfl) (fun _ _ _ h => h) (Or.inl ⟨by rfl, ?hy1_6⟩) hHeld ?_
      case hy1_6 => (intro w hSw; obtain ⟨s0, s1, s2, s3, s4, s5, s6, s7, s8⟩ := (SB.cells hSw); go_simp; try with_reducible rfl)
      simp only [Act.put, List.setIfInBounds_toArray, List.set_cons_zero, List.set_cons_succ]
      refine wpAnyH_take (i := 8) (oi := { dst := some 32, op := _, type := _, pos := _, after := _, guard := _ }) (v := ?v1_8) rfl (by kernel_rfl) (by kernel_rfl) (by kernel_rfl) (fun _ _ _ h => h) (Or.inl ⟨by rfl, ?hy1_8⟩) hHeld ?_
      case hy1_8 => (intro w hSw; obtain ⟨s0, s1, s2, s3, s4, s5, s6, s7, s8⟩ := (SB.cells hSw); go_simp; try with_reducible rfl)
      simp only [Act.put, List.setIfInBounds_toArray, List.set_cons_zero, List.set_cons_succ]
      refine wpAnyH_take (i := 9) (oi := { dst := some 33, op := _, type := _, pos := _, after := _, guard := _ }) (v := ?v1_9) rfl (by kernel_rfl) (by kernel_rfl) (by kernel_rfl) (fun _ _ _ h => h) (Or.inl ⟨by rfl, ?hy1_9⟩) hHeld ?_
      case hy1_9 => (intro w hSw; obtain ⟨s0, s1, s2, s3, s4, s5, s6, s7, s8⟩ := (SB.cells hSw); go_simp; try with_reducible rfl)
      simp only [Act.put, List.setIfInBounds_toArray, List.set_cons_zero, List.set_cons_succ]
      refine wpAnyH_ready (rs := [4]) (by kernel_rfl) (by simp) ?_
      refine AllReadyH.cons (o := { dst := some 28, op := _, type := _, pos := _, after := _, guard := _ }) rfl (fun K hK => ?_) AllReadyH.nil
      go_simp
      go_at_call 31
      refine (HC0.out _ (hT.out.on hP0.out.bl)).mono ?_
      rintro ee0 u0 ⟨rfl, hb0⟩
      have pp0 := hP0.out.on hb0
      have ss0 := S0.out.on hb0
      clear hb0
      refine hK.out _ _ ss0 (fun hHeld => ?_)
      clear hK K
      refine wpAnyH_ready (rs := [7]) (by kernel_rfl) (by simp) ?_
      refine AllReadyH.cons (o := { dst := some 31, op := _, type := _, pos := _, after := _, guard := _ }) rfl (fun K hK => ?_) AllReadyH.nil
      go_simp
      go_at_call 31
      refine (HC1.out _ (hT.out.on pp0.bl)).mono ?_
      rintro ee1 u1 ⟨rfl, hb1⟩
      have pp1 := pp0.on hb1
      have ss1 := ss0.on hb1
      clear hb1
      refine hK.out _ _ ss1 (fun hHeld => ?_)
      clear hK K
      refine wpAnyH_ready (rs := [10]) (by kernel_rfl) (by simp) ?_
      refine AllReadyH.cons (o := { dst := some 34, op := _, type := _, pos := _, after := _, guard := _ }) rfl (fun K hK => ?_) AllReadyH.nil
      go_simp
      go_at_call 32
      refine (HC2.out _ (hT.out.on pp1.bl)).mono ?_
      rintro ee2 u2 ⟨rfl, hb2⟩
      have pp2 := pp1.on hb2
      have ss2 := ss1.on hb2
      clear hb2
      refine hK.out _ _ ss2 (fun hHeld => ?_)
      clear hK K
      refine wpAnyH_ready (rs := [11]) (by kernel_rfl) (by simp) ?_
      refine AllReadyH.cons (o := { dst := some 35, op := _, type := _, pos := _, after := _, guard := _ }) rfl (fun K hK => ?_) AllReadyH.nil
      go_simp
      refine hK.out _ _ (ss2.on (al1 _ _)) (fun hHeld => ?_)
      clear hK K
      refine wpAnyH_ready (rs := [12]) (by kernel_rfl) (by simp) ?_
      refine AllReadyH.cons (o := { dst := some 36, op := _, type := _, pos := _, after := _, guard := _ }) rfl (fun K hK => ?_) AllReadyH.nil
      go_simp
      go_at_call 30
      refine (HL2.out u2 _ rfl).mono ?_
      rintro eeL uL ⟨rfl, hbL⟩
      have ppL := pp2.on hbL
      have ssL := ss2.on hbL
      clear hbL
      refine hK.out _ _ ssL (fun hHeld => ?_)
      clear hK K
      refine wpAnyH_ready (rs := [13]) (by kernel_rfl) (by simp) ?_
      refine AllReadyH.cons (o := { dst := some 37, op := _, type := _, pos := _, after := _, guard := _ }) rfl (fun K hK => ?_) AllReadyH.nil
      go_simp
      go_at_call 29
      refine (HW.out _ _ _ ppL (by have := hsz.out; have := hz5.out; have := hzl.out; simp only [ByteArray.size_append]; omega)).mono ?_
      rintro eeW uW ⟨rfl, ppW, hoW⟩
      have ssW : SB wr.heap.size 41 id x y a1 a2 a3 a4 a5 a6 uW := ⟨oth_row hoW ssL.r hq (by decide)⟩
      clear hoW
      refine hK.out _ _ ssW (fun hHeld => ?_)
      clear hK K
      refine wpAnyH_done (by kernel_rfl) ?_ _
      go_wp2_with fail
      go_roundw
      case rel => exact ⟨k + 1, by omega, by go_num, by rw [htk.out, ← ByteArray.append_assoc]; exact ppW⟩
      case measure => simp [intOf]; omega
    · obtain rfl : k = ss.length := by omega
      rw [List.take_length] at hP
      have hsz : (txs txS ss).size ≤ 100000000000 := by have := tak_size (n := ss.length) (fun t ht => txS_size (hs.out t ht)) n1; rwa [List.take_length] at this
      have hz6 : (T5 ++ txs txS ss).size ≤ 100000001000 := by have := hz5.out; rw [ByteArray.size_append]; omega
      clear hsz
      have k0 : wr.cell? ⟨w.heap.size, 2, none⟩ = some (.slice A2 fs.length c2) := by rw [cell_of_row _ _ _ _ _ _ hP.row]; rfl
      generalize hT6 : T5 ++ txs txS ss = T6 at *
      have hz6 := Lib.hid hz6
      have hT6 := Lib.hid hT6
      have hP := Lib.hid hP
      go_wp2_with fail
      clear k0
      go_loopw [42] (fun i wr => ∃ k : Nat, k ≤ fs.length ∧ i = .int .i64 k ∧ PrS w free (.slice A1 ss.length c1) (.slice A2 fs.length c2) (T6 ++ txs txF (fs.take k)) wr) (fun i _ => fs.length - (intOf i).toNat)
      case atStart => exact ⟨0, Nat.zero_le _, rfl, by rw [List.take_zero]; show PrS _ _ _ _ (T6 ++ ByteArray.empty) _; rw [ByteArray.append_empty]; exact hP.out⟩
      case round =>
        clear hP hlt hk
        obtain ⟨k, hk, rfl, hP⟩ := hrel
        by_cases hlt : k < fs.length
        · obtain ⟨c, hc⟩ : ∃ c, fs[k]? = some c := ⟨_, List.getElem?_eq_getElem hlt⟩
          obtain ⟨b, p, hA, hl1, hit⟩ := Q2.out k c hc
          subst hA
          have C1 := hit.on hP.bl hl1
          have hsz : (txs txF (fs.take k)).size ≤ 100000000000 := tak_size (fun t ht => txF_size (hg.out t ht)) n2
          have hsz := Lib.hid hsz
          have hgd := hg.out c (List.mem_of_getElem? hc)
          obtain ⟨id, x, y, a1, a2, a3, a4, a5, a6⟩ := c
          obtain ⟨hx, hy, ha, hl⟩ := parF hgd
          have htk := Lib.hid (takF hc)
          obtain ⟨q0, q1, q2, q3, q4, q5, q6, q7, q8⟩ := C1.nine
          clear C1 hit hl1 hgd hc
          have HL2 : ∀ (u : World) (g : Nat), g = u.heap.size → Calls Tryz.prog 30 #[.slice (some ⟨g, 0, none⟩) 5 5] (u.alloc (.cells #[.string (wFe5), .string (id), .string (itB x), .string (txP y), .string (txJ ⟨a1, a2, a3, a4, a5, a6⟩)] 9)) fun e w' => e = .returned (.string (jn [wFe5, id, itB x, txP y, txJ ⟨a1, a2, a3, a4, a5, a6⟩] ++ wLf)) ∧ Below u.heap.size u w' := fun u g hgz => by
            subst hgz
            exact (p26lin (xs := [wFe5, id, itB x, txP y, txJ ⟨a1, a2, a3, a4, a5, a6⟩]) (lit5 (wFe5) (id) (itB x) (txP y) (txJ ⟨a1, a2, a3, a4, a5, a6⟩) _) (by simp) (Nat.le_trans hl (by decide))).mono fun e w' hh => ⟨hh.1, below_on (al1 u _) hh.2⟩
          have HL2 := Lib.hid HL2
          have HC0 := Lib.hid (fun (u : World) (hu : T26 u) => p26ito hx u hu)
          have HC1 := Lib.hid (fun (u : World) (hu : T26 u) => p26pwd hy.1 hy.2 u)
          have HC2 := Lib.hid (fun (u : World) (hu : T26 u) => p26ant hu ha)
          generalize htl : jn [wFe5, id, itB x, txP y, txJ ⟨a1, a2, a3, a4, a5, a6⟩] ++ wLf = tl at *
          have hzl : tl.size ≤ 600001 := by rw [← htl, ByteArray.size_append]; have e : wLf.size = 1 := rfl; omega
          have hzl := Lib.hid hzl
          clear htl hl hx hy ha
          generalize itB x = tx at *
          generalize txP y = ty at *
          generalize txJ ⟨a1, a2, a3, a4, a5, a6⟩ = ta at *
          have hP0 := Lib.hid ((hP.on (al1 wr (.cells #[.string id, .int .i64 x, .int .i64 y, .int .i64 a1, .int .i64 a2, .int .i64 a3, .int .i64 a4, .int .i64 a5, .int .i64 a6] 43))).on (below_dn (Below.refl _ _) 1))
          have hq := hP.lt
          have S0 := Lib.hid ((show SB wr.heap.size 43 id x y a1 a2 a3 a4 a5 a6 (wr.alloc (.cells #[.string id, .int .i64 x, .int .i64 y, .int .i64 a1, .int .i64 a2, .int .i64 a3, .int .i64 a4, .int .i64 a5, .int .i64 a6] 43)) from ⟨heap_alloc_new _ _⟩).on (below_dn (Below.refl _ _) 1))
          clear hP
          go_wp2_with fail
          clear q0 q1 q2 q3 q4 q5 q6 q7 q8
          refine wp_region_held_drew (S := fun u => SB wr.heap.size 43 id x y a1 a2 a3 a4 a5 a6 u) (by kernel_rfl) S0.out (fun hHeld => ?_)
          refine wpAnyH_take (i := 0) (oi := { dst := some 46, op := _, type := _, pos := _, after := _, guard := _ }) (v := ?v2_0) rfl (by kernel_rfl) (by kernel_rfl) (by kernel_rfl) (fun _ _ _ h => h) (Or.inl ⟨by rfl, ?hy2_0⟩) hHeld ?_
          case hy2_0 => (intro w hSw; obtain ⟨s0, s1, s2, s3, s4, s5, s6, s7, s8⟩ := (SB.cells hSw); go_simp; try with_reducible rfl)
          simp only [Act.put, List.setIfInBounds_toArray, List.set_cons_zero, List.set_cons_succ]
          refine wpAnyH_take (i := 1) (oi := { dst := some 47, op := _, type := _, pos := _, after := _, guard := _ }) (v := ?v2_1) rfl (by kernel_rfl) (by kernel_rfl) (by kernel_rfl) (fun _ _ _ h => h) (Or.inl ⟨by rfl, ?hy2_1⟩) hHeld ?_
          case hy2_1 => (intro w hSw; obtain ⟨s0, s1, s2, s3, s4, s5, s6, s7, s8⟩ := (SB.cells hSw); go_simp; try with_reducible rfl)
          simp only [Act.put, List.setIfInBounds_toArray, List.set_cons_zero, List.set_cons_succ]
          refine wpAnyH_take (i := 2) (oi := { dst := some 48, op := _, type := _, pos := _, after := _, guard := _ }) (v := ?v2_2) rfl (by kernel_rfl) (by kernel_rfl) (by kernel_rfl) (fun _ _ _ h => h) (Or.inl ⟨by rfl, ?hy2_2⟩) hHeld ?_
          case hy2_2 => (intro w hSw; obtain ⟨s0, s1, s2, s3, s4, s5, s6, s7, s8⟩ := (SB.cells hSw); go_simp; try with_reducible rfl)
          simp only [Act.put, List.setIfInBounds_toArray, List.set_cons_zero, List.set_cons_succ]
          refine wpAnyH_take (i := 3) (oi := { dst := some 49, op := _, type := _, pos := _, after := _, guard := _ }) (v := ?v2_3) rfl (by kernel_rfl) (by kernel_rfl) (by kernel_rfl) (fun _ _ _ h => h) (Or.inl ⟨by rfl, ?hy2_3⟩) hHeld ?_
          case hy2_3 => (intro w hSw; obtain ⟨s0, s1, s2, s3, s4, s5, s6, s7, s8⟩ := (SB.cells hSw); go_simp; try with_reducible rfl)
          simp only [Act.put, List.setIfInBounds_toArray, List.set_cons_zero, List.set_cons_succ]
          refine wpAnyH_take (i := 5) (oi := { dst := some 51, op := _, type := _, pos := _, after := _, guard := _ }) (v := ?v2_5) rfl (by kernel_rfl) (by kernel_rfl) (by kernel_rfl) (fun _ _ _ h => h) (Or.inl ⟨by rfl, ?hy2_5⟩) hHeld ?_
          case hy2_5 => (intro w hSw; obtain ⟨s0, s1, s2, s3, s4, s5, s6, s7, s8⟩ := (SB.cells hSw); go_simp; try with_reducible rfl)
          simp only [Act.put, List.setIfInBounds_toArray, List.set_cons_zero, List.set_cons_succ]
          refine wpAnyH_take (i := 6) (oi := { dst := some 52, op := _, type := _, pos := _, after := _, guard := _ }) (v := ?v2_6) rfl (by kernel_rfl) (by kernel_rfl) (by kernel_rfl) (fun _ _ _ h => h) (Or.inl ⟨by rfl, ?hy2_6⟩) hHeld ?_
          case hy2_6 => (intro w hSw; obtain ⟨s0, s1, s2, s3, s4, s5, s6, s7, s8⟩ := (SB.cells hSw); go_simp; try with_reducible rfl)
          simp only [Act.put, List.setIfInBounds_toArray, List.set_cons_zero, List.set_cons_succ]
          refine wpAnyH_take (i := 8) (oi := { dst := some 54, op := _, type := _, pos := _, after := _, guard := _ }) (v := ?v2_8) rfl (by kernel_rfl) (by kernel_rfl) (by kernel_rfl) (fun _ _ _ h => h) (Or.inl ⟨by rfl, ?hy2_8⟩) hHeld ?_
          case hy2_8 => (intro w hSw; obtain ⟨s0, s1, s2, s3, s4, s5, s6, s7, s8⟩ := (SB.cells hSw); go_simp; try with_reducible rfl)
          simp only [Act.put, List.setIfInBounds_toArray, List.set_cons_zero, List.set_cons_succ]
          refine wpAnyH_take (i := 9) (oi := { dst := some 55, op := _, type := _, pos := _, after := _, guard := _ }) (v := ?v2_9) rfl (by kernel_rfl) (by kernel_rfl) (by kernel_rfl) (fun _ _ _ h => h) (Or.inl ⟨by rfl, ?hy2_9⟩) hHeld ?_
          case hy2_9 => (intro w hSw; obtain ⟨s0, s1, s2, s3, s4, s5, s6, s7, s8⟩ := (SB.cells hSw); go_simp; try with_reducible rfl)
          simp only [Act.put, List.setIfInBounds_toArray, List.set_cons_zero, List.set_cons_succ]
          refine wpAnyH_ready (rs := [4]) (by kernel_rfl) (by simp) ?_
          refine AllReadyH.cons (o := { dst := some 50, op := _, type := _, pos := _, after := _, guard := _ }) rfl (fun K hK => ?_) AllReadyH.nil
          go_simp
          go_at_call 31
          refine (HC0.out _ (hT.out.on hP0.out.bl)).mono ?_
          rintro ee0 u0 ⟨rfl, hb0⟩
          have pp0 := hP0.out.on hb0
          have ss0 := S0.out.on hb0
          clear hb0
          refine hK.out _ _ ss0 (fun hHeld => ?_)
          clear hK K
          refine wpAnyH_ready (rs := [7]) (by kernel_rfl) (by simp) ?_
          refine AllReadyH.cons (o := { dst := some 53, op := _, type := _, pos := _, after := _, guard := _ }) rfl (fun K hK => ?_) AllReadyH.nil
          go_simp
          go_at_call 33
          refine (HC1.out _ (hT.out.on pp0.bl)).mono ?_
          rintro ee1 u1 ⟨rfl, hb1⟩
          have pp1 := pp0.on hb1
          have ss1 := ss0.on hb1
          clear hb1
          refine hK.out _ _ ss1 (fun hHeld => ?_)
          clear hK K
          refine wpAnyH_ready (rs := [10]) (by kernel_rfl) (by simp) ?_
          refine AllReadyH.cons (o := { dst := some 56, op := _, type := _, pos := _, after := _, guard := _ }) rfl (fun K hK => ?_) AllReadyH.nil
          go_simp
          go_at_call 32
          refine (HC2.out _ (hT.out.on pp1.bl)).mono ?_
          rintro ee2 u2 ⟨rfl, hb2⟩
          have pp2 := pp1.on hb2
          have ss2 := ss1.on hb2
          clear hb2
          refine hK.out _ _ ss2 (fun hHeld => ?_)
          clear hK K
          refine wpAnyH_ready (rs := [11]) (by kernel_rfl) (by simp) ?_
          refine AllReadyH.cons (o := { dst := some 57, op := _, type := _, pos := _, after := _, guard := _ }) rfl (fun K hK => ?_) AllReadyH.nil
          go_simp
          refine hK.out _ _ (ss2.on (al1 _ _)) (fun hHeld => ?_)
          clear hK K
          refine wpAnyH_ready (rs := [12]) (by kernel_rfl) (by simp) ?_
          refine AllReadyH.cons (o := { dst := some 58, op := _, type := _, pos := _, after := _, guard := _ }) rfl (fun K hK => ?_) AllReadyH.nil
          go_simp
          go_at_call 30
          refine (HL2.out u2 _ rfl).mono ?_
          rintro eeL uL ⟨rfl, hbL⟩
          have ppL := pp2.on hbL
          have ssL := ss2.on hbL
          clear hbL
          refine hK.out _ _ ssL (fun hHeld => ?_)
          clear hK K
          refine wpAnyH_ready (rs := [13]) (by kernel_rfl) (by simp) ?_
          refine AllReadyH.cons (o := { dst := some 59, op := _, type := _, pos := _, after := _, guard := _ }) rfl (fun K hK => ?_) AllReadyH.nil
          go_simp
          go_at_call 29
          refine (HW.out _ _ _ ppL (by have := hsz.out; have := hz5.out; have := hzl.out; have := hz6.out; simp only [ByteArray.size_append]; omega)).mono ?_
          rintro eeW uW ⟨rfl, ppW, hoW⟩
          have ssW : SB wr.heap.size 43 id x y a1 a2 a3 a4 a5 a6 uW := ⟨oth_row hoW ssL.r hq (by decide)⟩
          clear hoW
          refine hK.out _ _ ssW (fun hHeld => ?_)
          clear hK K
          refine wpAnyH_done (by kernel_rfl) ?_ _
          go_wp2_with fail
          go_roundw
          case rel => exact ⟨k + 1, by omega, by go_num, by rw [htk.out, ← ByteArray.append_assoc]; exact ppW⟩
          case measure => simp [intOf]; omega
        · obtain rfl : k = fs.length := by omega
          rw [List.take_length] at hP
          have hsz : (txs txF fs).size ≤ 100000000000 := by have := tak_size (n := fs.length) (fun t ht => txF_size (hg.out t ht)) n2; rwa [List.take_length] at this
          have hz7 : (T6 ++ txs txF fs).size ≤ 200000001000 := by have := hz6.out; rw [ByteArray.size_append]; omega
          have hz7 := Lib.hid hz7
          have hP := Lib.hid hP
          clear hsz
          go_wp2_with fail
          refine (HL4.out _ _ (by simp)).mono ?_
          rintro e u6 ⟨rfl, hb6⟩
          have P6 := Lib.hid (hP.out.on hb6)
          clear hb6 hP
          go_wp2_with fail
          refine (HW.out _ _ _ P6.out (by have : wEnd.size = 4 := rfl; have := z4.out; have := hz7.out; omega)).mono ?_
          rintro e u7 ⟨rfl, P7, -⟩
          clear P6
          go_wp2_with fail
          refine (prs_string P7).mono ?_
          rintro e u8 ⟨rfl, hb8⟩
          go_wp2_with fail
          go_ret
          refine ⟨?_, hb8⟩
          show Ending.returned (Value.string (T6 ++ txs txF fs ++ wEnd)) = Ending.returned (Value.string (wCat ++ (wFre ++ (itB free ++ (wLf ++ (txs txS ss ++ (txs txF fs ++ wEnd)))))))
          rw [← hT6.out, hH.out, hti.out]
          simp only [ByteArray.append_assoc]
end Go.Proofs.YthmfhgehahpgbaaGreatDoor
