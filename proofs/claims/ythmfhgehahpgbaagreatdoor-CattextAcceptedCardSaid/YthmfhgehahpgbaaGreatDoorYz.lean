/- The reference: which catalogues are printable. -/
import Derived.Test.YthmfhgehahpgbaaGreatDoorYp
namespace Go.Proofs.YthmfhgehahpgbaaGreatDoor
open Go.RowKit

theorem r26in (y : Int) (w : World) : Calls Tryz.prog 27 #[.int .i64 y] w fun e w' => e = .returned (.bool (inT y)) ∧ w = w' := by
  cases h0 : decide (-9999999999 ≤ y)
  all_goals
    go_enter Tryz.func27, Tryz.ntmps27
    go_wp2
    go_ret
    exact ⟨ret_bool (by simp [inT, h0]), rfl⟩
theorem r26in_is {y : Int} {b : Bool} (h : inT y = b) (w : World) : Calls Tryz.prog 27 #[.int .i64 y] w fun e w' => e = .returned (.bool b) ∧ w = w' := h ▸ r26in y w
theorem r17id_is {s : ByteArray} {b : Bool} (h : idn s = b) (w : World) : Calls Tryz.prog 26 #[.string s] w fun e w' => e = .returned (.bool b) ∧ w = w' := h ▸ r17id_any s w
theorem six_row {q : Nat} {k m d o w c : Int} {T : TypeId} {u : World} (h : u.heap[q]? = some (.cells #[.int .i64 k, .int .i64 m, .int .i64 d, .int .i64 o, .int .i64 w, .int .i64 c] T (0, 0))) :
    u.cell? ⟨q, 0, none⟩ = some (.int .i64 k) ∧ u.cell? ⟨q, 1, none⟩ = some (.int .i64 m) ∧ u.cell? ⟨q, 2, none⟩ = some (.int .i64 d) ∧ u.cell? ⟨q, 3, none⟩ = some (.int .i64 o) ∧ u.cell? ⟨q, 4, none⟩ = some (.int .i64 w) ∧ u.cell? ⟨q, 5, none⟩ = some (.int .i64 c) := by
  refine ⟨?_, ?_, ?_, ?_, ?_, ?_⟩ <;> (rw [cell_of_row _ _ _ _ _ _ h]; rfl)
set_option maxRecDepth 100000 in
theorem r26pa_m {k m d o x c : Int} (w : World) (hm : inT m = false) : Calls Tryz.prog 28 #[.agg #[.int .i64 k, .int .i64 m, .int .i64 d, .int .i64 o, .int .i64 x, .int .i64 c]] w fun e w' => e = .returned (.bool (false)) ∧ Below w.heap.size w w' := by
  obtain ⟨s0, s1, s2, s3, s4, s5⟩ := six_row (heap_alloc_new w (.cells #[.int .i64 k, .int .i64 m, .int .i64 d, .int .i64 o, .int .i64 x, .int .i64 c] 39))
  have Hm := Lib.hid (fun u => r26in_is hm u)
  skip
  all_goals
    go_enter Tryz.func28, Tryz.ntmps28
    go_wp2_with fail
    refine (Hm.out _).mono ?_
    rintro e u ⟨rfl, rfl⟩
    go_wp2_with fail
    go_ret
    exact ⟨ret_bool (by simp [*]), al1 w _⟩
set_option maxRecDepth 100000 in
theorem r26pa_d {k m d o x c : Int} (w : World) (hm : inT m = true) (hd : inT d = false) : Calls Tryz.prog 28 #[.agg #[.int .i64 k, .int .i64 m, .int .i64 d, .int .i64 o, .int .i64 x, .int .i64 c]] w fun e w' => e = .returned (.bool (false)) ∧ Below w.heap.size w w' := by
  obtain ⟨s0, s1, s2, s3, s4, s5⟩ := six_row (heap_alloc_new w (.cells #[.int .i64 k, .int .i64 m, .int .i64 d, .int .i64 o, .int .i64 x, .int .i64 c] 39))
  have Hm := Lib.hid (fun u => r26in_is hm u)
  have Hd := Lib.hid (fun u => r26in_is hd u)
  skip
  all_goals
    go_enter Tryz.func28, Tryz.ntmps28
    go_wp2_with fail
    refine (Hm.out _).mono ?_
    rintro e u ⟨rfl, rfl⟩
    go_wp2_with fail
    refine (Hd.out _).mono ?_
    rintro e u ⟨rfl, rfl⟩
    go_wp2_with fail
    go_ret
    exact ⟨ret_bool (by simp [*]), al1 w _⟩
set_option maxRecDepth 100000 in
theorem r26pa_o {k m d o x c : Int} (w : World) (hm : inT m = true) (hd : inT d = true) (ho : inT o = false) : Calls Tryz.prog 28 #[.agg #[.int .i64 k, .int .i64 m, .int .i64 d, .int .i64 o, .int .i64 x, .int .i64 c]] w fun e w' => e = .returned (.bool (false)) ∧ Below w.heap.size w w' := by
  obtain ⟨s0, s1, s2, s3, s4, s5⟩ := six_row (heap_alloc_new w (.cells #[.int .i64 k, .int .i64 m, .int .i64 d, .int .i64 o, .int .i64 x, .int .i64 c] 39))
  have Hm := Lib.hid (fun u => r26in_is hm u)
  have Hd := Lib.hid (fun u => r26in_is hd u)
  have Ho := Lib.hid (fun u => r26in_is ho u)
  skip
  all_goals
    go_enter Tryz.func28, Tryz.ntmps28
    go_wp2_with fail
    refine (Hm.out _).mono ?_
    rintro e u ⟨rfl, rfl⟩
    go_wp2_with fail
    refine (Hd.out _).mono ?_
    rintro e u ⟨rfl, rfl⟩
    go_wp2_with fail
    refine (Ho.out _).mono ?_
    rintro e u ⟨rfl, rfl⟩
    go_wp2_with fail
    go_ret
    exact ⟨ret_bool (by simp [*]), al1 w _⟩
set_option maxRecDepth 100000 in
theorem r26pa_c {k m d o x c : Int} (w : World) (hm : inT m = true) (hd : inT d = true) (ho : inT o = true) (hc : inT c = false) : Calls Tryz.prog 28 #[.agg #[.int .i64 k, .int .i64 m, .int .i64 d, .int .i64 o, .int .i64 x, .int .i64 c]] w fun e w' => e = .returned (.bool (false)) ∧ Below w.heap.size w w' := by
  obtain ⟨s0, s1, s2, s3, s4, s5⟩ := six_row (heap_alloc_new w (.cells #[.int .i64 k, .int .i64 m, .int .i64 d, .int .i64 o, .int .i64 x, .int .i64 c] 39))
  have Hm := Lib.hid (fun u => r26in_is hm u)
  have Hd := Lib.hid (fun u => r26in_is hd u)
  have Ho := Lib.hid (fun u => r26in_is ho u)
  have Hc := Lib.hid (fun u => r26in_is hc u)
  skip
  all_goals
    go_enter Tryz.func28, Tryz.ntmps28
    go_wp2_with fail
    refine (Hm.out _).mono ?_
    rintro e u ⟨rfl, rfl⟩
    go_wp2_with fail
    refine (Hd.out _).mono ?_
    rintro e u ⟨rfl, rfl⟩
    go_wp2_with fail
    refine (Ho.out _).mono ?_
    rintro e u ⟨rfl, rfl⟩
    go_wp2_with fail
    refine (Hc.out _).mono ?_
    rintro e u ⟨rfl, rfl⟩
    go_wp2_with fail
    go_ret
    exact ⟨ret_bool (by simp [*]), al1 w _⟩
set_option maxRecDepth 100000 in
theorem r26pa_1 {k m d o x c : Int} (w : World) (hm : inT m = true) (hd : inT d = true) (ho : inT o = true) (hc : inT c = true) (hk : k = 1) : Calls Tryz.prog 28 #[.agg #[.int .i64 k, .int .i64 m, .int .i64 d, .int .i64 o, .int .i64 x, .int .i64 c]] w fun e w' => e = .returned (.bool ((o == 0) && ((x == 0) && (c == 0)))) ∧ Below w.heap.size w w' := by
  obtain ⟨s0, s1, s2, s3, s4, s5⟩ := six_row (heap_alloc_new w (.cells #[.int .i64 k, .int .i64 m, .int .i64 d, .int .i64 o, .int .i64 x, .int .i64 c] 39))
  have Hm := Lib.hid (fun u => r26in_is hm u)
  have Hd := Lib.hid (fun u => r26in_is hd u)
  have Ho := Lib.hid (fun u => r26in_is ho u)
  have Hc := Lib.hid (fun u => r26in_is hc u)
  subst hk
  cases g1 : (o == 0) <;> cases g2 : (x == 0)
  all_goals
    go_enter Tryz.func28, Tryz.ntmps28
    go_wp2_with fail
    refine (Hm.out _).mono ?_
    rintro e u ⟨rfl, rfl⟩
    go_wp2_with fail
    refine (Hd.out _).mono ?_
    rintro e u ⟨rfl, rfl⟩
    go_wp2_with fail
    refine (Ho.out _).mono ?_
    rintro e u ⟨rfl, rfl⟩
    go_wp2_with fail
    refine (Hc.out _).mono ?_
    rintro e u ⟨rfl, rfl⟩
    go_wp2_with fail
    go_ret
    exact ⟨ret_bool (by simp [*]), al1 w _⟩
set_option maxRecDepth 100000 in
theorem r26pa_2 {k m d o x c : Int} (w : World) (hm : inT m = true) (hd : inT d = true) (ho : inT o = true) (hc : inT c = true) (hk : k = 2) : Calls Tryz.prog 28 #[.agg #[.int .i64 k, .int .i64 m, .int .i64 d, .int .i64 o, .int .i64 x, .int .i64 c]] w fun e w' => e = .returned (.bool ((m == 0) && ((d == 0) && ((x == 0) && (c == 0))))) ∧ Below w.heap.size w w' := by
  obtain ⟨s0, s1, s2, s3, s4, s5⟩ := six_row (heap_alloc_new w (.cells #[.int .i64 k, .int .i64 m, .int .i64 d, .int .i64 o, .int .i64 x, .int .i64 c] 39))
  have Hm := Lib.hid (fun u => r26in_is hm u)
  have Hd := Lib.hid (fun u => r26in_is hd u)
  have Ho := Lib.hid (fun u => r26in_is ho u)
  have Hc := Lib.hid (fun u => r26in_is hc u)
  subst hk
  cases g1 : (m == 0) <;> cases g2 : (d == 0) <;> cases g3 : (x == 0)
  all_goals
    go_enter Tryz.func28, Tryz.ntmps28
    go_wp2_with fail
    refine (Hm.out _).mono ?_
    rintro e u ⟨rfl, rfl⟩
    go_wp2_with fail
    refine (Hd.out _).mono ?_
    rintro e u ⟨rfl, rfl⟩
    go_wp2_with fail
    refine (Ho.out _).mono ?_
    rintro e u ⟨rfl, rfl⟩
    go_wp2_with fail
    refine (Hc.out _).mono ?_
    rintro e u ⟨rfl, rfl⟩
    go_wp2_with fail
    go_ret
    exact ⟨ret_bool (by simp [*]), al1 w _⟩
set_option maxRecDepth 100000 in
theorem r26pa_3 {k m d o x c : Int} (w : World) (hm : inT m = true) (hd : inT d = true) (ho : inT o = true) (hc : inT c = true) (hk : k = 3) : Calls Tryz.prog 28 #[.agg #[.int .i64 k, .int .i64 m, .int .i64 d, .int .i64 o, .int .i64 x, .int .i64 c]] w fun e w' => e = .returned (.bool ((o == 0) && (decide (0 ≤ x) && decide (x ≤ 6)))) ∧ Below w.heap.size w w' := by
  obtain ⟨s0, s1, s2, s3, s4, s5⟩ := six_row (heap_alloc_new w (.cells #[.int .i64 k, .int .i64 m, .int .i64 d, .int .i64 o, .int .i64 x, .int .i64 c] 39))
  have Hm := Lib.hid (fun u => r26in_is hm u)
  have Hd := Lib.hid (fun u => r26in_is hd u)
  have Ho := Lib.hid (fun u => r26in_is ho u)
  have Hc := Lib.hid (fun u => r26in_is hc u)
  subst hk
  cases g1 : (o == 0) <;> cases g2 : decide (0 ≤ x)
  all_goals
    go_enter Tryz.func28, Tryz.ntmps28
    go_wp2_with fail
    refine (Hm.out _).mono ?_
    rintro e u ⟨rfl, rfl⟩
    go_wp2_with fail
    refine (Hd.out _).mono ?_
    rintro e u ⟨rfl, rfl⟩
    go_wp2_with fail
    refine (Ho.out _).mono ?_
    rintro e u ⟨rfl, rfl⟩
    go_wp2_with fail
    refine (Hc.out _).mono ?_
    rintro e u ⟨rfl, rfl⟩
    go_wp2_with fail
    go_ret
    exact ⟨ret_bool (by simp [*]), al1 w _⟩
set_option maxRecDepth 100000 in
theorem r26pa_n {k m d o x c : Int} (w : World) (hm : inT m = true) (hd : inT d = true) (ho : inT o = true) (hc : inT c = true) (kk1 : k ≠ 1) (kk2 : k ≠ 2) (kk3 : k ≠ 3) : Calls Tryz.prog 28 #[.agg #[.int .i64 k, .int .i64 m, .int .i64 d, .int .i64 o, .int .i64 x, .int .i64 c]] w fun e w' => e = .returned (.bool (false)) ∧ Below w.heap.size w w' := by
  obtain ⟨s0, s1, s2, s3, s4, s5⟩ := six_row (heap_alloc_new w (.cells #[.int .i64 k, .int .i64 m, .int .i64 d, .int .i64 o, .int .i64 x, .int .i64 c] 39))
  have Hm := Lib.hid (fun u => r26in_is hm u)
  have Hd := Lib.hid (fun u => r26in_is hd u)
  have Ho := Lib.hid (fun u => r26in_is ho u)
  have Hc := Lib.hid (fun u => r26in_is hc u)
  have ek1 : (k == 1) = false := beq_eq_false_iff_ne.2 kk1
  have ek2 : (k == 2) = false := beq_eq_false_iff_ne.2 kk2
  have ek3 : (k == 3) = false := beq_eq_false_iff_ne.2 kk3
  all_goals
    go_enter Tryz.func28, Tryz.ntmps28
    go_wp2_with fail
    refine (Hm.out _).mono ?_
    rintro e u ⟨rfl, rfl⟩
    go_wp2_with fail
    refine (Hd.out _).mono ?_
    rintro e u ⟨rfl, rfl⟩
    go_wp2_with fail
    refine (Ho.out _).mono ?_
    rintro e u ⟨rfl, rfl⟩
    go_wp2_with fail
    refine (Hc.out _).mono ?_
    rintro e u ⟨rfl, rfl⟩
    go_wp2_with fail
    go_ret
    exact ⟨ret_bool (by simp [*]), al1 w _⟩
theorem r26pa (a : Anc) (w : World) : Calls Tryz.prog 28 #[anc26 a] w fun e w' => e = .returned (.bool (ancB a)) ∧ Below w.heap.size w w' := by
  obtain ⟨k, m, d, o, x, c⟩ := a
  show Calls Tryz.prog 28 #[.agg #[.int .i64 k, .int .i64 m, .int .i64 d, .int .i64 o, .int .i64 x, .int .i64 c]] w _
  cases hm : inT m
  · rw [show ancB ⟨k, m, d, o, x, c⟩ = false by simp [ancB, hm]]; exact r26pa_m w hm
  cases hd : inT d
  · rw [show ancB ⟨k, m, d, o, x, c⟩ = false by simp [ancB, hm, hd]]; exact r26pa_d w hm hd
  cases ho : inT o
  · rw [show ancB ⟨k, m, d, o, x, c⟩ = false by simp [ancB, hm, hd, ho]]; exact r26pa_o w hm hd ho
  cases hc : inT c
  · rw [show ancB ⟨k, m, d, o, x, c⟩ = false by simp [ancB, hm, hd, ho, hc]]; exact r26pa_c w hm hd ho hc
  by_cases q1 : k = 1
  · rw [show ancB ⟨k, m, d, o, x, c⟩ = ((o == 0) && ((x == 0) && (c == 0))) by simp only [ancB, hm, hd, ho, hc, ancK, if_pos q1, Bool.true_and]; rfl]; exact r26pa_1 w hm hd ho hc q1
  by_cases q2 : k = 2
  · rw [show ancB ⟨k, m, d, o, x, c⟩ = ((m == 0) && ((d == 0) && ((x == 0) && (c == 0)))) by simp only [ancB, hm, hd, ho, hc, ancK, if_neg q1, if_pos q2, Bool.true_and]; rfl]; exact r26pa_2 w hm hd ho hc q2
  by_cases q3 : k = 3
  · rw [show ancB ⟨k, m, d, o, x, c⟩ = ((o == 0) && (decide (0 ≤ x) && decide (x ≤ 6))) by simp only [ancB, hm, hd, ho, hc, ancK, if_neg q1, if_neg q2, if_pos q3, Bool.true_and]; rfl]; exact r26pa_3 w hm hd ho hc q3
  · rw [show ancB ⟨k, m, d, o, x, c⟩ = false by simp only [ancB, hm, hd, ho, hc, ancK, if_neg q1, if_neg q2, if_neg q3, Bool.true_and]]; exact r26pa_n w hm hd ho hc q1 q2 q3
theorem r26pa_is {k m d o x c : Int} {b : Bool} (h : ancB ⟨k, m, d, o, x, c⟩ = b) (w : World) : Calls Tryz.prog 28 #[.agg #[.int .i64 k, .int .i64 m, .int .i64 d, .int .i64 o, .int .i64 x, .int .i64 c]] w fun e w' => e = .returned (.bool b) ∧ Below w.heap.size w w' := h ▸ r26pa ⟨k, m, d, o, x, c⟩ w
theorem all_take {f : Itm → Bool} : ∀ (l : List Itm) (k : Nat) (t : Itm), l[k]? = some t → (l.take (k + 1)).all f = ((l.take k).all f && f t)
  | [], k, t, h => by simp at h
  | x :: l, 0, t, h => by
    simp at h; subst h
    simp
  | x :: l, k + 1, t, h => by
    have := all_take (f := f) l k t (by simpa using h)
    rw [List.take_succ_cons, List.take_succ_cons, List.all_cons, List.all_cons, this, Bool.and_assoc]
theorem all_bad {f : Itm → Bool} {l : List Itm} {k : Nat} {t : Itm} (h : l[k]? = some t) (hb : f t = false) : l.all f = false := by
  cases e : l.all f
  · rfl
  · have := List.all_eq_true.1 e t (List.mem_of_getElem? h)
    rw [hb] at this; cases this
set_option maxRecDepth 100000 in
set_option maxHeartbeats 1000000 in
theorem r26prn {c : Cat} {v1 v2 : Value} {W : World} (h1 : SlAt W v1 c.ss) (h2 : SlAt W v2 c.fs) (n1 : c.ss.length ≤ 100000) (n2 : c.fs.length ≤ 100000) :
    Calls Tryz.prog 13 #[.agg #[.int .i64 c.free, v1, v2]] W fun e w' => e = .returned (.bool (okCt c)) ∧ Below W.heap.size W w' := by
  obtain ⟨free, ss, fs⟩ := c
  simp only at h1 h2 n1 n2 ⊢
  obtain ⟨A1, c1, rfl, _, _, a1⟩ := h1
  obtain ⟨A2, c2, rfl, _, _, a2⟩ := h2
  have Q1 := Lib.hid a1
  have Q2 := Lib.hid a2
  clear a1 a2
  have B0 := Lib.hid ((Below.refl W.heap.size W).alloc (Nat.le_refl _) (catO free (.slice A1 ss.length c1) (.slice A2 fs.length c2)))
  have R0 := Lib.hid (heap_alloc_new W (catO free (.slice A1 ss.length c1) (.slice A2 fs.length c2)))
  go_enter Tryz.func13, Tryz.ntmps13
  go_wp2_with fail
  generalize hW1 : W.alloc (catO free (.slice A1 ss.length c1) (.slice A2 fs.length c2)) = Wz at *
  clear hW1
  go_loopw [3] (fun i wr => ∃ k : Nat, k ≤ ss.length ∧ i = .int .i64 k ∧ Below Wz.heap.size Wz wr ∧ (ss.take k).all okS = true) (fun i _ => ss.length - (intOf i).toNat)
  case atStart => exact ⟨0, Nat.zero_le _, rfl, Below.refl _ _, by simp⟩
  case round =>
    obtain ⟨k, hk, rfl, hb, hall⟩ := hrel
    have HB := Lib.hid (below_on B0.out hb)
    have HC := Lib.hid hb
    obtain ⟨r0, r1, r2, g0, g1, g2, rz⟩ := row3 (row_on R0.out hb)
    by_cases hlt : k < ss.length
    · obtain ⟨c, hc⟩ : ∃ c, ss[k]? = some c := ⟨_, List.getElem?_eq_getElem hlt⟩
      obtain ⟨b, p, hA, hl1, hit⟩ := Q1.out k c hc
      subst hA
      have C1 := hit.on HB.out hl1
      have HT := Lib.hid (all_take (f := okS) ss k c hc)
      have HX := Lib.hid (fun h => all_bad (f := okS) hc h)
      clear hit hc hb hl1
      obtain ⟨id, x, y, a1, a2, a3, a4, a5, a6⟩ := c
      obtain ⟨q0, q1, q2, q3, q4, q5, q6, q7, q8⟩ := C1.nine
      obtain ⟨t0, t1, t2, t3, t4, t5, t6, t7, t8⟩ := nine_row (heap_alloc_new wr (.cells #[.string id, .int .i64 x, .int .i64 y, .int .i64 a1, .int .i64 a2, .int .i64 a3, .int .i64 a4, .int .i64 a5, .int .i64 a6] 41))
      clear C1
      have HE := Lib.hid (below_on HC.out (al1 wr (.cells #[.string id, .int .i64 x, .int .i64 y, .int .i64 a1, .int .i64 a2, .int .i64 a3, .int .i64 a4, .int .i64 a5, .int .i64 a6] 41)))
      cases hi : idn id
      · have hbad : okS ⟨id, x, y, a1, a2, a3, a4, a5, a6⟩ = false := by unfold okS; show (idn id && (inT x && _)) = false; simp [hi, Itm.anc]
        have Hi := Lib.hid (fun u => r17id_is hi u)
        have HY := Lib.hid (HX.out hbad)
        clear hbad hi
        go_wp2_with fail
        refine (Hi.out _).mono ?_
        rintro e u ⟨rfl, rfl⟩
        go_wp2_with fail
        go_ret
        exact ⟨ret_bool (by simp [okCt, HY.out]), B0.out.trans (Below.mono (by exact HE.out) B0.out.size)⟩
      cases hx : inT x
      · have hbad : okS ⟨id, x, y, a1, a2, a3, a4, a5, a6⟩ = false := by unfold okS; show (idn id && (inT x && _)) = false; simp [hi, hx, Itm.anc]
        have Hi := Lib.hid (fun u => r17id_is hi u)
        have Hx := Lib.hid (fun u => r26in_is hx u)
        have HY := Lib.hid (HX.out hbad)
        clear hbad hi hx
        go_wp2_with fail
        refine (Hi.out _).mono ?_
        rintro e u ⟨rfl, rfl⟩
        go_wp2_with fail
        refine (Hx.out _).mono ?_
        rintro e u ⟨rfl, rfl⟩
        go_wp2_with fail
        go_ret
        exact ⟨ret_bool (by simp [okCt, HY.out]), B0.out.trans (Below.mono (by exact HE.out) B0.out.size)⟩
      cases hy : inT y
      · have hbad : okS ⟨id, x, y, a1, a2, a3, a4, a5, a6⟩ = false := by unfold okS; show (idn id && (inT x && _)) = false; simp [hi, hx, hy, Itm.anc]
        have Hi := Lib.hid (fun u => r17id_is hi u)
        have Hx := Lib.hid (fun u => r26in_is hx u)
        have Hy := Lib.hid (fun u => r26in_is hy u)
        have HY := Lib.hid (HX.out hbad)
        clear hbad hi hx hy
        go_wp2_with fail
        refine (Hi.out _).mono ?_
        rintro e u ⟨rfl, rfl⟩
        go_wp2_with fail
        refine (Hx.out _).mono ?_
        rintro e u ⟨rfl, rfl⟩
        go_wp2_with fail
        refine (Hy.out _).mono ?_
        rintro e u ⟨rfl, rfl⟩
        go_wp2_with fail
        go_ret
        exact ⟨ret_bool (by simp [okCt, HY.out]), B0.out.trans (Below.mono (by exact HE.out) B0.out.size)⟩
      cases ha : ancB ⟨a1, a2, a3, a4, a5, a6⟩
      · have hbad : okS ⟨id, x, y, a1, a2, a3, a4, a5, a6⟩ = false := by unfold okS; show (idn id && (inT x && _)) = false; simp [hi, hx, hy, ha, Itm.anc]
        have Hi := Lib.hid (fun u => r17id_is hi u)
        have Hx := Lib.hid (fun u => r26in_is hx u)
        have Hy := Lib.hid (fun u => r26in_is hy u)
        have Ha := Lib.hid (fun u => r26pa_is ha u)
        have HY := Lib.hid (HX.out hbad)
        clear hbad hi hx hy ha
        go_wp2_with fail
        refine (Hi.out _).mono ?_
        rintro e u ⟨rfl, rfl⟩
        go_wp2_with fail
        refine (Hx.out _).mono ?_
        rintro e u ⟨rfl, rfl⟩
        go_wp2_with fail
        refine (Hy.out _).mono ?_
        rintro e u ⟨rfl, rfl⟩
        go_wp2_with fail
        refine (Ha.out _).mono ?_
        rintro e ua ⟨rfl, hba⟩
        go_wp2_with fail
        go_ret
        exact ⟨ret_bool (by simp [okCt, HY.out]), B0.out.trans (Below.mono (by exact below_on HE.out hba) B0.out.size)⟩
      have hgood : okS ⟨id, x, y, a1, a2, a3, a4, a5, a6⟩ = true := by unfold okS; show (idn id && (inT x && _)) = true; simp [hi, hx, hy, ha, Itm.anc]
      have Hi := Lib.hid (fun u => r17id_is hi u)
      have Hx := Lib.hid (fun u => r26in_is hx u)
      have Hy := Lib.hid (fun u => r26in_is hy u)
      have Ha := Lib.hid (fun u => r26pa_is ha u)
      have HY := Lib.hid (show (ss.take (k + 1)).all okS = true by rw [HT.out, hall, hgood]; rfl)
      clear hgood hi hx hy ha
      go_wp2_with fail
      refine (Hi.out _).mono ?_
      rintro e u ⟨rfl, rfl⟩
      go_wp2_with fail
      refine (Hx.out _).mono ?_
      rintro e u ⟨rfl, rfl⟩
      go_wp2_with fail
      refine (Hy.out _).mono ?_
      rintro e u ⟨rfl, rfl⟩
      go_wp2_with fail
      refine (Ha.out _).mono ?_
      rintro e ua ⟨rfl, hba⟩
      go_wp2_with fail
      go_roundw
      case rel => exact ⟨k + 1, by omega, by go_num, below_on HE.out hba, HY.out⟩
      case measure => simp [intOf]; omega
    · obtain rfl : k = ss.length := by omega
      have HD := Lib.hid hb
      rw [List.take_length] at hall
      have HAS := Lib.hid hall
      clear hb hall
      go_wp2_with fail
      clear r0 r1 r2 g0 g1 g2 rz HB HC
      go_loopw [5] (fun i wr => ∃ k : Nat, k ≤ fs.length ∧ i = .int .i64 k ∧ Below Wz.heap.size Wz wr ∧ (fs.take k).all okF = true) (fun i _ => fs.length - (intOf i).toNat)
      case atStart => exact ⟨0, Nat.zero_le _, rfl, HD.out, by simp⟩
      case round =>
        obtain ⟨k, hk, rfl, hb, hall⟩ := hrel
        have HB := Lib.hid (below_on B0.out hb)
        have HC := Lib.hid hb
        obtain ⟨r0, r1, r2, g0, g1, g2, rz⟩ := row3 (row_on R0.out hb)
        by_cases hlt : k < fs.length
        · obtain ⟨c, hc⟩ : ∃ c, fs[k]? = some c := ⟨_, List.getElem?_eq_getElem hlt⟩
          obtain ⟨b, p, hA, hl1, hit⟩ := Q2.out k c hc
          subst hA
          have C1 := hit.on HB.out hl1
          have HT := Lib.hid (all_take (f := okF) fs k c hc)
          have HX := Lib.hid (fun h => all_bad (f := okF) hc h)
          clear hit hc hb hl1
          obtain ⟨id, x, y, a1, a2, a3, a4, a5, a6⟩ := c
          obtain ⟨q0, q1, q2, q3, q4, q5, q6, q7, q8⟩ := C1.nine
          obtain ⟨t0, t1, t2, t3, t4, t5, t6, t7, t8⟩ := nine_row (heap_alloc_new wr (.cells #[.string id, .int .i64 x, .int .i64 y, .int .i64 a1, .int .i64 a2, .int .i64 a3, .int .i64 a4, .int .i64 a5, .int .i64 a6] 43))
          clear C1
          have HE := Lib.hid (below_on HC.out (al1 wr (.cells #[.string id, .int .i64 x, .int .i64 y, .int .i64 a1, .int .i64 a2, .int .i64 a3, .int .i64 a4, .int .i64 a5, .int .i64 a6] 43)))
          cases hi : idn id
          · have hbad : okF ⟨id, x, y, a1, a2, a3, a4, a5, a6⟩ = false := by unfold okF; show (idn id && (inT x && _)) = false; simp [hi, Itm.anc]
            have Hi := Lib.hid (fun u => r17id_is hi u)
            have HY := Lib.hid (HX.out hbad)
            clear hbad hi
            go_wp2_with fail
            refine (Hi.out _).mono ?_
            rintro e u ⟨rfl, rfl⟩
            go_wp2_with fail
            go_ret
            exact ⟨ret_bool (by simp [okCt, HY.out]), B0.out.trans (Below.mono (by exact HE.out) B0.out.size)⟩
          cases hx : inT x
          · have hbad : okF ⟨id, x, y, a1, a2, a3, a4, a5, a6⟩ = false := by unfold okF; show (idn id && (inT x && _)) = false; simp [hi, hx, Itm.anc]
            have Hi := Lib.hid (fun u => r17id_is hi u)
            have Hx := Lib.hid (fun u => r26in_is hx u)
            have HY := Lib.hid (HX.out hbad)
            clear hbad hi hx
            go_wp2_with fail
            refine (Hi.out _).mono ?_
            rintro e u ⟨rfl, rfl⟩
            go_wp2_with fail
            refine (Hx.out _).mono ?_
            rintro e u ⟨rfl, rfl⟩
            go_wp2_with fail
            go_ret
            exact ⟨ret_bool (by simp [okCt, HY.out]), B0.out.trans (Below.mono (by exact HE.out) B0.out.size)⟩
          cases hy1 : decide (1 ≤ y)
          · have hbad : okF ⟨id, x, y, a1, a2, a3, a4, a5, a6⟩ = false := by unfold okF; show (idn id && (inT x && _)) = false; simp [hi, hx, hy1, Itm.anc]
            have hcmp : y < 1 := by have := of_decide_eq_false hy1; omega
            have Hi := Lib.hid (fun u => r17id_is hi u)
            have Hx := Lib.hid (fun u => r26in_is hx u)
            have HY := Lib.hid (HX.out hbad)
            clear hbad hi hx hy1
            go_wp2_with fail
            refine (Hi.out _).mono ?_
            rintro e u ⟨rfl, rfl⟩
            go_wp2_with fail
            refine (Hx.out _).mono ?_
            rintro e u ⟨rfl, rfl⟩
            go_wp2_with fail
            go_ret
            exact ⟨ret_bool (by simp [okCt, HY.out]), B0.out.trans (Below.mono (by exact HE.out) B0.out.size)⟩
          cases hy3 : decide (y ≤ 3)
          · have hbad : okF ⟨id, x, y, a1, a2, a3, a4, a5, a6⟩ = false := by unfold okF; show (idn id && (inT x && _)) = false; simp [hi, hx, hy1, hy3, Itm.anc]
            have hcmp : 3 < y := by have := of_decide_eq_false hy3; omega
            have hcmp1 : ¬ y < 1 := by have := of_decide_eq_true hy1; omega
            have Hi := Lib.hid (fun u => r17id_is hi u)
            have Hx := Lib.hid (fun u => r26in_is hx u)
            have HY := Lib.hid (HX.out hbad)
            clear hbad hi hx hy1 hy3
            go_wp2_with fail
            refine (Hi.out _).mono ?_
            rintro e u ⟨rfl, rfl⟩
            go_wp2_with fail
            refine (Hx.out _).mono ?_
            rintro e u ⟨rfl, rfl⟩
            go_wp2_with fail
            go_ret
            exact ⟨ret_bool (by simp [okCt, HY.out]), B0.out.trans (Below.mono (by exact HE.out) B0.out.size)⟩
          cases ha : ancB ⟨a1, a2, a3, a4, a5, a6⟩
          · have hbad : okF ⟨id, x, y, a1, a2, a3, a4, a5, a6⟩ = false := by unfold okF; show (idn id && (inT x && _)) = false; simp [hi, hx, hy1, hy3, ha, Itm.anc]
            have hcmp : ¬ 3 < y := by have := of_decide_eq_true hy3; omega
            have hcmp1 : ¬ y < 1 := by have := of_decide_eq_true hy1; omega
            have Hi := Lib.hid (fun u => r17id_is hi u)
            have Hx := Lib.hid (fun u => r26in_is hx u)
            have Ha := Lib.hid (fun u => r26pa_is ha u)
            have HY := Lib.hid (HX.out hbad)
            clear hbad hi hx hy1 hy3 ha
            go_wp2_with fail
            refine (Hi.out _).mono ?_
            rintro e u ⟨rfl, rfl⟩
            go_wp2_with fail
            refine (Hx.out _).mono ?_
            rintro e u ⟨rfl, rfl⟩
            go_wp2_with fail
            refine (Ha.out _).mono ?_
            rintro e ua ⟨rfl, hba⟩
            go_wp2_with fail
            go_ret
            exact ⟨ret_bool (by simp [okCt, HY.out]), B0.out.trans (Below.mono (by exact below_on HE.out hba) B0.out.size)⟩
          have hcmp : ¬ 3 < y := by have := of_decide_eq_true hy3; omega
          have hcmp1 : ¬ y < 1 := by have := of_decide_eq_true hy1; omega
          have hgood : okF ⟨id, x, y, a1, a2, a3, a4, a5, a6⟩ = true := by unfold okF; show (idn id && (inT x && _)) = true; simp [hi, hx, hy1, hy3, ha, Itm.anc]
          have Hi := Lib.hid (fun u => r17id_is hi u)
          have Hx := Lib.hid (fun u => r26in_is hx u)
          have Ha := Lib.hid (fun u => r26pa_is ha u)
          have HY := Lib.hid (show (fs.take (k + 1)).all okF = true by rw [HT.out, hall, hgood]; rfl)
          clear hgood hi hx hy1 hy3 ha
          go_wp2_with fail
          refine (Hi.out _).mono ?_
          rintro e u ⟨rfl, rfl⟩
          go_wp2_with fail
          refine (Hx.out _).mono ?_
          rintro e u ⟨rfl, rfl⟩
          go_wp2_with fail
          refine (Ha.out _).mono ?_
          rintro e ua ⟨rfl, hba⟩
          go_wp2_with fail
          go_roundw
          case rel => exact ⟨k + 1, by omega, by go_num, below_on HE.out hba, HY.out⟩
          case measure => simp [intOf]; omega
        · obtain rfl : k = fs.length := by omega
          have HD := Lib.hid hb
          rw [List.take_length] at hall
          have HAF := Lib.hid hall
          clear hb hall
          go_wp2_with (refine (r26in _ _).mono ?_; rintro e u ⟨rfl, rfl⟩)
          go_ret
          exact ⟨ret_bool (by simp [okCt, HAS.out, HAF.out]), HB.out⟩
end Go.Proofs.YthmfhgehahpgbaaGreatDoor
