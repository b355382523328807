/- Package ordotext: a list of entries; calendar. -/
import Derived.Test.YtkhicgafhbecfaaGreatDoorEn
namespace Go.Proofs.YtkhicgafhbecfaaGreatDoor
open Go.RowKit

section
variable {P : Program} {ops : Array Oper} {Q : Exit → Act → World → Prop} {md : Region.Mode} {S : World → Prop} {u : Nat}
/-- Two may come up. -/
theorem till_two {i j : Nat} {oi oj : Oper} {n : Nat} {l : Array Bool} {a : Act} {w : World} (hr : Region.ready md ops l = [i, j]) (hi : ops[i]? = some oi) (hj : ops[j]? = some oj)
    (h1 : ∀ K' : Act → World → Prop, Shut (∀ b v, till u S (l.setIfInBounds i true) v → anyTill P md ops Q S u n (l.setIfInBounds i true) b v → K' b v) → if Region.wanted oi (yielded ops a.tmps) = true then Oper.wp P oi a w K' Q else K' (a.put oi.dst undef) w)
    (h2 : ∀ K' : Act → World → Prop, Shut (∀ b v, till u S (l.setIfInBounds j true) v → anyTill P md ops Q S u n (l.setIfInBounds j true) b v → K' b v) → if Region.wanted oj (yielded ops a.tmps) = true then Oper.wp P oj a w K' Q else K' (a.put oj.dst undef) w) :
    anyTill P md ops Q S u (n + 1) l a w := by
  refine ⟨fun e => (by rw [hr] at e; cases e), fun k hk => ?_⟩
  rw [hr, List.mem_cons, List.mem_singleton] at hk
  rcases hk with e | e
  · subst e; exact wpOp_step hi (fun K' hK => h1 K' (fun b v h1 h2 => hK b v ⟨h1, h2⟩))
  · subst e; exact wpOp_step hj (fun K' hK => h2 K' (fun b v h1 h2 => hK b v ⟨h1, h2⟩))
end
theorem stp_step {α : Type} {f : Prs α} (G : Gk f) {S : ByteArray} {x : Sc} {ws : List ByteArray} (hw : Wok ws) (hk : x.k ≤ S.size) (hi : 0 ≤ (yW ws S x).1) : msr S (f S (yW ws S x).2).2 < msr S x :=
  Nat.lt_of_le_of_lt (msr_mono G ((gd_W ws).le S x hk).2) (oth_step (f := yR ByteArray.empty) (gd_R _) hw hk hi)
/-- An entry as it lies in memory: with its two slices. -/
structure Enz where
  e : Ent
  vc : Value
  vo : Value
abbrev Enz.vals (z : Enz) : List Value := [.int .i64 z.e.y, .int .i64 z.e.m, .int .i64 z.e.d, .int .i64 z.e.wd, .string z.e.se, .int .i64 z.e.wk, .int .i64 z.e.ki, .string z.e.pr, .int .i64 z.e.rk, .int .i64 z.e.fy, .int .i64 z.e.fm, .int .i64 z.e.fd, z.vc, z.vo]
def flat14 : List Enz → List Value
  | [] => []
  | z :: l => z.vals ++ flat14 l
theorem flat14_app : ∀ xs ys : List Enz, flat14 (xs ++ ys) = flat14 xs ++ flat14 ys
  | [], _ => rfl
  | x :: xs, ys => by show x.vals ++ flat14 (xs ++ ys) = (x.vals ++ flat14 xs) ++ flat14 ys; rw [flat14_app xs ys, List.append_assoc]
theorem flat14_at : ∀ (l : List Enz) (i : Nat) (z : Enz), l[i]? = some z → ∀ j, j < 14 → (flat14 l)[i * 14 + j]? = z.vals[j]?
  | [], i, z, h, _, _ => by simp at h
  | x :: l, 0, z, h, j, hj => by
    obtain rfl : x = z := by simpa using h
    show (x.vals ++ flat14 l)[0 * 14 + j]? = _
    rw [Nat.zero_mul, Nat.zero_add, List.getElem?_append_left (by show j < 14; omega)]
  | x :: l, i + 1, z, h, j, hj => by
    have := flat14_at l i z (by simpa using h) j hj
    show (x.vals ++ flat14 l)[(i + 1) * 14 + j]? = _
    rw [List.getElem?_append_right (by show 14 ≤ _; omega), ← this]
    congr 1
    show (i + 1) * 14 + j - 14 = _
    omega
/-- A list of entries of the call's own. -/
structure EnsAt (B : Nat) (v : Value) (l : List Enz) (w : World) : Prop where
  o : w.ownsRow B 40 14 v l.length (flat14 l)
  i : ∀ z ∈ l, StrsAt B z.vc z.e.co w ∧ StrsAt B z.vo z.e.om w
section
variable {B b : Nat} {v : Value} {l : List Enz} {w w' : World}
theorem own_on {t : TypeId} {n k : Nat} {xs : List Value} (h : w.ownsRow B t n v k xs) (hb : Below w.heap.size w w') : w'.ownsRow B t n v k xs :=
  World.ownsRow.kept h (grown_of_below hb none) (by cases hv : v.ownBlock <;> simp)
theorem EnsAt.on (h : EnsAt B v l w) (hb : Below w.heap.size w w') : EnsAt B v l w' := ⟨own_on h.o hb, fun z hz => ⟨(h.i z hz).1.on hb, (h.i z hz).2.on hb⟩⟩
theorem EnsAt.bt (h : EnsAt B v l w) (hb : Bt b w w') (hB : b < B) : EnsAt B v l w' := ⟨own_bt h.o hb hB, fun z hz => ⟨own_bt (h.i z hz).1 hb hB, own_bt (h.i z hz).2 hb hB⟩⟩
theorem EnsAt.base {B' : Nat} (h : EnsAt B v l w) (hB : B' ≤ B) : EnsAt B' v l w := ⟨own_base h.o hB, fun z hz => ⟨own_base (h.i z hz).1 hB, own_base (h.i z hz).2 hB⟩⟩
theorem EnsAt.emp (B : Nat) (w : World) : EnsAt B (.slice none 0 0) [] w := ⟨World.ownsRow_nil w B _ 14, fun z hz => by cases hz⟩
end
theorem infoEnt : (Tryz.prog.info? 40).map (fun i => (i.zero, i.size, i.bytes)) = some (some (.agg #[.int .i64 0, .int .i64 0, .int .i64 0, .int .i64 0, .string ⟨#[]⟩, .int .i64 0, .int .i64 0, .string ⟨#[]⟩, .int .i64 0, .int .i64 0, .int .i64 0, .int .i64 0, .slice none 0 0, .slice none 0 0]), 14, 160) := by kernel_rfl
/-- The state of calendar's loop. -/
structure CK (S : ByteArray) (b P R Q : Nat) (W : World) (yr : Int) (v : Value) (l : List Enz) (x : Sc) (u : World) : Prop where
  p : u.heap[P]? = some (bxQ b)
  r : u.heap[R]? = some (.cells #[.int .i64 0, .slice none 0 0] 25 (0, 0))
  q : u.heap[Q]? = some (.cells #[.int .i64 yr, v] 25 (0, 0))
  s : u.heap[b]? = some (scX S x)
  bt : Bt b W u
  t : WTab u
  z : Q + 1 ≤ u.heap.size
  es : EnsAt (Q + 1) v l u
section
variable {S : ByteArray} {b P R Q : Nat} {W : World} {yr : Int} {v : Value} {l : List Enz} {x : Sc} {u u' : World}
theorem CK.below (h : CK S b P R Q W yr v l x u) (hb : Below u.heap.size u u') : CK S b P R Q W yr v l x u' :=
  ⟨row_kept h.p hb, row_kept h.r hb, row_kept h.q hb, row_kept h.s hb, h.bt.trans (.of_below hb), h.t.on hb, Nat.le_trans h.z hb.size, h.es.on hb⟩
theorem CK.call (h : CK S b P R Q W yr v l x u) (lp : b < P) (lr : P < R) (lq : R < Q) {x' : Sc} (hs : u'.heap[b]? = some (scX S x')) (hb : Bt b u u') : CK S b P R Q W yr v l x' u' :=
  ⟨hb.row (by omega) h.p, hb.row (by omega) h.r, hb.row (by omega) h.q, hs, h.bt.trans hb, h.t.mv hb (ne_scan h.t h.s), Nat.le_trans h.z hb.size, h.es.bt hb (by omega)⟩
theorem CK.add {vN : Value} {z : Enz} {wz : World} (h : CK S b P R Q W yr v l x u) (lw : W.heap.size = P) (lg : 0 < P) (lp : b < P) (lr : P < R) (lq : R < Q) (hc : StrsAt (Q + 1) z.vc z.e.co u) (ho : StrsAt (Q + 1) z.vo z.e.om u)
    (hown : wz.ownsRow (Q + 1) 40 14 vN (l.length + 1) (flat14 l ++ flat14 [z])) (hg : u.grownBy wz v.ownBlock) :
    CK S b P R Q W yr vN (l ++ [z]) x (wz.setCell ⟨Q, 1, none⟩ vN) ∧ wz.heap[Q]? = some (.cells #[.int .i64 yr, v] 25 (0, 0)) := by
  have kp : ∀ (c : Nat) (o : Obj), u.heap[c]? = some o → c < Q + 1 → wz.heap[c]? = some o := fun c o hr hc => row_grow hr h.es.o hc hg
  have zq := kp Q _ h.q (by omega)
  have g0 := Bt.set Q wz 1 vN
  obtain ⟨tt, fr, te⟩ := h.t.row
  have hT : WTab wz := ⟨⟨tt, fr, kp _ _ te (by omega)⟩⟩
  have hbz : Bt b W wz := ⟨hg.os.trans h.bt.os, hg.tape.trans h.bt.tape, hg.output.trans h.bt.output, Nat.le_trans h.bt.size hg.size, fun j hj hne => by
    rw [hg.block j (Nat.lt_of_lt_of_le hj h.bt.size) (fun e => absurd (World.ownsRow.lt h.es.o j e.symm).1 (by omega))]; exact h.bt.block j hj hne⟩
  have ks : ∀ (vx : Value) (xs : List ByteArray), StrsAt (Q + 1) vx xs u → StrsAt (Q + 1) vx xs (wz.setCell ⟨Q, 1, none⟩ vN) := fun vx xs hx => own_bt (own_far hx hg (own_type hx h.es.o (by decide))) g0 (Nat.lt_succ_self Q)
  refine ⟨⟨g0.row (by omega) (kp P _ h.p (by omega)), g0.row (by omega) (kp R _ h.r (by omega)), heap_setCell_same wz Q 1 _ _ vN zq, g0.row (by omega) (kp b _ h.s (by omega)), hbz.over g0 (by omega), hT.mv g0 (by omega), Nat.le_trans (Nat.le_trans h.z hg.size) g0.size, ?_, ?_⟩, zq⟩
  · have : wz.ownsRow (Q + 1) 40 14 vN (l ++ [z]).length (flat14 (l ++ [z])) := by rw [List.length_append, flat14_app]; exact hown
    exact own_bt this g0 (Nat.lt_succ_self Q)
  · intro z' hz
    rcases List.mem_append.1 hz with hz | hz
    · exact ⟨ks _ _ (h.es.i z' hz).1, ks _ _ (h.es.i z' hz).2⟩
    · obtain rfl : z' = z := by simpa using hz
      exact ⟨ks _ _ hc, ks _ _ ho⟩
end
set_option maxRecDepth 100000 in
set_option maxHeartbeats 4000000 in
theorem p27cal {S : ByteArray} {b N : Nat} {w : World} (h : w.heap[b]? = some (scO S 0 false)) (hT : WTab w) (hs : S.size ≤ 100000) (hN : S.size + 1 < N) (hN2 : N ≤ 1000000) :
    Calls Tryz.prog 20 #[pv b] w fun r w' => ∃ v l, r = .returned (.agg #[.int .i64 (kBody N S ⟨0, false⟩).1.y, v]) ∧ EnsAt w.heap.size v l w' ∧ l.map Enz.e = (kBody N S ⟨0, false⟩).1.es ∧ w'.heap[b]? = some (scO S (kEnd N S).k (kEnd N S).b) ∧ Bt b w w' := by
  obtain ⟨iE, hE0, hE1, hE2, hE3⟩ := info_parts infoEnt
  have K0 : (⟨0, false⟩ : Sc).k ≤ S.size := Nat.zero_le _
  have H1 := Lib.hid (fun (u : World) (h : u.heap[b]? = some (scX S ⟨0, false⟩)) => xw_one (e := wCl) h K0 (lt_big hs) wds_wCl)
  have K1 := ((gd_W [wCl]).le S ⟨0, false⟩ K0).2
  obtain ⟨q, e1⟩ : ∃ q, yW [wCl] S ⟨0, false⟩ = q := ⟨_, rfl⟩
  rw [e1] at H1 K1
  obtain ⟨j1, x1⟩ := q
  simp only at H1 K1
  have H2 := Lib.hid (fun (u : World) (h : u.heap[b]? = some (scX S x1)) => xn_sc h K1 (lt_big hs))
  have K2 := (gd_N.le S x1 K1).2
  obtain ⟨q, e2⟩ : ∃ q, yNu S x1 = q := ⟨_, rfl⟩
  rw [e2] at H2 K2
  obtain ⟨yr, x2⟩ := q
  simp only at H2 K2
  have H3 := Lib.hid (fun (u : World) (h : u.heap[b]? = some (scX S x2)) => xw_one (e := wLf) h K2 (lt_big hs) wds_wLf)
  have K3 := ((gd_W [wLf]).le S x2 K2).2
  obtain ⟨q, e3⟩ : ∃ q, yW [wLf] S x2 = q := ⟨_, rfl⟩
  rw [e3] at H3 K3
  obtain ⟨j3, x3⟩ := q
  simp only at H3 K3
  have K4 := ((gk_Days N yr N []).le S x3 K3).2
  obtain ⟨M, hM⟩ : ∃ M, kDays N yr N [] S x3 = M := ⟨_, rfl⟩
  have eB : kBody N S ⟨0, false⟩ = (⟨yr, M.1⟩, M.2) := by
    show (yB yNu fun y => yB (yW [wLf]) fun _ => yB (kDays N y N []) fun es => yR (⟨y, es⟩ : Kal)) S (yW [wCl] S ⟨0, false⟩).2 = _
    rw [e1]
    show (yB (yW [wLf]) fun _ => yB (kDays N (yNu S x1).1 N []) fun es => yR (⟨(yNu S x1).1, es⟩ : Kal)) S (yNu S x1).2 = _
    rw [e2]
    show (yB (kDays N yr N []) fun es => yR (⟨yr, es⟩ : Kal)) S (yW [wLf] S x2).2 = _
    rw [e3]
    show ((⟨yr, (kDays N yr N [] S x3).1⟩ : Kal), (kDays N yr N [] S x3).2) = _
    rw [hM]
  have eE : kEnd N S = ⟨M.2.k, feB M.2.b S M.2.k⟩ := by unfold kEnd; rw [eB]
  rw [eB, eE]
  clear eB eE e1 e2 e3
  have HM := Lib.hid hM
  rw [hM] at K4
  have hF := Lib.hid (show msr S x3 < N by unfold msr; split <;> omega)
  have HX3 := Lib.hid K3
  have K4 := Lib.hid K4
  have HD := Lib.hid (fun (u : World) (x : Sc) (h : u.heap[b]? = some (scX S x)) (hk : x.k ≤ S.size) => (xw_sc (ws := lDE) (row_kept h (al1 u (.cells #[.string ⟨#[100, 97, 121]⟩, .string ⟨#[101, 110, 100, 10]⟩] 9))) hk (lt_big hs) (lit2 _ _ _) (by have := row_lt h; omega) wds_lDE).mono (R' := fun e w' => e = .returned (.int .i64 (yW lDE S x).1) ∧ w'.heap[b]? = some (scX S (yW lDE S x).2) ∧ Bt b u w') fun _ _ hh => ⟨hh.1, hh.2.1, (Bt.al b u _).trans hh.2.2⟩)
  have HEn := Lib.hid (fun (u : World) (x : Sc) (h : u.heap[b]? = some (scX S x)) (hk : x.k ≤ S.size) (t : WTab u) (hn : msr S x < N) => p27ent (y := yr) h hk hs t hn hN2)
  have HZ := Lib.hid (fun (u : World) (x : Sc) (h : u.heap[b]? = some (scX S x)) => xe_all h)
  clear hM K0 K1 K2 K3 hN
  have hlw := hT.heap
  have hlb := row_lt h
  go_enter Tryz.func20, Tryz.ntmps20
  go_wp2_with fail
  obtain ⟨u, hu⟩ : ∃ u, u = (((w.alloc (.cells #[xp b] 47)).alloc (.cells #[.int .i64 0, .slice none 0 0] 25)).alloc (.cells #[.int .i64 0, .slice none 0 0] 25)) := ⟨_, rfl⟩
  have B0 : Below w.heap.size w u := hu ▸ al3 w _ _ _
  have C0 : CK S b w.heap.size (w.heap.size + 1) (w.heap.size + 1 + 1) w 0 (.slice none 0 0) [] ⟨0, false⟩ u :=
    ⟨hu ▸ row_on (heap_alloc_new _ _) (al2 _ _ _), hu ▸ row_on (row_new1 _ _ _) (al1 _ _), hu ▸ row_new2 _ _ _ _, row_kept h B0, .of_below B0, hT.on B0, by rw [hu]; simp, EnsAt.emp _ _⟩
  have hz : w.heap.size + 1 + 1 + 1 = u.heap.size := by rw [hu]; simp
  rw [← hu]
  clear hu h hT B0
  generalize hP : w.heap.size = P at *
  generalize hR : P + 1 = R at *
  generalize hQ : R + 1 = Q at *
  rw [hz]
  clear hz
  have lp : b < P := hlb
  have lr : P < R := by omega
  have lq : R < Q := by omega
  have lg : 0 < P := hlw
  clear hR hQ hlb hlw
  refine (H1.out u C0.s).mono ?_
  rintro e1 w1 ⟨rfl, s1, g1⟩
  have C1 := C0.call lp lr lq s1 g1
  clear s1 g1 C0 H1
  have cP : w1.cell? ⟨P, 0, none⟩ = some (xp b) := by rw [cell_of_row _ _ _ _ _ _ C1.p]; rfl
  go_wp2_with fail
  refine (H2.out w1 C1.s).mono ?_
  rintro e2 w2 ⟨rfl, s2, g2⟩
  have C2 := C1.call lp lr lq s2 g2
  clear s2 g2 C1 H2 cP
  have q0 : w2.cell? ⟨Q, 0, none⟩ = some (.int .i64 0) := by rw [cell_of_row _ _ _ _ _ _ C2.q]; rfl
  have f0 : w2.frozen? ⟨Q, 0, none⟩ = false := frozen_of_row _ _ _ _ _ C2.q
  have g0 := Bt.set Q w2 0 (.int .i64 yr)
  have C3 : CK S b P R Q w yr (.slice none 0 0) [] x2 (w2.setCell ⟨Q, 0, none⟩ (.int .i64 yr)) :=
    ⟨g0.row (by omega) C2.p, g0.row (by omega) C2.r, heap_setCell_same _ Q 0 _ _ _ C2.q, g0.row (by omega) C2.s, C2.bt.over g0 (by omega), C2.t.mv g0 (by omega), Nat.le_trans C2.z g0.size, EnsAt.emp _ _⟩
  have cP : (w2.setCell ⟨Q, 0, none⟩ (.int .i64 yr)).cell? ⟨P, 0, none⟩ = some (xp b) := by rw [cell_of_row _ _ _ _ _ _ C3.p]; rfl
  clear g0 C2
  go_wp2_with fail
  clear q0 f0 cP
  have hz : w2.heap.size = (w2.setCell ⟨Q, 0, none⟩ (.int .i64 yr)).heap.size := by simp
  (try rw [hz])
  clear hz
  generalize w2.setCell ⟨Q, 0, none⟩ (.int .i64 yr) = v2 at *
  refine (H3.out v2 C3.s).mono ?_
  rintro e3 w3 ⟨rfl, s3, g3⟩
  have C4 := C3.call lp lr lq s3 g3
  clear s3 g3 C3 H3
  go_wp2_with fail
  go_loopw [] (fun wr => ∃ (x : Sc) (v : Value) (l : List Enz) (n : Nat), Hid (CK S b P R Q w yr v l x wr ∧ x.k ≤ S.size ∧ msr S x < n ∧ l.length + n ≤ N ∧ kDays N yr n (l.map Enz.e) S x = M)) (fun wr => msW S b wr)
  case atStart => exact ⟨x3, _, [], N, Lib.hid ⟨C4, HX3.out, hF.out, by simp, HM.out⟩⟩
  case round =>
    clear C4
    obtain ⟨x, v, l, n, HR⟩ := hrel
    obtain ⟨hC, hk, hn, hl, hM⟩ := HR.out
    obtain ⟨n, rfl⟩ : ∃ m, n = m + 1 := ⟨n - 1, by omega⟩
    have HC := Lib.hid hC
    have cP : wr.cell? ⟨P, 0, none⟩ = some (xp b) := by rw [cell_of_row _ _ _ _ _ _ hC.p]; rfl
    have HW := Lib.hid (HD.out wr x hC.s hk)
    have hk1 := ((gd_W lDE).le S x hk).2
    have hst := fun hi => stp_step (f := kEnt N yr) (gk_Ent N yr) wds_lDE.ok hk hi
    have hst2 := msr_mono (gd_W lDE) hk
    have eK : kDays N yr (n + 1) (l.map Enz.e) S x = (if (yW lDE S x).1 = 0 then yB (kEnt N yr) fun e => kDays N yr n (l.map Enz.e ++ [e]) else yR (l.map Enz.e)) S (yW lDE S x).2 := rfl
    rw [eK] at hM
    clear hC HR eK
    obtain ⟨q, hq⟩ : ∃ q, yW lDE S x = q := ⟨_, rfl⟩
    rw [hq] at hM hk1 hst hst2 HW
    clear hq
    obtain ⟨i, x1⟩ := q
    simp only at hM hk1 hst hst2 HW
    by_cases c0 : i = 0
    · subst c0
      rw [if_pos rfl] at hM
      have hM2 : kDays N yr n (l.map Enz.e ++ [(kEnt N yr S x1).1]) S (kEnt N yr S x1).2 = M := hM
      have HE := fun (u : World) (h : u.heap[b]? = some (scX S x1)) (t : WTab u) => HEn.out u x1 h hk1 t (by omega)
      have hst := hst (Int.le_refl _)
      have hk2 := ((gk_Ent N yr).le S x1 hk1).2
      obtain ⟨q, hq⟩ : ∃ q, kEnt N yr S x1 = q := ⟨_, rfl⟩
      rw [hq] at hM2 HE hst hk2
      clear hq
      obtain ⟨⟨ey, em, ed, ewd, ese, ewk, eki, epr, erk, efy, efm, efd, eco, eom⟩, x2⟩ := q
      simp only at hM2 HE hst hk2
      have HE := Lib.hid HE
      have HX := Lib.hid (⟨by omega, hst, hk2, by omega, hl, hM2⟩ : l.length + 1 ≤ 1000000 ∧ msr S x2 < msr S x ∧ x2.k ≤ S.size ∧ msr S x < n + 1 ∧ l.length + (n + 1) ≤ N ∧ kDays N yr n (l.map Enz.e ++ [⟨ey, em, ed, ewd, ese, ewk, eki, epr, erk, efy, efm, efd, eco, eom⟩]) S x2 = M)
      clear hM hM2 hst hst2 hk2 hk1 hk hn hl
      go_wp2_with fail
      refine HW.out.mono ?_
      rintro e1 w1 ⟨rfl, s1, g1⟩
      have C1 := HC.out.call lp lr lq s1 g1
      clear s1 g1 HW cP
      go_wp2_with fail
      refine till_start (fun u => ∃ x, CK S b P R Q w yr v l x u) 7 (by kernel_rfl) ?_
      have C1d := C1.below (below_dn (Below.refl _ _) 1)
      refine till_take (i := 0) (oi := { dst := some 21, op := _, type := _, pos := _, after := _, guard := _ }) (v := ?v0) rfl (by kernel_rfl) (by kernel_rfl) (by kernel_rfl) (fun _ _ _ h => h) (by decide) (Or.inl ⟨by rfl, ?h0⟩) (.inr ⟨_, C1d⟩) ?_
      case h0 => (intro w _; go_simp; try with_reducible rfl)
      (try simp only [Act.put, List.setIfInBounds_toArray, List.set_cons_zero, List.set_cons_succ])
      refine till_take (i := 3) (oi := { dst := some 24, op := _, type := _, pos := _, after := _, guard := _ }) (v := ?v3) rfl (by kernel_rfl) (by kernel_rfl) (by kernel_rfl) (fun _ _ _ h => h) (by decide) (Or.inl ⟨by rfl, ?h3⟩) (.inr ⟨_, C1d⟩) ?_
      case h3 => (intro w _; go_simp; try with_reducible rfl)
      (try simp only [Act.put, List.setIfInBounds_toArray, List.set_cons_zero, List.set_cons_succ])
      refine till_take_load (i := 1) (oi := { dst := some 22, op := _, type := _, pos := _, after := _, guard := _ }) (v := ?v1) rfl (by kernel_rfl) (by kernel_rfl) (by kernel_rfl) (fun _ _ _ h => h) (by kernel_rfl) (by decide) (by kernel_rfl) (Or.inl ⟨by rfl, ?h1⟩) ⟨_, C1d⟩ ?_
      case h1 => (intro w hSw; (try dsimp only at hSw); obtain ⟨_, hSw⟩ := hSw; have q0 : w.cell? ⟨Q, 1, none⟩ = some v := cell_of_row w Q 1 _ _ _ hSw.q; go_simp; try with_reducible rfl)
      (try simp only [Act.put, List.setIfInBounds_toArray, List.set_cons_zero, List.set_cons_succ])
      have cP : w1.cell? ⟨P, 0, none⟩ = some (xp b) := (cell_of_row w1 P 0 _ _ _ C1.p)
      have cY : w1.cell? ⟨Q, 0, none⟩ = some (.int .i64 yr) := (cell_of_row w1 Q 0 _ _ _ C1.q)
      refine till_two (i := 2) (j := 4) (oi := { dst := some 23, op := _, type := _, pos := _, after := _, guard := _ }) (oj := { dst := some 25, op := _, type := _, pos := _, after := _, guard := _ }) (by kernel_rfl) (by rfl) (by rfl) (fun K hK => ?_) (fun K hK => ?_)
      rotate_left
      · go_simp
        refine hK.out _ _ (.inr ⟨_, C1d⟩) ?_
        clear hK K
        (try simp only [Act.put, List.setIfInBounds_toArray, List.set_cons_zero, List.set_cons_succ])
        refine till_one (i := 2) (o := { dst := some 23, op := _, type := _, pos := _, after := _, guard := _ }) (by kernel_rfl) rfl (fun K hK => ?_)
        go_simp
        refine hK.out _ _ (.inr ⟨_, C1d⟩) ?_
        clear hK K
        (try simp only [Act.put, List.setIfInBounds_toArray, List.set_cons_zero, List.set_cons_succ])
        clear cP cY
        refine till_one (i := 5) (o := { dst := some 26, op := _, type := _, pos := _, after := _, guard := _ }) (by kernel_rfl) rfl (fun K hK => ?_)
        go_simp
        go_at_call 45
        refine (HE.out _ C1d.s C1d.t).mono ?_
        rintro e2 w2 ⟨vc, vo, rfl, s2, oc, oo, g2⟩
        have C2 := C1d.call lp lr lq s2 g2
        obtain ⟨ac, kc, rfl⟩ := own_form oc
        obtain ⟨ao, ko, rfl⟩ := own_form oo
        have oc := own_base oc C1d.z
        have oo := own_base oo C1d.z
        refine hK.out _ _ (.inr ⟨_, C2⟩) ?_
        clear hK K C1 C1d s2 g2
        (try simp only [Act.put, List.setIfInBounds_toArray, List.set_cons_zero, List.set_cons_succ])
        refine till_one (i := 6) (o := { dst := some 27, op := _, type := _, pos := _, after := _, guard := _ }) (by kernel_rfl) rfl (fun K hK => ?_)
        go_simp
        have al := al1 w2 (.cells #[.int .i64 ey, .int .i64 em, .int .i64 ed, .int .i64 ewd, .string ese, .int .i64 ewk, .int .i64 eki, .string epr, .int .i64 erk, .int .i64 efy, .int .i64 efm, .int .i64 efd, .slice ac eco.length kc, .slice ao eom.length ko] 40)
        have C3 := C2.below al
        have oc3 := own_on oc al
        have oo3 := own_on oo al
        have NW := World.news_of_block (heap_alloc_new w2 (.cells #[.int .i64 ey, .int .i64 em, .int .i64 ed, .int .i64 ewd, .string ese, .int .i64 ewk, .int .i64 eki, .string epr, .int .i64 erk, .int .i64 efy, .int .i64 efm, .int .i64 efd, .slice ac eco.length kc, .slice ao eom.length ko] 40))
        refine hK.out _ _ (.inr ⟨_, C3⟩) ?_
        clear hK K al oc oo
        (try simp only [Act.put, List.setIfInBounds_toArray, List.set_cons_zero, List.set_cons_succ])
        refine till_one (i := 7) (o := { dst := some 28, op := _, type := _, pos := _, after := _, guard := _ }) (by kernel_rfl) rfl (fun K hK => ?_)
        rw [if_pos (by rfl)]
        refine wp_append_lies _ _ _ 23 (by rfl) (Q + 1) 40 iE _ 14 160 Tryz.underlying23 hE0 hE1 hE2 hE3 rfl (by decide) v l.length (flat14 l) (by rfl) C3.es.o ⟨w2.heap.size, 0, none⟩ 1 1 (flat14 [⟨⟨ey, em, ed, ewd, ese, ewk, eki, epr, erk, efy, efm, efd, eco, eom⟩, .slice ac eco.length kc, .slice ao eom.length ko⟩]) (by rfl) (by rfl) NW (by intro q hq; simp [flat14] at hq; rcases hq with rfl | rfl | rfl | rfl | rfl | rfl | rfl | rfl | rfl | rfl | rfl | rfl | rfl | rfl <;> rfl) (by decide) (by have := HX.out.1; unfold maxLen; omega) (by have := HX.out.1; omega) C3.z _ rfl ?_
        intro gN capN wz hown hgrow _ _
        obtain ⟨C4, zq⟩ := C3.add (z := ⟨⟨ey, em, ed, ewd, ese, ewk, eki, epr, erk, efy, efm, efd, eco, eom⟩, .slice ac eco.length kc, .slice ao eom.length ko⟩) hP lg lp lr lq oc3 oo3 hown hgrow
        refine hK.out _ _ (.inl rfl) ?_
        clear hK K hown hgrow NW C3 C2 oc3 oo3
        (try simp only [Act.put, List.setIfInBounds_toArray, List.set_cons_zero, List.set_cons_succ])
        refine till_take (i := 8) (oi := { dst := some 29, op := _, type := _, pos := _, after := _, guard := _ }) (v := ?v8) rfl (by kernel_rfl) (by kernel_rfl) (by kernel_rfl) (fun _ _ _ h => h) (by decide) (Or.inl ⟨by rfl, ?h8⟩) (.inl rfl) ?_
        case h8 => (intro w _; go_simp; try with_reducible rfl)
        (try simp only [Act.put, List.setIfInBounds_toArray, List.set_cons_zero, List.set_cons_succ])
        have q0 : wz.cell? ⟨Q, 1, none⟩ = some v := by rw [cell_of_row _ _ _ _ _ _ zq]; rfl
        have q1 : wz.frozen? ⟨Q, 1, none⟩ = false := frozen_of_row _ _ _ _ _ zq
        refine till_one (i := 9) (o := { dst := none, op := _, type := _, pos := _, after := _, guard := _ }) (by kernel_rfl) rfl (fun K hK => ?_)
        go_simp
        refine hK.out _ _ (.inl rfl) ?_
        clear hK K q0 q1 zq
        (try simp only [Act.put, List.setIfInBounds_toArray, List.set_cons_zero, List.set_cons_succ])
        refine till_done (by kernel_rfl) ?_ _
        go_roundw
        case rel =>
          have HXa : msr S x2 < n := by have h1 := HX.out.2.1; have h2 := HX.out.2.2.2.1; omega
          have HXb : (l ++ [(⟨⟨ey, em, ed, ewd, ese, ewk, eki, epr, erk, efy, efm, efd, eco, eom⟩, .slice ac eco.length kc, .slice ao eom.length ko⟩ : Enz)]).length + n ≤ N := by have := HX.out.2.2.2.2.1; rw [List.length_append]; show l.length + 1 + n ≤ N; omega
          have HXc : kDays N yr n ((l ++ [(⟨⟨ey, em, ed, ewd, ese, ewk, eki, epr, erk, efy, efm, efd, eco, eom⟩, .slice ac eco.length kc, .slice ao eom.length ko⟩ : Enz)]).map Enz.e) S x2 = M := by rw [List.map_append]; exact HX.out.2.2.2.2.2
          exact ⟨_, _, _, _, _, _, _, _, _, _, _, _, _, _, ⟨x2, _, l ++ [⟨⟨ey, em, ed, ewd, ese, ewk, eki, epr, erk, efy, efm, efd, eco, eom⟩, .slice ac eco.length kc, .slice ao eom.length ko⟩], n, Lib.hid ⟨C4, HX.out.2.2.1, HXa, HXb, HXc⟩⟩, rfl⟩
        case measure => rw [msW_is C4.s, msW_is HC.out.s]; exact HX.out.2.1
      · go_simp
        refine hK.out _ _ (.inr ⟨_, C1d⟩) ?_
        clear hK K
        (try simp only [Act.put, List.setIfInBounds_toArray, List.set_cons_zero, List.set_cons_succ])
        refine till_one (i := 4) (o := { dst := some 25, op := _, type := _, pos := _, after := _, guard := _ }) (by kernel_rfl) rfl (fun K hK => ?_)
        go_simp
        refine hK.out _ _ (.inr ⟨_, C1d⟩) ?_
        clear hK K
        (try simp only [Act.put, List.setIfInBounds_toArray, List.set_cons_zero, List.set_cons_succ])
        clear cP cY
        refine till_one (i := 5) (o := { dst := some 26, op := _, type := _, pos := _, after := _, guard := _ }) (by kernel_rfl) rfl (fun K hK => ?_)
        go_simp
        go_at_call 45
        refine (HE.out _ C1d.s C1d.t).mono ?_
        rintro e2 w2 ⟨vc, vo, rfl, s2, oc, oo, g2⟩
        have C2 := C1d.call lp lr lq s2 g2
        obtain ⟨ac, kc, rfl⟩ := own_form oc
        obtain ⟨ao, ko, rfl⟩ := own_form oo
        have oc := own_base oc C1d.z
        have oo := own_base oo C1d.z
        refine hK.out _ _ (.inr ⟨_, C2⟩) ?_
        clear hK K C1 C1d s2 g2
        (try simp only [Act.put, List.setIfInBounds_toArray, List.set_cons_zero, List.set_cons_succ])
        refine till_one (i := 6) (o := { dst := some 27, op := _, type := _, pos := _, after := _, guard := _ }) (by kernel_rfl) rfl (fun K hK => ?_)
        go_simp
        have al := al1 w2 (.cells #[.int .i64 ey, .int .i64 em, .int .i64 ed, .int .i64 ewd, .string ese, .int .i64 ewk, .int .i64 eki, .string epr, .int .i64 erk, .int .i64 efy, .int .i64 efm, .int .i64 efd, .slice ac eco.length kc, .slice ao eom.length ko] 40)
        have C3 := C2.below al
        have oc3 := own_on oc al
        have oo3 := own_on oo al
        have NW := World.news_of_block (heap_alloc_new w2 (.cells #[.int .i64 ey, .int .i64 em, .int .i64 ed, .int .i64 ewd, .string ese, .int .i64 ewk, .int .i64 eki, .string epr, .int .i64 erk, .int .i64 efy, .int .i64 efm, .int .i64 efd, .slice ac eco.length kc, .slice ao eom.length ko] 40))
        refine hK.out _ _ (.inr ⟨_, C3⟩) ?_
        clear hK K al oc oo
        (try simp only [Act.put, List.setIfInBounds_toArray, List.set_cons_zero, List.set_cons_succ])
        refine till_one (i := 7) (o := { dst := some 28, op := _, type := _, pos := _, after := _, guard := _ }) (by kernel_rfl) rfl (fun K hK => ?_)
        rw [if_pos (by rfl)]
        refine wp_append_lies _ _ _ 23 (by rfl) (Q + 1) 40 iE _ 14 160 Tryz.underlying23 hE0 hE1 hE2 hE3 rfl (by decide) v l.length (flat14 l) (by rfl) C3.es.o ⟨w2.heap.size, 0, none⟩ 1 1 (flat14 [⟨⟨ey, em, ed, ewd, ese, ewk, eki, epr, erk, efy, efm, efd, eco, eom⟩, .slice ac eco.length kc, .slice ao eom.length ko⟩]) (by rfl) (by rfl) NW (by intro q hq; simp [flat14] at hq; rcases hq with rfl | rfl | rfl | rfl | rfl | rfl | rfl | rfl | rfl | rfl | rfl | rfl | rfl | rfl <;> rfl) (by decide) (by have := HX.out.1; unfold maxLen; omega) (by have := HX.out.1; omega) C3.z _ rfl ?_
        intro gN capN wz hown hgrow _ _
        obtain ⟨C4, zq⟩ := C3.add (z := ⟨⟨ey, em, ed, ewd, ese, ewk, eki, epr, erk, efy, efm, efd, eco, eom⟩, .slice ac eco.length kc, .slice ao eom.length ko⟩) hP lg lp lr lq oc3 oo3 hown hgrow
        refine hK.out _ _ (.inl rfl) ?_
        clear hK K hown hgrow NW C3 C2 oc3 oo3
        (try simp only [Act.put, List.setIfInBounds_toArray, List.set_cons_zero, List.set_cons_succ])
        refine till_take (i := 8) (oi := { dst := some 29, op := _, type := _, pos := _, after := _, guard := _ }) (v := ?v8) rfl (by kernel_rfl) (by kernel_rfl) (by kernel_rfl) (fun _ _ _ h => h) (by decide) (Or.inl ⟨by rfl, ?h8⟩) (.inl rfl) ?_
        case h8 => (intro w _; go_simp; try with_reducible rfl)
        (try simp only [Act.put, List.setIfInBounds_toArray, List.set_cons_zero, List.set_cons_succ])
        have q0 : wz.cell? ⟨Q, 1, none⟩ = some v := by rw [cell_of_row _ _ _ _ _ _ zq]; rfl
        have q1 : wz.frozen? ⟨Q, 1, none⟩ = false := frozen_of_row _ _ _ _ _ zq
        refine till_one (i := 9) (o := { dst := none, op := _, type := _, pos := _, after := _, guard := _ }) (by kernel_rfl) rfl (fun K hK => ?_)
        go_simp
        refine hK.out _ _ (.inl rfl) ?_
        clear hK K q0 q1 zq
        (try simp only [Act.put, List.setIfInBounds_toArray, List.set_cons_zero, List.set_cons_succ])
        refine till_done (by kernel_rfl) ?_ _
        go_roundw
        case rel =>
          have HXa : msr S x2 < n := by have h1 := HX.out.2.1; have h2 := HX.out.2.2.2.1; omega
          have HXb : (l ++ [(⟨⟨ey, em, ed, ewd, ese, ewk, eki, epr, erk, efy, efm, efd, eco, eom⟩, .slice ac eco.length kc, .slice ao eom.length ko⟩ : Enz)]).length + n ≤ N := by have := HX.out.2.2.2.2.1; rw [List.length_append]; show l.length + 1 + n ≤ N; omega
          have HXc : kDays N yr n ((l ++ [(⟨⟨ey, em, ed, ewd, ese, ewk, eki, epr, erk, efy, efm, efd, eco, eom⟩, .slice ac eco.length kc, .slice ao eom.length ko⟩ : Enz)]).map Enz.e) S x2 = M := by rw [List.map_append]; exact HX.out.2.2.2.2.2
          exact ⟨_, _, _, _, _, _, _, _, _, _, _, _, _, _, ⟨x2, _, l ++ [⟨⟨ey, em, ed, ewd, ese, ewk, eki, epr, erk, efy, efm, efd, eco, eom⟩, .slice ac eco.length kc, .slice ao eom.length ko⟩], n, Lib.hid ⟨C4, HX.out.2.2.1, HXa, HXb, HXc⟩⟩, rfl⟩
        case measure => rw [msW_is C4.s, msW_is HC.out.s]; exact HX.out.2.1
    · have cb : (i == 0) = false := beq_eq_false_iff_ne.2 c0
      rw [if_neg c0] at hM
      obtain rfl : M = (l.map Enz.e, x1) := hM.symm
      clear hM hst hst2 hk1 hk hn hl c0
      go_wp2_with fail
      refine HW.out.mono ?_
      rintro e1 w1 ⟨rfl, s1, g1⟩
      have C1 := HC.out.call lp lr lq s1 g1
      clear s1 g1 HW cP HC
      have cP : w1.cell? ⟨P, 0, none⟩ = some (xp b) := by rw [cell_of_row _ _ _ _ _ _ C1.p]; rfl
      go_wp2_with fail
      refine (HZ.out w1 x1 C1.s).mono ?_
      rintro e2 w2 ⟨rfl, s2, g2⟩
      have C2 := C1.call (x' := ⟨x1.k, feB x1.b S x1.k⟩) lp lr lq s2 g2
      clear s2 g2 C1 cP
      obtain ⟨a, c, rfl⟩ := own_form C2.es.o
      have q0 : w2.cell? ⟨Q, 0, none⟩ = some (.int .i64 yr) := by rw [cell_of_row _ _ _ _ _ _ C2.q]; rfl
      have q1 : w2.cell? ⟨Q, 1, none⟩ = some (.slice a l.length c) := by rw [cell_of_row _ _ _ _ _ _ C2.q]; rfl
      have k0 : w2.cell? ⟨R, 0, none⟩ = some (.int .i64 0) := by rw [cell_of_row _ _ _ _ _ _ C2.r]; rfl
      have k1 : w2.cell? ⟨R, 1, none⟩ = some (.slice none 0 0) := by rw [cell_of_row _ _ _ _ _ _ C2.r]; rfl
      have m0 : w2.frozen? ⟨R, 0, none⟩ = false := frozen_of_row _ _ _ _ _ C2.r
      have m1 : w2.frozen? ⟨R, 1, none⟩ = false := frozen_of_row _ _ _ _ _ C2.r
      go_wp2_with fail
      clear q0 q1 k0 k1 m0 m1
      have g0 := (Bt.set R w2 0 (.int .i64 yr)).trans (Bt.set R _ 1 (.slice a l.length c))
      have rX : ((w2.setCell ⟨R, 0, none⟩ (.int .i64 yr)).setCell ⟨R, 1, none⟩ (.slice a l.length c)).heap[R]? = some (.cells #[.int .i64 yr, .slice a l.length c] 25 (0, 0)) := heap_setCell_same _ R 1 _ _ _ (heap_setCell_same _ R 0 _ _ _ C2.r)
      generalize (w2.setCell ⟨R, 0, none⟩ (.int .i64 yr)).setCell ⟨R, 1, none⟩ (.slice a l.length c) = X at *
      have k0 : X.cell? ⟨R, 0, none⟩ = some (.int .i64 yr) := by rw [cell_of_row _ _ _ _ _ _ rX]; rfl
      have k1 : X.cell? ⟨R, 1, none⟩ = some (.slice a l.length c) := by rw [cell_of_row _ _ _ _ _ _ rX]; rfl
      refine bodyPost_ret (v := .agg #[.int .i64 yr, .slice a l.length c]) (by simp [results, Tryz.results20, go_sem, k0, k1]) rfl ⟨_, rfl, l, (C2.es.bt g0 (by omega)).base (by omega), rfl, g0.row (by omega) C2.s, C2.bt.over g0 (by omega)⟩
end Go.Proofs.YtkhicgafhbecfaaGreatDoor
