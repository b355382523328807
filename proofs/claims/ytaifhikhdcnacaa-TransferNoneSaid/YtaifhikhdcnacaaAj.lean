/- The law TransferKeeps, given what package transfer must answer. -/
import Derived.Test.YtaifhikhdcnacaaAi
namespace Go.Proofs.Ytaifhikhdcnacaa
open Go.RowKit

theorem own_types {w : World} {B1 B2 s1 s2 n1 n2 : Nat} {t1 t2 : TypeId} {v1 v2 : Value} {c1 c2 : List Value} (h1 : w.ownsRow B1 t1 s1 v1 n1 c1) (h2 : w.ownsRow B2 t2 s2 v2 n2 c2) (ht : t1 ≠ t2) : v1.ownBlock = none ∨ v1.ownBlock ≠ v2.ownBlock := by
  rcases h1.2 with ⟨rfl, _⟩ | ⟨g, cap, cur, rfl, _, hg, _⟩
  · exact .inl rfl
  · refine .inr fun e => ?_
    rcases h2.2 with ⟨rfl, _⟩ | ⟨g', cap', cur', rfl, _, hg', _⟩
    · cases e
    · obtain rfl : g = g' := by simpa [Value.ownBlock] using e
      rw [hg] at hg'
      simp only [Option.some.injEq, Obj.cells.injEq] at hg'
      exact ht hg'.2.1
theorem IntsAt.at {B : Nat} {v : Value} {xs : List Int} {w : World} (h : IntsAt B v xs w) : InAt w v xs :=
  (own_at h (by simp) (.int .i64 0)).of rfl fun i hi => by
    rw [List.getD_eq_getElem?_getD, List.getElem?_map, List.getElem?_eq_getElem hi, List.getD_eq_getElem?_getD, List.getElem?_eq_getElem hi]; rfl
theorem infoInt1 : (Try.prog.info? 3).map (fun i => (i.zero, i.size, i.bytes)) = some (some (.int .i64 0), 1, 8) := by kernel_rfl
theorem getD_app_lt {cs : List Value} {k j : Nat} (hk : cs.length = k) (hj : j < k) (u x0 : Value) : (cs ++ [u]).getD j x0 = cs.getD j x0 := by
  rw [List.getD_eq_getElem?_getD, List.getElem?_append_left (by omega), List.getD_eq_getElem?_getD]
theorem getD_app_eq {cs : List Value} {k : Nat} (hk : cs.length = k) (u x0 : Value) : (cs ++ [u]).getD k x0 = u := by
  subst hk
  rw [List.getD_eq_getElem?_getD, List.getElem?_append_right (Nat.le_refl _), Nat.sub_self]; rfl
/-- The lists copied so far: a slice of the call's own, each of whose elements is a slice of integers of the call's own. -/
structure Cps (B : Nat) (v : Value) (imp : List (List Int)) (k : Nat) (w : World) : Prop where
  ex : ∃ cs : List Value, cs.length = k ∧ w.ownsRow B 40 1 v k cs ∧ ∀ j, j < k → IntsAt B (cs.getD j (.slice none 0 0)) (imp.getD j []) w
theorem Cps.nil (B : Nat) (imp : List (List Int)) (w : World) : Cps B (.slice none 0 0) imp 0 w := ⟨[], rfl, World.ownsRow_nil w B _ 1, fun j hj => by omega⟩
theorem Cps.grow {B : Nat} {v : Value} {imp : List (List Int)} {k : Nat} {w w' : World} (h : Cps B v imp k w) {g : Nat} (hg : w.heap.size ≤ g) (hw : w.grownBy w' (some g)) : Cps B v imp k w' := by
  obtain ⟨cs, h1, h2, h3⟩ := h
  have key : ∀ {t : TypeId} {s n : Nat} {u : Value} {c : List Value}, w.ownsRow B t s u n c → w'.ownsRow B t s u n c := fun {t s n u c} hu =>
    World.ownsRow.kept hu hw (by
      cases hv : u.ownBlock
      · exact .inl rfl
      · refine .inr fun e => ?_
        have := (World.ownsRow.lt hu _ hv).2
        rw [Option.some.inj e] at this
        omega)
  exact ⟨cs, h1, key h2, fun j hj => key (h3 j hj)⟩
theorem Cps.on {B : Nat} {v : Value} {imp : List (List Int)} {k : Nat} {w w' : World} (h : Cps B v imp k w) (hb : Below w.heap.size w w') : Cps B v imp k w' := by
  obtain ⟨cs, h1, h2, h3⟩ := h
  exact ⟨cs, h1, World.ownsRow.kept h2 (grown_of_below hb none) (by cases hv : v.ownBlock <;> simp), fun j hj => (h3 j hj).on hb⟩
/-- One more list. -/
theorem Cps.app {B : Nat} {v v' u : Value} {imp : List (List Int)} {k : Nat} {cs : List Value} {w w' : World} {o : Obj} (h1 : cs.length = k) (h2 : w.ownsRow B 40 1 v k cs) (h3 : ∀ j, j < k → IntsAt B (cs.getD j (.slice none 0 0)) (imp.getD j []) w) (hu : IntsAt B u (imp.getD k []) w)
    (hown : w'.ownsRow B 40 1 v' (k + 1) (cs ++ [u])) (hg : (w.alloc o).grownBy w' v.ownBlock) : Cps B v' imp (k + 1) w' := by
  have a2 := World.ownsRow.alloc h2 o
  have key : ∀ {x : Value} {l : List Int}, IntsAt B x l w → IntsAt B x l w' := fun {x l} hx => World.ownsRow.kept (IntsAt.al hx o) hg (own_types (IntsAt.al hx o) a2 (by decide))
  refine ⟨cs ++ [u], by simp [h1], hown, fun j hj => ?_⟩
  by_cases g : j < k
  · rw [getD_app_lt h1 g]; exact key (h3 j g)
  · obtain rfl : j = k := by omega
    rw [getD_app_eq h1]; exact key hu
theorem Cps.at {B : Nat} {v : Value} {imp : List (List Int)} {k : Nat} {w : World} (h : Cps B v imp k w) (hk : imp.length = k) : LsAt w v imp := by
  obtain ⟨cs, h1, h2, h3⟩ := h.ex
  exact own_lists h2 h1 imp hk fun i hi => (h3 i hi).at
theorem InAt.news {W : World} {xs : List Int} {cap b o : Nat} (h : InAt W (.slice (some ⟨b, o, none⟩) xs.length cap) xs) {W' : World} (hb : Below W.heap.size W W') : ∀ j u, (xs.map (Value.int .i64))[j]? = some u → W'.cell? ((⟨b, o, none⟩ : Addr).add j) = some u := by
  intro j u hu
  obtain ⟨A', cap', e, _, _, h3⟩ := h
  obtain ⟨rfl, -, rfl⟩ : some (⟨b, o, none⟩ : Addr) = A' ∧ xs.length = xs.length ∧ cap = cap' := by simpa using e
  rw [List.getElem?_map] at hu
  cases hj : xs[j]? with
  | none => rw [hj] at hu; cases hu
  | some x =>
    rw [hj] at hu
    obtain rfl : Value.int .i64 x = u := by simpa using hu
    obtain ⟨b', o', e1, e2, e3⟩ := h3 j (List.getElem?_eq_some_iff.1 hj).1
    obtain ⟨rfl, rfl⟩ : b = b' ∧ o = o' := by simpa using e1
    rw [add_none, hb.cell e2, e3]
    show some (Value.int .i64 (xs.getD j 0)) = _
    rw [List.getD_eq_getElem?_getD, hj]; rfl
theorem neqb_same (b : Bool) (u : World) : (binOp .neq 4 (.bool b) (.bool b)).run Try.prog u = .ok (.bool false) u := by simp [go_sem]
theorem own_lower {t : TypeId} {B B' sz n : Nat} {v : Value} {cs : List Value} {w : World} (h : w.ownsRow B t sz v n cs) (hB : B' ≤ B) : w.ownsRow B' t sz v n cs := by
  refine ⟨h.1, ?_⟩
  rcases h.2 with hn | ⟨g, cap, cur, e, hb, rest⟩
  · exact .inl hn
  · exact .inr ⟨g, cap, cur, e, Nat.le_trans hB hb, rest⟩
theorem grown_alloc {w w' : World} {o : Obj} {row : Option Nat} (h : (w.alloc o).grownBy w' row) : w.grownBy w' row :=
  ⟨h.os, h.tape, h.output, Nat.le_trans (by simp) h.size, fun k hk hne => (h.block k (by simp; omega) hne).trans (((Below.refl w.heap.size w).alloc (Nat.le_refl _) o).block k hk)⟩
/-- What the law keeps while it copies: the window's copy, the lists copied so far. -/
structure Kp (B : Nat) (vo : Value) (fr : List Bool) (v : Value) (imp : List (List Int)) (k : Nat) (w : World) : Prop where
  o : OwB B vo fr w
  c : Cps B v imp k w
theorem Kp.grow {B : Nat} {vo v : Value} {fr : List Bool} {imp : List (List Int)} {k : Nat} {w w' : World} (h : Kp B vo fr v imp k w) {g : Nat} (hg : w.heap.size ≤ g) (hw : w.grownBy w' (some g)) : Kp B vo fr v imp k w' :=
  ⟨World.ownsRow.kept h.o hw (by
      cases hv : vo.ownBlock
      · exact .inl rfl
      · refine .inr fun e => ?_
        have := (World.ownsRow.lt h.o _ hv).2
        rw [Option.some.inj e] at this
        omega), h.c.grow hg hw⟩
theorem Kp.on {B : Nat} {vo v : Value} {fr : List Bool} {imp : List (List Int)} {k : Nat} {w w' : World} (h : Kp B vo fr v imp k w) (hb : Below w.heap.size w w') : Kp B vo fr v imp k w' := ⟨h.o.on hb, h.c.on hb⟩
theorem Kp.app {B : Nat} {vo v v' u : Value} {fr : List Bool} {imp : List (List Int)} {k : Nat} {cs : List Value} {w w' : World} {o : Obj} (h0 : OwB B vo fr w) (h1 : cs.length = k) (h2 : w.ownsRow B 40 1 v k cs) (h3 : ∀ j, j < k → IntsAt B (cs.getD j (.slice none 0 0)) (imp.getD j []) w) (hu : IntsAt B u (imp.getD k []) w)
    (hown : w'.ownsRow B 40 1 v' (k + 1) (cs ++ [u])) (hg : (w.alloc o).grownBy w' v.ownBlock) : Kp B vo fr v' imp (k + 1) w' :=
  ⟨World.ownsRow.kept (OwB.al h0 o) hg (own_types (OwB.al h0 o) (World.ownsRow.alloc h2 o) (by decide)), Cps.app h1 h2 h3 hu hown hg⟩
set_option maxRecDepth 100000 in
theorem l22k_no (M : TP) (fr : List Bool) (imp : List (List Int)) (vf vi : Value) (W : World) (h1 : BlAt W vf fr) (h2 : LsAt W vi imp) (hf : fewT fr imp = false) : Calls Try.prog 7 #[vf, vi] W fun e w' => e = .returned (.bool true) ∧ Below W.heap.size W w' := by
  have G1 := Lib.hid h1
  have G2 := Lib.hid h2
  have HF := Lib.hid (fun u (q1 : BlAt u vf fr) (q2 : LsAt u vi imp) => show Calls Try.prog 10 #[vf, vi] u fun e w' => e = .returned (.bool false) ∧ u = w' from hf ▸ r22few_any fr imp vf vi u q1 q2)
  clear hf
  clear h1 h2
  go_enter Try.func7, Try.ntmps7
  go_wp2_with fail
  refine (c22awake_any M _).mono ?_
  rintro e w1 ⟨rfl, hb⟩
  have S1 := Lib.hid hb
  clear hb
  go_wp2_with fail
  refine (HF.out _ (G1.out.on S1.out) (G2.out.on S1.out)).mono ?_
  rintro e wq ⟨rfl, rfl⟩
  go_wp2_with fail
  refine (c22awake_any M _).mono ?_
  rintro e w2 ⟨rfl, hb⟩
  have S2 := Lib.hid (below_on S1.out hb)
  clear hb
  go_wp2_with fail
  go_ret
  exact ⟨rfl, S2.out⟩
set_option maxHeartbeats 4000000 in
set_option maxRecDepth 100000 in
theorem l22k_some (M : TP) (fr : List Bool) (imp : List (List Int)) (vf vi : Value) (W : World) (h1 : BlAt W vf fr) (h2 : LsAt W vi imp) (hf : fewT fr imp = true) (ad1 : Addr) (c1 : Nat) (hv1 : vf = .slice (some ad1) fr.length c1) (E R : Int) (ms : List Mv) (HA : ∀ v v' u, BlAt u v fr → LsAt u v' imp → Calls Try.prog 11 #[v, v'] u (RetA 36 u E ms))
    (HO : ∀ v v' u, BlAt u v fr → LsAt u v' imp → Calls Try.prog 16 #[v, v'] u fun e w' => e = .returned (.int .i64 R) ∧ Below u.heap.size u w') : Calls Try.prog 7 #[vf, vi] W fun e w' => e = .returned (.bool true) ∧ Below W.heap.size W w' := by
  obtain ⟨f1, f2, f3, f4⟩ := fewT_iff.1 hf
  have H100 := Lib.hid (fun d (hd : d < imp.length) => f3 (imp.getD d []) (by rw [List.getD_eq_getElem?_getD, List.getElem?_eq_getElem hd]; exact List.getElem_mem hd))
  clear f3 f4
  have G1 := Lib.hid h1
  have G2 := Lib.hid h2
  have HF := Lib.hid (fun u (q1 : BlAt u vf fr) (q2 : LsAt u vi imp) => show Calls Try.prog 10 #[vf, vi] u fun e w' => e = .returned (.bool true) ∧ u = w' from hf ▸ r22few_any fr imp vf vi u q1 q2)
  clear hf
  have HA := Lib.hid HA
  have HO := Lib.hid HO
  have hNE := neqb_same
  obtain ⟨i0, hi, hz0, hz1, hz2⟩ := info_parts infoBool
  obtain ⟨j0, ji, jz0, jz1, jz2⟩ := info_parts infoInts
  obtain ⟨m0, mi, mz0, mz1, mz2⟩ := info_parts infoInt1
  obtain ⟨A2, c2, hvi, hday⟩ := h2.day
  obtain ⟨f, ⟨A2', c2', hvi', -, -, n4⟩, n5⟩ := h2
  subst hvi
  obtain ⟨rfl, -, rfl⟩ : A2 = A2' ∧ imp.length = imp.length ∧ c2 = c2' := by simpa using hvi'
  have N4 := Lib.hid n4
  have N5 := Lib.hid n5
  have HDy := Lib.hid hday
  clear hvi' n4 n5 hday
  have HB1 := Lib.hid (fun (j : Nat) (hj : j < fr.length) => show ∃ A c b o, vf = .slice A fr.length c ∧ A = some ⟨b, o, none⟩ ∧ b < W.heap.size ∧ W.cell? ⟨b, o + j, none⟩ = some (.bool (fr.getD j false)) by
    obtain ⟨A, c, e, _, _, h3⟩ := h1
    obtain ⟨b, o, e1, e2, e3⟩ := h3 j hj
    exact ⟨A, c, b, o, e, e1, e2, e3⟩)
  have HNW : Hid (∀ W', Below W.heap.size W W' → ∀ j u, (fr.map Value.bool)[j]? = some u → W'.cell? (ad1.add j) = some u) := Lib.hid (fun W' hb => by
    subst hv1
    rcases Nat.eq_zero_or_pos fr.length with h0 | h0
    · intro j u h; rw [List.eq_nil_of_length_eq_zero h0] at h; simp at h
    · have h1' := h1
      obtain ⟨A, c, e, _, _, h3⟩ := h1
      obtain ⟨b, o, e1, _, _⟩ := h3 0 h0
      obtain ⟨rfl, -, rfl⟩ : some ad1 = A ∧ fr.length = fr.length ∧ c1 = c := by simpa using e
      obtain rfl : ad1 = ⟨b, o, none⟩ := by simpa using e1
      exact h1'.news rfl hb)
  clear h1
  subst hv1
  obtain ⟨b1, o1, s1⟩ := ad1
  go_enter Try.func7, Try.ntmps7
  go_wp2_with fail
  refine (c22awake_any M _).mono ?_
  rintro e w1 ⟨rfl, hb⟩
  have S1 := Lib.hid hb
  clear hb
  go_wp2_with fail
  refine (HF.out _ (G1.out.on S1.out) (G2.out.on S1.out)).mono ?_
  rintro e wq ⟨rfl, rfl⟩
  have OW1 := Lib.hid (own_empty w1 4 1)
  have BA1 := Lib.hid ((Below.refl w1.heap.size w1).alloc (Nat.le_refl _) (.cells #[] 4))
  have HN1 := Lib.hid (HNW.out _ (below_on S1.out BA1.out))
  go_wp2_with (at_builtin; refine wpList_append_own _ rfl _ _ 22 rfl w1.heap.size 4 i0 (.bool false) 1 1 Try.underlying22 hi hz0 hz1 hz2 rfl (by decide) (.slice (some ⟨w1.heap.size, 0, none⟩) 0 0) 0 [] rfl OW1.out ⟨b1, o1, s1⟩ fr.length c1 (fr.map Value.bool) rfl (by simp) HN1.out (fun u hu => by obtain ⟨x, _, rfl⟩ := List.mem_map.1 hu; rfl) (by unfold maxLen; omega) (by omega) (by simp) ?_; intro v0 w2 hown' hgrow hnn; have hv0 : OwB w1.heap.size v0 fr w2 := (by rw [OwB, ← Nat.zero_add fr.length]; exact hown'); have hb0 := (BA1.out.grown hgrow (by simp) (fun k e => (World.ownsRow.lt OW1.out k e).1)); obtain ⟨gO, cO, rfl, hg1, hg2⟩ := hv0.in (fun e => by have := (hnn.1 e).1; cases this); have V2 := Lib.hid hv0; have B2 := Lib.hid hb0; clear hown' hgrow hnn hv0 hb0)
  go_loopw [6, 7] (fun v i wr => ∃ k : Nat, k ≤ imp.length ∧ i = .int .i64 k ∧ Kp w1.heap.size (.slice (some ⟨gO, 0, none⟩) fr.length cO) fr v imp k wr ∧ Below w1.heap.size w1 wr) (fun _ i _ => imp.length - (intOf i).toNat)
  case atStart => exact ⟨0, Nat.zero_le _, rfl, ⟨V2.out, Cps.nil _ _ _⟩, B2.out⟩
  case round =>
    obtain ⟨k, hk, rfl, hkp, hb⟩ := hrel
    have QK := Lib.hid hkp
    have QB := Lib.hid hb
    clear hkp hb
    by_cases hlt : k < imp.length
    · obtain ⟨b, o, rfl, e2, e3⟩ := N4.out k hlt
      have hin := N5.out k hlt
      have hx := H100.out k hlt
      have hin' := hin
      obtain ⟨A3, c3, hfk, p1, p2, h3⟩ := hin
      rw [hfk] at e3 hin'
      have HX := Lib.hid hin'
      have hc := cell_below e3 (below_on S1.out QB.out)
      have hc2 := cell_below hc ((Below.refl wr.heap.size wr).alloc (Nat.le_refl _) (.cells #[] 3))
      have QZ := Lib.hid QB.out.size
      obtain ⟨cs, q1, q2, q3⟩ := QK.out.c.ex
      have Q1 := Lib.hid q1
      have Q2 := Lib.hid q2
      have Q3 := Lib.hid q3
      obtain ⟨X, hXX⟩ : ∃ X, imp.getD k [] = X := ⟨_, rfl⟩
      rw [hXX] at hx HX hc hc2 p1 h3
      have HXX := Lib.hid hXX
      clear q1 q2 q3 hfk hXX e3 hin'
      cases A3 with
      | none =>
        have hX0 : X = [] := by
          cases X with
          | nil => rfl
          | cons a X => obtain ⟨_, _, e, _⟩ := h3 0 (by simp); cases e
        subst hX0
        clear h3 HX hx p1
        have OE := Lib.hid (own_lower (own_empty wr 3 1) QZ.out)
        have KE := Lib.hid (QK.out.on ((Below.refl wr.heap.size wr).alloc (Nat.le_refl _) (.cells #[] 3)))
        obtain ⟨cs', r1, r2, r3⟩ := KE.out.c.ex
        have R1 := Lib.hid r1
        have R2 := Lib.hid r2
        have R3 := Lib.hid r3
        have hsz := Lib.hid (show (wr.alloc (.cells #[] 3)).heap.size = wr.heap.size + 1 by simp)
        have hcx := Lib.hid (show ∀ j u, [Value.slice (some ⟨wr.heap.size, 0, none⟩) 0 0][j]? = some u → ((wr.alloc (.cells #[] 3)).alloc (.cells #[.slice (some ⟨wr.heap.size, 0, none⟩) 0 0] 40)).cell? ((⟨wr.heap.size + 1, 0, none⟩ : Addr).add j) = some u by have := cell_one_new (wr.alloc (.cells #[] 3)) (.slice (some ⟨wr.heap.size, 0, none⟩) 0 0) 40; rwa [hsz.out] at this)
        have BE := Lib.hid (QB.out.alloc QB.out.size (.cells #[] 3))
        clear r1 r2 r3
        go_wp2_with (at_builtin; refine wpList_append_own _ rfl _ _ 23 rfl w1.heap.size 40 j0 (.slice none 0 0) 1 24 Try.underlying23 ji jz0 jz1 jz2 rfl (by decide) u6 k cs' rfl (World.ownsRow.alloc R2.out _) ⟨wr.heap.size + 1, 0, none⟩ 1 1 [.slice (some ⟨wr.heap.size, 0, none⟩) 0 0] rfl rfl hcx.out (by simp [Value.oneCell']) (by unfold maxLen; omega) (by omega) (by have := QZ.out; simp; omega) ?_; intro v' w3 hown' hgrow _; have HW := Lib.hid hown'; have HG := Lib.hid hgrow; clear hown' hgrow)
        have K3 : Hid (Kp w1.heap.size (.slice (some ⟨gO, 0, none⟩) fr.length cO) fr v' imp (k + 1) w3) := Lib.hid (Kp.app KE.out.o R1.out R2.out R3.out (by rw [HXX.out]; exact OE.out) HW.out HG.out)
        have B3 := Lib.hid ((BE.out.alloc BE.out.size _).grown HG.out (by have := BE.out.size; simp at this ⊢; omega) (fun g e => (World.ownsRow.lt R2.out g e).1))
        go_wp2_with fail
        go_roundw
        case rel => exact ⟨k + 1, by omega, by go_num, K3.out, B3.out⟩
        case measure => simp [intOf]; omega
      | some ad =>
        have hnews : Hid (∀ j u, (X.map (Value.int .i64))[j]? = some u → (wr.alloc (.cells #[] 3)).cell? (ad.add j) = some u) := Lib.hid (by
          cases X with
          | nil => intro j u h; simp at h
          | cons a X' =>
            obtain ⟨b3, o3, e, _, _⟩ := h3 0 (by simp)
            obtain rfl : ad = ⟨b3, o3, none⟩ := by simpa using e
            exact HX.out.news (below_on (below_on S1.out QB.out) ((Below.refl wr.heap.size wr).alloc (Nat.le_refl _) _)))
        clear h3 HX
        have OE := Lib.hid (own_lower (own_empty wr 3 1) QZ.out)
        have BE := Lib.hid (QB.out.alloc QB.out.size (.cells #[] 3))
        have HXl : Hid ((X.map (Value.int .i64)).length = X.length * 1) := Lib.hid (by simp)
        go_wp2_with (first
          | (at_builtin; refine wpList_append_own _ rfl _ _ 40 rfl w1.heap.size 3 m0 (.int .i64 0) 1 8 Try.underlying40 mi mz0 mz1 mz2 rfl (by decide) (.slice (some ⟨wr.heap.size, 0, none⟩) 0 0) 0 [] rfl OE.out ad X.length c3 (X.map (Value.int .i64)) rfl HXl.out hnews.out (fun u hu => by obtain ⟨x, _, rfl⟩ := List.mem_map.1 hu; rfl) (by unfold maxLen; omega) (by omega) (by have := QZ.out; simp; omega) ?_; intro v1 w2' hown1 hgrow1 hnn1; rw [Nat.zero_add, List.nil_append] at hown1; obtain ⟨gE, cE, rfl, hgE, hgE2⟩ := own_in hown1 (fun e => by have := (hnn1.1 e).1; cases this); have IE : Hid (IntsAt w1.heap.size (.slice (some ⟨gE, 0, none⟩) X.length cE) X w2') := Lib.hid hown1; have K2 := Lib.hid (QK.out.grow (Nat.le_refl _) (grown_alloc hgrow1)); have BW2 := Lib.hid (BE.out.grown hgrow1 (by have := BE.out.size; exact this) (fun g e => (World.ownsRow.lt OE.out g e).1)); obtain ⟨cs', r1, r2, r3⟩ := K2.out.c.ex; have R1 := Lib.hid r1; have R2 := Lib.hid r2; have R3 := Lib.hid r3; have HZ2 := Lib.hid BW2.out.size; clear hown1 hgrow1 hnn1 r1 r2 r3 hgE hgE2)
          | (at_builtin; refine wpList_append_own _ rfl _ _ 23 rfl w1.heap.size 40 j0 (.slice none 0 0) 1 24 Try.underlying23 ji jz0 jz1 jz2 rfl (by decide) u6 k cs' rfl (World.ownsRow.alloc R2.out _) ⟨w2'.heap.size, 0, none⟩ 1 1 [.slice (some ⟨gE, 0, none⟩) X.length cE] rfl rfl (cell_one_new _ _ _) (by simp [Value.oneCell']) (by unfold maxLen; omega) (by omega) (by have := HZ2.out; simp; omega) ?_; intro v' w3 hown' hgrow _; have HW := Lib.hid hown'; have HG := Lib.hid hgrow; clear hown' hgrow))
        have K3 : Hid (Kp w1.heap.size (.slice (some ⟨gO, 0, none⟩) fr.length cO) fr v' imp (k + 1) w3) := Lib.hid (Kp.app K2.out.o R1.out R2.out R3.out (by rw [HXX.out]; exact IE.out) HW.out HG.out)
        have B3 := Lib.hid ((BW2.out.alloc BW2.out.size _).grown HG.out (by have := BW2.out.size; simp at this ⊢; omega) (fun g e => (World.ownsRow.lt R2.out g e).1))
        go_wp2_with fail
        go_roundw
        case rel => exact ⟨k + 1, by omega, by go_num, K3.out, B3.out⟩
        case measure => simp [intOf]; omega
    · obtain rfl : k = imp.length := by omega
      have S4 := Lib.hid (below_on S1.out QB.out)
      have LL := Lib.hid (QK.out.c.at rfl)
      have OO := Lib.hid (OwB.at QK.out.o)
      go_wp2_with fail
      refine (HA.out _ _ _ OO.out LL.out).mono ?_
      rintro e w5 ⟨v5, rfl, -, hb⟩
      have S5 := Lib.hid (below_on S4.out hb)
      have L5 := Lib.hid (LL.out.on hb)
      have O5 := Lib.hid (OO.out.on hb)
      clear hb
      go_wp2_with fail
      refine (HO.out _ _ _ O5.out L5.out).mono ?_
      rintro e w6 ⟨rfl, hb⟩
      have S6 := Lib.hid (below_on S5.out hb)
      have O6 := Lib.hid (O5.out.on hb)
      obtain ⟨A7, c7, rfl, hday7⟩ := (L5.out.on hb).day
      have HD7 := Lib.hid hday7
      clear hb hday7 L5 LL
      go_wp2_with fail
      go_loopw [8] (fun i wr => ∃ k : Nat, k ≤ fr.length ∧ i = .int .i64 k ∧ Below w6.heap.size w6 wr) (fun i _ => fr.length - (intOf i).toNat)
      case atStart => exact ⟨0, Nat.zero_le _, rfl, Below.refl _ _⟩
      case round =>
        obtain ⟨k, hk, rfl, hb⟩ := hrel
        have QW := Lib.hid hb
        clear hb
        by_cases hlt : k < fr.length
        · obtain ⟨A', c', b, o, hv, hA, e2, e3⟩ := HB1.out k hlt
          obtain ⟨rfl, -, rfl⟩ : some (⟨b1, o1, s1⟩ : Addr) = A' ∧ fr.length = fr.length ∧ c1 = c' := by simpa using hv
          obtain ⟨rfl, rfl, rfl⟩ : b1 = b ∧ o1 = o ∧ s1 = none := by simpa using hA
          clear hv hA
          have z1 := cell_below e3 (below_on S6.out QW.out)
          have z2 : wr.cell? ⟨gO, k, none⟩ = some (.bool (fr.getD k false)) := by
            obtain ⟨A'', c'', e, _, _, h3⟩ := O6.out
            obtain ⟨b'', o'', e1, _, e4⟩ := h3 k hlt
            obtain ⟨rfl, -, -⟩ : some (⟨gO, 0, none⟩ : Addr) = A'' ∧ fr.length = fr.length ∧ cO = c'' := by simpa using e
            obtain ⟨rfl, rfl⟩ : gO = b'' ∧ 0 = o'' := by simpa using e1
            rw [Nat.zero_add] at e4
            exact cell_below e4 QW.out
          generalize fr.getD k false = fk at *
          have hE1 := hNE fk
          clear e3
          go_wp2_with fail
          go_quiet (fail)
          go_wp2_with fail
          go_roundw
          case rel => exact ⟨k + 1, by omega, by go_num, below_dn QW.out _⟩
          case measure => simp [intOf]; omega
        · obtain rfl : k = fr.length := by omega
          go_wp2_with fail
          go_loopw [9] (fun i wr => ∃ k : Nat, k ≤ imp.length ∧ i = .int .i64 k ∧ Below w6.heap.size w6 wr) (fun i _ => imp.length - (intOf i).toNat)
          case atStart => exact ⟨0, Nat.zero_le _, rfl, QW.out⟩
          case round =>
            clear QW
            obtain ⟨k, hk, rfl, hb⟩ := hrel
            have QW := Lib.hid hb
            clear hb
            by_cases hlt : k < imp.length
            · obtain ⟨b, o, A3, c3, rfl, e2, e3, p2, h5⟩ := HDy.out k hlt
              obtain ⟨b7, o7, A8, c8, rfl, e4, e5, p3, h6⟩ := HD7.out k hlt
              have H5 := Lib.hid h5
              have H6 := Lib.hid h6
              have E3 := Lib.hid (cell_below e3 S6.out)
              have E5 := Lib.hid e5
              have hx := H100.out k hlt
              clear h5 h6 e3 e5
              generalize imp.getD k [] = X at *
              have z1 := cell_below E3.out QW.out
              have z2 := cell_below E5.out QW.out
              have hne : ((X.length : Int) != (X.length : Int)) = false := by simp
              go_wp2_with fail
              go_quiet (fail)
              go_wp2_with fail
              have QD := Lib.hid (below_dn QW.out 1)
              go_loopw [10] (fun i wr' => ∃ q : Nat, q ≤ X.length ∧ i = .int .i64 q ∧ Below w6.heap.size w6 wr') (fun i _ => X.length - (intOf i).toNat)
              case atStart => exact ⟨0, Nat.zero_le _, rfl, below_dn QW.out _⟩
              case round =>
                clear z1 z2 QD QW
                obtain ⟨q, hq, rfl, hb⟩ := hrel
                have QV := Lib.hid hb
                clear hb
                have z1 := cell_below E3.out QV.out
                have z2 := cell_below E5.out QV.out
                by_cases hlq : q < X.length
                · obtain ⟨f0, hf0⟩ : ∃ f, X[q]? = some f := ⟨_, List.getElem?_eq_getElem hlq⟩
                  obtain ⟨b9, o9, rfl, _, e9⟩ := H5.out q f0 hf0
                  obtain ⟨b10, o10, rfl, _, e10⟩ := H6.out q f0 hf0
                  have z3 := cell_below e9 (below_on S6.out QV.out)
                  have z4 := cell_below e10 QV.out
                  clear e9 e10 hf0
                  go_wp2_with fail
                  go_quiet (fail)
                  go_wp2_with fail
                  go_roundw
                  case rel => exact ⟨q + 1, by omega, by go_num, below_dn QV.out _⟩
                  case measure => simp [intOf]; omega
                · obtain rfl : q = X.length := by omega
                  go_wp2_with fail
                  go_roundw
                  case rel => exact ⟨k + 1, by omega, by go_num, QV.out⟩
                  case measure => simp [intOf]; omega
            · obtain rfl : k = imp.length := by omega
              have S9 := Lib.hid (below_on S6.out QW.out)
              go_wp2_with fail
              go_ret
              exact ⟨rfl, S9.out⟩
set_option maxHeartbeats 600000 in
set_option maxRecDepth 100000 in
theorem l22k_nil (M : TP) (fr : List Bool) (imp : List (List Int)) (vf vi : Value) (W : World) (h1 : BlAt W vf fr) (h2 : LsAt W vi imp) (hf : fewT fr imp = true) (c1 : Nat) (hv1 : vf = .slice none 0 c1) (h0 : fr = []) (E R : Int) (ms : List Mv) (HA : ∀ v v' u, BlAt u v fr → LsAt u v' imp → Calls Try.prog 11 #[v, v'] u (RetA 36 u E ms))
    (HO : ∀ v v' u, BlAt u v fr → LsAt u v' imp → Calls Try.prog 16 #[v, v'] u fun e w' => e = .returned (.int .i64 R) ∧ Below u.heap.size u w') : Calls Try.prog 7 #[vf, vi] W fun e w' => e = .returned (.bool true) ∧ Below W.heap.size W w' := by
  obtain ⟨f1, f2, f3, f4⟩ := fewT_iff.1 hf
  have H100 := Lib.hid (fun d (hd : d < imp.length) => f3 (imp.getD d []) (by rw [List.getD_eq_getElem?_getD, List.getElem?_eq_getElem hd]; exact List.getElem_mem hd))
  clear f3 f4
  have G1 := Lib.hid h1
  have G2 := Lib.hid h2
  have HF := Lib.hid (fun u (q1 : BlAt u vf fr) (q2 : LsAt u vi imp) => show Calls Try.prog 10 #[vf, vi] u fun e w' => e = .returned (.bool true) ∧ u = w' from hf ▸ r22few_any fr imp vf vi u q1 q2)
  clear hf
  have HA := Lib.hid HA
  have HO := Lib.hid HO
  have hNE := neqb_same
  obtain ⟨i0, hi, hz0, hz1, hz2⟩ := info_parts infoBool
  obtain ⟨j0, ji, jz0, jz1, jz2⟩ := info_parts infoInts
  obtain ⟨m0, mi, mz0, mz1, mz2⟩ := info_parts infoInt1
  obtain ⟨A2, c2, hvi, hday⟩ := h2.day
  obtain ⟨f, ⟨A2', c2', hvi', -, -, n4⟩, n5⟩ := h2
  subst hvi
  obtain ⟨rfl, -, rfl⟩ : A2 = A2' ∧ imp.length = imp.length ∧ c2 = c2' := by simpa using hvi'
  have N4 := Lib.hid n4
  have N5 := Lib.hid n5
  have HDy := Lib.hid hday
  clear hvi' n4 n5 hday
  subst h0
  subst hv1
  clear h1
  go_enter Try.func7, Try.ntmps7
  go_wp2_with fail
  refine (c22awake_any M _).mono ?_
  rintro e w1 ⟨rfl, hb⟩
  have S1 := Lib.hid hb
  clear hb
  go_wp2_with fail
  refine (HF.out _ (G1.out.on S1.out) (G2.out.on S1.out)).mono ?_
  rintro e wq ⟨rfl, rfl⟩
  have V2 : Hid (OwB w1.heap.size (.slice (some ⟨w1.heap.size, 0, none⟩) 0 0) [] (w1.alloc (.cells #[] 4))) := Lib.hid (own_empty w1 4 1)
  have B2 := Lib.hid ((Below.refl w1.heap.size w1).alloc (Nat.le_refl _) (.cells #[] 4))
  go_wp2_with fail
  go_loopw [6, 7] (fun v i wr => ∃ k : Nat, k ≤ imp.length ∧ i = .int .i64 k ∧ Kp w1.heap.size (.slice (some ⟨w1.heap.size, 0, none⟩) 0 0) [] v imp k wr ∧ Below w1.heap.size w1 wr) (fun _ i _ => imp.length - (intOf i).toNat)
  case atStart => exact ⟨0, Nat.zero_le _, rfl, ⟨V2.out, Cps.nil _ _ _⟩, B2.out⟩
  case round =>
    obtain ⟨k, hk, rfl, hkp, hb⟩ := hrel
    have QK := Lib.hid hkp
    have QB := Lib.hid hb
    clear hkp hb
    by_cases hlt : k < imp.length
    · obtain ⟨b, o, rfl, e2, e3⟩ := N4.out k hlt
      have hin := N5.out k hlt
      have hx := H100.out k hlt
      have hin' := hin
      obtain ⟨A3, c3, hfk, p1, p2, h3⟩ := hin
      rw [hfk] at e3 hin'
      have HX := Lib.hid hin'
      have hc := cell_below e3 (below_on S1.out QB.out)
      have hc2 := cell_below hc ((Below.refl wr.heap.size wr).alloc (Nat.le_refl _) (.cells #[] 3))
      have QZ := Lib.hid QB.out.size
      obtain ⟨cs, q1, q2, q3⟩ := QK.out.c.ex
      have Q1 := Lib.hid q1
      have Q2 := Lib.hid q2
      have Q3 := Lib.hid q3
      obtain ⟨X, hXX⟩ : ∃ X, imp.getD k [] = X := ⟨_, rfl⟩
      rw [hXX] at hx HX hc hc2 p1 h3
      have HXX := Lib.hid hXX
      clear q1 q2 q3 hfk hXX e3 hin'
      cases A3 with
      | none =>
        have hX0 : X = [] := by
          cases X with
          | nil => rfl
          | cons a X => obtain ⟨_, _, e, _⟩ := h3 0 (by simp); cases e
        subst hX0
        clear h3 HX hx p1
        have OE := Lib.hid (own_lower (own_empty wr 3 1) QZ.out)
        have KE := Lib.hid (QK.out.on ((Below.refl wr.heap.size wr).alloc (Nat.le_refl _) (.cells #[] 3)))
        obtain ⟨cs', r1, r2, r3⟩ := KE.out.c.ex
        have R1 := Lib.hid r1
        have R2 := Lib.hid r2
        have R3 := Lib.hid r3
        have hsz := Lib.hid (show (wr.alloc (.cells #[] 3)).heap.size = wr.heap.size + 1 by simp)
        have hcx := Lib.hid (show ∀ j u, [Value.slice (some ⟨wr.heap.size, 0, none⟩) 0 0][j]? = some u → ((wr.alloc (.cells #[] 3)).alloc (.cells #[.slice (some ⟨wr.heap.size, 0, none⟩) 0 0] 40)).cell? ((⟨wr.heap.size + 1, 0, none⟩ : Addr).add j) = some u by have := cell_one_new (wr.alloc (.cells #[] 3)) (.slice (some ⟨wr.heap.size, 0, none⟩) 0 0) 40; rwa [hsz.out] at this)
        have BE := Lib.hid (QB.out.alloc QB.out.size (.cells #[] 3))
        clear r1 r2 r3
        go_wp2_with (at_builtin; refine wpList_append_own _ rfl _ _ 23 rfl w1.heap.size 40 j0 (.slice none 0 0) 1 24 Try.underlying23 ji jz0 jz1 jz2 rfl (by decide) u6 k cs' rfl (World.ownsRow.alloc R2.out _) ⟨wr.heap.size + 1, 0, none⟩ 1 1 [.slice (some ⟨wr.heap.size, 0, none⟩) 0 0] rfl rfl hcx.out (by simp [Value.oneCell']) (by unfold maxLen; omega) (by omega) (by have := QZ.out; simp; omega) ?_; intro v' w3 hown' hgrow _; have HW := Lib.hid hown'; have HG := Lib.hid hgrow; clear hown' hgrow)
        have K3 : Hid (Kp w1.heap.size (.slice (some ⟨w1.heap.size, 0, none⟩) 0 0) [] v' imp (k + 1) w3) := Lib.hid (Kp.app KE.out.o R1.out R2.out R3.out (by rw [HXX.out]; exact OE.out) HW.out HG.out)
        have B3 := Lib.hid ((BE.out.alloc BE.out.size _).grown HG.out (by have := BE.out.size; simp at this ⊢; omega) (fun g e => (World.ownsRow.lt R2.out g e).1))
        go_wp2_with fail
        go_roundw
        case rel => exact ⟨k + 1, by omega, by go_num, K3.out, B3.out⟩
        case measure => simp [intOf]; omega
      | some ad =>
        have hnews : Hid (∀ j u, (X.map (Value.int .i64))[j]? = some u → (wr.alloc (.cells #[] 3)).cell? (ad.add j) = some u) := Lib.hid (by
          cases X with
          | nil => intro j u h; simp at h
          | cons a X' =>
            obtain ⟨b3, o3, e, _, _⟩ := h3 0 (by simp)
            obtain rfl : ad = ⟨b3, o3, none⟩ := by simpa using e
            exact HX.out.news (below_on (below_on S1.out QB.out) ((Below.refl wr.heap.size wr).alloc (Nat.le_refl _) _)))
        clear h3 HX
        have OE := Lib.hid (own_lower (own_empty wr 3 1) QZ.out)
        have BE := Lib.hid (QB.out.alloc QB.out.size (.cells #[] 3))
        have HXl : Hid ((X.map (Value.int .i64)).length = X.length * 1) := Lib.hid (by simp)
        go_wp2_with (first
          | (at_builtin; refine wpList_append_own _ rfl _ _ 40 rfl w1.heap.size 3 m0 (.int .i64 0) 1 8 Try.underlying40 mi mz0 mz1 mz2 rfl (by decide) (.slice (some ⟨wr.heap.size, 0, none⟩) 0 0) 0 [] rfl OE.out ad X.length c3 (X.map (Value.int .i64)) rfl HXl.out hnews.out (fun u hu => by obtain ⟨x, _, rfl⟩ := List.mem_map.1 hu; rfl) (by unfold maxLen; omega) (by omega) (by have := QZ.out; simp; omega) ?_; intro v1 w2' hown1 hgrow1 hnn1; rw [Nat.zero_add, List.nil_append] at hown1; obtain ⟨gE, cE, rfl, hgE, hgE2⟩ := own_in hown1 (fun e => by have := (hnn1.1 e).1; cases this); have IE : Hid (IntsAt w1.heap.size (.slice (some ⟨gE, 0, none⟩) X.length cE) X w2') := Lib.hid hown1; have K2 := Lib.hid (QK.out.grow (Nat.le_refl _) (grown_alloc hgrow1)); have BW2 := Lib.hid (BE.out.grown hgrow1 (by have := BE.out.size; exact this) (fun g e => (World.ownsRow.lt OE.out g e).1)); obtain ⟨cs', r1, r2, r3⟩ := K2.out.c.ex; have R1 := Lib.hid r1; have R2 := Lib.hid r2; have R3 := Lib.hid r3; have HZ2 := Lib.hid BW2.out.size; clear hown1 hgrow1 hnn1 r1 r2 r3 hgE hgE2)
          | (at_builtin; refine wpList_append_own _ rfl _ _ 23 rfl w1.heap.size 40 j0 (.slice none 0 0) 1 24 Try.underlying23 ji jz0 jz1 jz2 rfl (by decide) u6 k cs' rfl (World.ownsRow.alloc R2.out _) ⟨w2'.heap.size, 0, none⟩ 1 1 [.slice (some ⟨gE, 0, none⟩) X.length cE] rfl rfl (cell_one_new _ _ _) (by simp [Value.oneCell']) (by unfold maxLen; omega) (by omega) (by have := HZ2.out; simp; omega) ?_; intro v' w3 hown' hgrow _; have HW := Lib.hid hown'; have HG := Lib.hid hgrow; clear hown' hgrow))
        have K3 : Hid (Kp w1.heap.size (.slice (some ⟨w1.heap.size, 0, none⟩) 0 0) [] v' imp (k + 1) w3) := Lib.hid (Kp.app K2.out.o R1.out R2.out R3.out (by rw [HXX.out]; exact IE.out) HW.out HG.out)
        have B3 := Lib.hid ((BW2.out.alloc BW2.out.size _).grown HG.out (by have := BW2.out.size; simp at this ⊢; omega) (fun g e => (World.ownsRow.lt R2.out g e).1))
        go_wp2_with fail
        go_roundw
        case rel => exact ⟨k + 1, by omega, by go_num, K3.out, B3.out⟩
        case measure => simp [intOf]; omega
    · obtain rfl : k = imp.length := by omega
      have S4 := Lib.hid (below_on S1.out QB.out)
      have LL := Lib.hid (QK.out.c.at rfl)
      have OO := Lib.hid (OwB.at QK.out.o)
      go_wp2_with fail
      refine (HA.out _ _ _ OO.out LL.out).mono ?_
      rintro e w5 ⟨v5, rfl, -, hb⟩
      have S5 := Lib.hid (below_on S4.out hb)
      have L5 := Lib.hid (LL.out.on hb)
      have O5 := Lib.hid (OO.out.on hb)
      clear hb
      go_wp2_with fail
      refine (HO.out _ _ _ O5.out L5.out).mono ?_
      rintro e w6 ⟨rfl, hb⟩
      have S6 := Lib.hid (below_on S5.out hb)
      have O6 := Lib.hid (O5.out.on hb)
      obtain ⟨A7, c7, rfl, hday7⟩ := (L5.out.on hb).day
      have HD7 := Lib.hid hday7
      clear hb hday7 L5 LL
      go_wp2_with fail
      refine wp_loop_rounds 1 ?_
      rw [rounds_succ]
      have QW := Lib.hid (Below.refl w6.heap.size w6)
      go_wp2_with fail
      go_loopw [9] (fun i wr => ∃ k : Nat, k ≤ imp.length ∧ i = .int .i64 k ∧ Below w6.heap.size w6 wr) (fun i _ => imp.length - (intOf i).toNat)
      case atStart => exact ⟨0, Nat.zero_le _, rfl, QW.out⟩
      case round =>
        clear QW
        obtain ⟨k, hk, rfl, hb⟩ := hrel
        have QW := Lib.hid hb
        clear hb
        by_cases hlt : k < imp.length
        · obtain ⟨b, o, A3, c3, rfl, e2, e3, p2, h5⟩ := HDy.out k hlt
          obtain ⟨b7, o7, A8, c8, rfl, e4, e5, p3, h6⟩ := HD7.out k hlt
          have H5 := Lib.hid h5
          have H6 := Lib.hid h6
          have E3 := Lib.hid (cell_below e3 S6.out)
          have E5 := Lib.hid e5
          have hx := H100.out k hlt
          clear h5 h6 e3 e5
          generalize imp.getD k [] = X at *
          have z1 := cell_below E3.out QW.out
          have z2 := cell_below E5.out QW.out
          have hne : ((X.length : Int) != (X.length : Int)) = false := by simp
          go_wp2_with fail
          go_quiet (fail)
          go_wp2_with fail
          have QD := Lib.hid (below_dn QW.out 1)
          go_loopw [10] (fun i wr' => ∃ q : Nat, q ≤ X.length ∧ i = .int .i64 q ∧ Below w6.heap.size w6 wr') (fun i _ => X.length - (intOf i).toNat)
          case atStart => exact ⟨0, Nat.zero_le _, rfl, below_dn QW.out _⟩
          case round =>
            clear z1 z2 QD QW
            obtain ⟨q, hq, rfl, hb⟩ := hrel
            have QV := Lib.hid hb
            clear hb
            have z1 := cell_below E3.out QV.out
            have z2 := cell_below E5.out QV.out
            by_cases hlq : q < X.length
            · obtain ⟨f0, hf0⟩ : ∃ f, X[q]? = some f := ⟨_, List.getElem?_eq_getElem hlq⟩
              obtain ⟨b9, o9, rfl, _, e9⟩ := H5.out q f0 hf0
              obtain ⟨b10, o10, rfl, _, e10⟩ := H6.out q f0 hf0
              have z3 := cell_below e9 (below_on S6.out QV.out)
              have z4 := cell_below e10 QV.out
              clear e9 e10 hf0
              go_wp2_with fail
              go_quiet (fail)
              go_wp2_with fail
              go_roundw
              case rel => exact ⟨q + 1, by omega, by go_num, below_dn QV.out _⟩
              case measure => simp [intOf]; omega
            · obtain rfl : q = X.length := by omega
              go_wp2_with fail
              go_roundw
              case rel => exact ⟨k + 1, by omega, by go_num, QV.out⟩
              case measure => simp [intOf]; omega
        · obtain rfl : k = imp.length := by omega
          have S9 := Lib.hid (below_on S6.out QW.out)
          go_wp2_with fail
          go_ret
          exact ⟨rfl, S9.out⟩
theorem l22k_any (M : TP) (fr : List Bool) (imp : List (List Int)) (vf vi : Value) (W : World) (h1 : BlAt W vf fr) (h2 : LsAt W vi imp) : Calls Try.prog 7 #[vf, vi] W fun e w' => e = .returned (.bool true) ∧ Below W.heap.size W w' := by
  cases hf : fewT fr imp
  · exact l22k_no M fr imp vf vi W h1 h2 hf
  · have hA := fun v v' u q1 q2 => M.asg fr imp v v' u q1 q2 hf
    have hO := fun v v' u q1 q2 => M.rm fr imp v v' u q1 q2 hf
    have h1' := h1
    obtain ⟨A, c, hv, _, _, h3⟩ := h1
    cases A with
    | none =>
      have h0 : fr = [] := by
        rcases Nat.eq_zero_or_pos fr.length with h | h
        · exact List.eq_nil_of_length_eq_zero h
        · obtain ⟨_, _, e, _⟩ := h3 0 h; cases e
      exact l22k_nil M fr imp vf vi W h1' h2 hf c (by rw [hv, h0]; rfl) h0 _ _ _ hA hO
    | some ad => exact l22k_some M fr imp vf vi W h1' h2 hf ad c hv _ _ _ hA hO
end Go.Proofs.Ytaifhikhdcnacaa
