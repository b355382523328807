/- What earlier stages proved: Yz Za Zb Zn. -/
import Derived.Test.YtkhicgafhbecfaaGreatDoorP6
namespace Go.Proofs.YtkhicgafhbecfaaGreatDoor
open Go.RowKit

theorem r26in (y : Int) (w : World) : Calls Tryz.prog 27 #[.int .i64 y] w fun e w' => e = .returned (.bool (inT y)) ∧ w = w' := by
  cases h0 : decide (-9999999999 ≤ y)
  all_goals
    go_enter Tryz.func27, Tryz.ntmps27
    go_wp2
    go_ret
    exact ⟨ret_bool (by simp [inT, h0]), rfl⟩
theorem r26in_is {y : Int} {b : Bool} (h : inT y = b) (w : World) : Calls Tryz.prog 27 #[.int .i64 y] w fun e w' => e = .returned (.bool b) ∧ w = w' := h ▸ r26in y w
theorem r17id_is {s : ByteArray} {b : Bool} (h : idn s = b) (w : World) : Calls Tryz.prog 28 #[.string s] w fun e w' => e = .returned (.bool b) ∧ w = w' := h ▸ r17id_any s w
theorem six_row {q : Nat} {k m d o w c : Int} {T : TypeId} {u : World} (h : u.heap[q]? = some (.cells #[.int .i64 k, .int .i64 m, .int .i64 d, .int .i64 o, .int .i64 w, .int .i64 c] T (0, 0))) :
    u.cell? ⟨q, 0, none⟩ = some (.int .i64 k) ∧ u.cell? ⟨q, 1, none⟩ = some (.int .i64 m) ∧ u.cell? ⟨q, 2, none⟩ = some (.int .i64 d) ∧ u.cell? ⟨q, 3, none⟩ = some (.int .i64 o) ∧ u.cell? ⟨q, 4, none⟩ = some (.int .i64 w) ∧ u.cell? ⟨q, 5, none⟩ = some (.int .i64 c) := by
  refine ⟨?_, ?_, ?_, ?_, ?_, ?_⟩ <;> (rw [cell_of_row _ _ _ _ _ _ h]; rfl)
theorem all_take {f : Itm → Bool} : ∀ (l : List Itm) (k : Nat) (t : Itm), l[k]? = some t → (l.take (k + 1)).all f = ((l.take k).all f && f t)
  | [], k, t, h => by simp at h
  | x :: l, 0, t, h => by
    simp at h; subst h
    simp
  | x :: l, k + 1, t, h => by
    have := all_take (f := f) l k t (by simpa using h)
    rw [List.take_succ_cons, List.take_succ_cons, List.all_cons, List.all_cons, this, Bool.and_assoc]
theorem all_bad {f : Itm → Bool} {l : List Itm} {k : Nat} {t : Itm} (h : l[k]? = some t) (hb : f t = false) : l.all f = false := by
  cases e : l.all f
  · rfl
  · have := List.all_eq_true.1 e t (List.mem_of_getElem? h)
    rw [hb] at this; cases this
end Go.Proofs.YtkhicgafhbecfaaGreatDoor

namespace Go.Proofs.YtkhicgafhbecfaaGreatDoor
open Go.RowKit

theorem nd_wSp : NoDg wSp := by unfold NoDg; exact ⟨by decide, by decide⟩
theorem nd_wLf : NoDg wLf := by unfold NoDg; exact ⟨by decide, by decide⟩
theorem rd_N {α : Type} {e : ByteArray} (he : NoDg e) (hw : Wok [e]) {g : Int → Prs α} {pg : α → ByteArray} {okg : Int → α → Prop} (p : α → Int) (hg : ∀ a, Rd (g a) pg (okg a)) (hp : ∀ a v, okg a v → p v = a) (Gg : ∀ a, Gk (g a)) :
    Rd (yB (zN e) g) (fun v => (itB (p v) ++ e) ++ pg v) (fun v => inT (p v) = true ∧ okg (p v) v) := rd_B p (rd_zN he hw) (fun a _ => hg a) hp (gd_zN e) Gg
theorem rd_f1 (m : Int) : Rd (yB (zN wLf) fun d => yR (⟨1, m, d, 0, 0, 0⟩ : Anc)) (fun v => (itB v.d ++ wLf) ++ ByteArray.empty) (fun v => inT v.d = true ∧ v = ⟨1, m, v.d, 0, 0, 0⟩) :=
  rd_N (g := fun d => yR (⟨1, m, d, 0, 0, 0⟩ : Anc)) (pg := fun _ => ByteArray.empty) (okg := fun d v => v = ⟨1, m, d, 0, 0, 0⟩) nd_wLf wds_wLf.ok Anc.d (fun _ => rd_R _) (fun _ _ h => congrArg Anc.d h) (fun _ => gd_R _)
theorem rd_f2 : Rd pFix (fun v => (itB v.m ++ wSp) ++ ((itB v.d ++ wLf) ++ ByteArray.empty)) (fun v => inT v.m = true ∧ inT v.d = true ∧ v = ⟨1, v.m, v.d, 0, 0, 0⟩) :=
  rd_N (g := fun m => yB (zN wLf) fun d => yR (⟨1, m, d, 0, 0, 0⟩ : Anc)) (pg := fun v => (itB v.d ++ wLf) ++ ByteArray.empty) (okg := fun m v => inT v.d = true ∧ v = ⟨1, m, v.d, 0, 0, 0⟩) nd_wSp wds_wSp.ok Anc.m rd_f1 (fun _ _ h => congrArg Anc.m h.2) (fun _ => gd_B (gd_zN _) fun _ => gd_R _)
theorem rd_Fix : Rd pFix (fun a => itB a.m ++ (wSp ++ (itB a.d ++ wLf))) (fun a => inT a.m = true ∧ inT a.d = true ∧ a = ⟨1, a.m, a.d, 0, 0, 0⟩) := rd_f2.to (fun _ => Iff.rfl) (fun v _ => by simp only [ByteArray.append_assoc, ByteArray.append_empty])
theorem rd_e1 : Rd pEas (fun v => (itB v.o ++ wLf) ++ ByteArray.empty) (fun v => inT v.o = true ∧ v = ⟨2, 0, 0, v.o, 0, 0⟩) :=
  rd_N (g := fun o => yR (⟨2, 0, 0, o, 0, 0⟩ : Anc)) (pg := fun _ => ByteArray.empty) (okg := fun o v => v = ⟨2, 0, 0, o, 0, 0⟩) nd_wLf wds_wLf.ok Anc.o (fun _ => rd_R _) (fun _ _ h => congrArg Anc.o h) (fun _ => gd_R _)
theorem rd_Eas : Rd pEas (fun a => itB a.o ++ wLf) (fun a => inT a.o = true ∧ a = ⟨2, 0, 0, a.o, 0, 0⟩) := rd_e1.to (fun _ => Iff.rfl) (fun v _ => by simp only [ByteArray.append_empty])
theorem nm_lWd {w : Int} (h : 0 ≤ w ∧ w < 7) : lWd.getD w.toNat ByteArray.empty = nm w := by
  have : w = 0 ∨ w = 1 ∨ w = 2 ∨ w = 3 ∨ w = 4 ∨ w = 5 ∨ w = 6 := by omega
  rcases this with rfl | rfl | rfl | rfl | rfl | rfl | rfl <;> rfl
theorem rd_n1 (w c m : Int) : Rd (yB (zN wLf) fun d => yR (⟨3, m, d, 0, w, c⟩ : Anc)) (fun v => (itB v.d ++ wLf) ++ ByteArray.empty) (fun v => inT v.d = true ∧ v = ⟨3, m, v.d, 0, w, c⟩) :=
  rd_N (g := fun d => yR (⟨3, m, d, 0, w, c⟩ : Anc)) (pg := fun _ => ByteArray.empty) (okg := fun d v => v = ⟨3, m, d, 0, w, c⟩) nd_wLf wds_wLf.ok Anc.d (fun _ => rd_R _) (fun _ _ h => congrArg Anc.d h) (fun _ => gd_R _)
theorem rd_n2 (w c : Int) : Rd (yB (zN wSp) fun m => yB (zN wLf) fun d => yR (⟨3, m, d, 0, w, c⟩ : Anc)) (fun v => (itB v.m ++ wSp) ++ ((itB v.d ++ wLf) ++ ByteArray.empty)) (fun v => inT v.m = true ∧ inT v.d = true ∧ v = ⟨3, v.m, v.d, 0, w, c⟩) :=
  rd_N (g := fun m => yB (zN wLf) fun d => yR (⟨3, m, d, 0, w, c⟩ : Anc)) (pg := fun v => (itB v.d ++ wLf) ++ ByteArray.empty) (okg := fun m v => inT v.d = true ∧ v = ⟨3, m, v.d, 0, w, c⟩) nd_wSp wds_wSp.ok Anc.m (rd_n1 w c) (fun _ _ h => congrArg Anc.m h.2) (fun _ => gd_B (gd_zN _) fun _ => gd_R _)
theorem rd_n3 (w : Int) : Rd (yB (zN wSp) fun c => yB (zN wSp) fun m => yB (zN wLf) fun d => yR (⟨3, m, d, 0, w, c⟩ : Anc)) (fun v => (itB v.c ++ wSp) ++ ((itB v.m ++ wSp) ++ ((itB v.d ++ wLf) ++ ByteArray.empty))) (fun v => inT v.c = true ∧ inT v.m = true ∧ inT v.d = true ∧ v = ⟨3, v.m, v.d, 0, w, v.c⟩) :=
  rd_N (g := fun c => yB (zN wSp) fun m => yB (zN wLf) fun d => yR (⟨3, m, d, 0, w, c⟩ : Anc)) (pg := fun v => (itB v.m ++ wSp) ++ ((itB v.d ++ wLf) ++ ByteArray.empty)) (okg := fun c v => inT v.m = true ∧ inT v.d = true ∧ v = ⟨3, v.m, v.d, 0, w, c⟩) nd_wSp wds_wSp.ok Anc.c (rd_n2 w) (fun _ _ h => congrArg Anc.c h.2.2) (fun _ => gd_B (gd_zN _) fun _ => gd_B (gd_zN _) fun _ => gd_R _)
theorem rd_n4 : Rd pNth (fun v => (lWd.getD v.w.toNat ByteArray.empty ++ (wSp ++ ByteArray.empty)) ++ ((itB v.c ++ wSp) ++ ((itB v.m ++ wSp) ++ ((itB v.d ++ wLf) ++ ByteArray.empty)))) (fun v => ((0 ≤ v.w ∧ v.w < lWd.length) ∧ v.w = v.w) ∧ inT v.c = true ∧ inT v.m = true ∧ inT v.d = true ∧ v = ⟨3, v.m, v.d, 0, v.w, v.c⟩) :=
  rd_B (f := zC lWd) (g := fun w => yB (zN wSp) fun c => yB (zN wSp) fun m => yB (zN wLf) fun d => yR (⟨3, m, d, 0, w, c⟩ : Anc)) (pf := fun i => lWd.getD i.toNat ByteArray.empty ++ (wSp ++ ByteArray.empty)) (pg := fun v => (itB v.c ++ wSp) ++ ((itB v.m ++ wSp) ++ ((itB v.d ++ wLf) ++ ByteArray.empty))) (okf := fun i => (0 ≤ i ∧ i < lWd.length) ∧ i = i) (okg := fun w v => inT v.c = true ∧ inT v.m = true ∧ inT v.d = true ∧ v = ⟨3, v.m, v.d, 0, w, v.c⟩)
    Anc.w (rd_zC wds_lWd.ok) (fun w _ => rd_n3 w) (fun _ _ h => congrArg Anc.w h.2.2.2) (gd_zC _) (fun _ => gd_B (gd_zN _) fun _ => gd_B (gd_zN _) fun _ => gd_B (gd_zN _) fun _ => gd_R _)
theorem rd_Nth : Rd pNth (fun a => nm a.w ++ (wSp ++ (itB a.c ++ (wSp ++ (itB a.m ++ (wSp ++ (itB a.d ++ wLf))))))) (fun a => (0 ≤ a.w ∧ a.w < 7) ∧ inT a.c = true ∧ inT a.m = true ∧ inT a.d = true ∧ a = ⟨3, a.m, a.d, 0, a.w, a.c⟩) :=
  rd_n4.to (fun v => ⟨fun h => ⟨⟨h.1, rfl⟩, h.2⟩, fun h => ⟨h.1.1, h.2⟩⟩) (fun v h => by rw [nm_lWd h.1.1]; simp only [ByteArray.append_assoc, ByteArray.append_empty])
/-- What an anchor's text is behind its first word. -/
def txR (a : Anc) : ByteArray := if a.k = 1 then itB a.m ++ (wSp ++ (itB a.d ++ wLf)) else if a.k = 2 then itB a.o ++ wLf else nm a.w ++ (wSp ++ (itB a.c ++ (wSp ++ (itB a.m ++ (wSp ++ (itB a.d ++ wLf))))))
def okR (i : Int) (a : Anc) : Prop := (i = 0 ∧ inT a.m = true ∧ inT a.d = true ∧ a = ⟨1, a.m, a.d, 0, 0, 0⟩) ∨ (i = 1 ∧ inT a.o = true ∧ a = ⟨2, 0, 0, a.o, 0, 0⟩) ∨ (i = 2 ∧ (0 ≤ a.w ∧ a.w < 7) ∧ inT a.c = true ∧ inT a.m = true ∧ inT a.d = true ∧ a = ⟨3, a.m, a.d, 0, a.w, a.c⟩)
theorem okR_k {i : Int} {a : Anc} (h : okR i a) : a.k = i + 1 := by
  rcases h with ⟨rfl, _, _, h⟩ | ⟨rfl, _, h⟩ | ⟨rfl, _, _, _, _, h⟩ <;> exact congrArg Anc.k h
theorem rd_Anx (i : Int) (hi : (0 ≤ i ∧ i < 3) ∧ i = i) : Rd (pAnx i) txR (okR i) := by
  have h : i = 0 ∨ i = 1 ∨ i = 2 := by omega
  rcases h with rfl | rfl | rfl
  · exact rd_Fix.to (fun v => ⟨fun h => by rcases h with ⟨_, h⟩ | ⟨h, _⟩ | ⟨h, _⟩; exact h; omega; omega, fun h => .inl ⟨rfl, h⟩⟩) (fun v h => by
      have : v.k = 1 := congrArg Anc.k h.2.2
      unfold txR; rw [if_pos this])
  · exact rd_Eas.to (fun v => ⟨fun h => by rcases h with ⟨h, _⟩ | ⟨_, h⟩ | ⟨h, _⟩; omega; exact h; omega, fun h => .inr (.inl ⟨rfl, h⟩)⟩) (fun v h => by
      have : v.k = 2 := congrArg Anc.k h.2
      unfold txR; rw [if_neg (by omega), if_pos this])
  · exact rd_Nth.to (fun v => ⟨fun h => by rcases h with ⟨h, _⟩ | ⟨h, _⟩ | ⟨_, h⟩; omega; omega; exact h, fun h => .inr (.inr ⟨rfl, h⟩)⟩) (fun v h => by
      have : v.k = 3 := congrArg Anc.k h.2.2.2.2
      unfold txR; rw [if_neg (by omega), if_neg (by omega)])
theorem inT0 : inT 0 = true := by decide
theorem anc_ok (a : Anc) : ancB a = true ↔ ((0 ≤ a.k - 1 ∧ a.k - 1 < 3) ∧ a.k - 1 = a.k - 1) ∧ okR (a.k - 1) a := by
  obtain ⟨k, m, d, o, w, c⟩ := a
  constructor
  · intro h
    unfold ancB ancK at h
    simp only [Bool.and_eq_true] at h
    obtain ⟨⟨hm, hd, ho, hc⟩, hk⟩ := h
    by_cases q1 : k = 1
    · subst q1
      simp only [if_pos trivial, Bool.and_eq_true, decide_eq_true_eq] at hk
      obtain ⟨rfl, rfl, rfl⟩ := hk
      exact ⟨⟨⟨by show (0 : Int) ≤ 1 - 1; omega, by show (1 : Int) - 1 < 3; omega⟩, rfl⟩, .inl ⟨rfl, hm, hd, rfl⟩⟩
    · by_cases q2 : k = 2
      · subst q2
        rw [if_neg q1, if_pos rfl] at hk
        simp only [Bool.and_eq_true, decide_eq_true_eq] at hk
        obtain ⟨rfl, rfl, rfl, rfl⟩ := hk
        exact ⟨⟨⟨by show (0 : Int) ≤ 2 - 1; omega, by show (2 : Int) - 1 < 3; omega⟩, rfl⟩, .inr (.inl ⟨rfl, ho, rfl⟩)⟩
      · by_cases q3 : k = 3
        · subst q3
          rw [if_neg q1, if_neg q2, if_pos rfl] at hk
          simp only [Bool.and_eq_true, decide_eq_true_eq] at hk
          obtain ⟨rfl, h1, h2⟩ := hk
          exact ⟨⟨⟨by show (0 : Int) ≤ 3 - 1; omega, by show (3 : Int) - 1 < 3; omega⟩, rfl⟩, .inr (.inr ⟨rfl, ⟨h1, by show w < 7; omega⟩, hc, hm, hd, rfl⟩)⟩
        · rw [if_neg q1, if_neg q2, if_neg q3] at hk; cases hk
  · rintro ⟨_, h⟩
    rcases h with ⟨_, h1, h2, h⟩ | ⟨_, h1, h⟩ | ⟨_, h0, h1, h2, h3, h⟩
    · injection h with e1 e2 e3 e4 e5 e6
      simp only at e1 e4 e5 e6 h1 h2
      subst e1 e4 e5 e6
      simp [ancB, ancK, inT0, h1, h2]
    · injection h with e1 e2 e3 e4 e5 e6
      simp only at e1 e2 e3 e5 e6 h1
      subst e1 e2 e3 e5 e6
      simp [ancB, ancK, inT0, h1]
    · injection h with e1 e2 e3 e4 e5 e6
      simp only at e1 e4 h0 h1 h2 h3
      subst e1 e4
      have : w ≤ 6 := by omega
      simp [ancB, ancK, inT0, h1, h2, h3, h0.1, this]
theorem rd_Anc : Rd pAnc txA (fun a => ancB a = true) :=
  (rd_B (fun a : Anc => a.k - 1) (rd_zC wds_lAn.ok) (pg := txR) (okg := okR) rd_Anx (fun i v h => by have := okR_k h; show v.k - 1 = i; omega) (gd_zC _) gd_Anx).to (fun v => anc_ok v) (fun v h => by
    rcases h.2 with ⟨hi, _⟩ | ⟨hi, _⟩ | ⟨hi, _⟩
    · have hk : v.k = 1 := by omega
      unfold txA txR
      rw [if_pos hk, if_pos hk, hi]
      simp only [ByteArray.append_assoc, ByteArray.append_empty]; rfl
    · have hk : v.k = 2 := by omega
      unfold txA txR
      rw [if_neg (by omega), if_pos hk, if_neg (by omega), if_pos hk, hi]
      simp only [ByteArray.append_assoc, ByteArray.append_empty]; rfl
    · have hk : v.k = 3 := by omega
      unfold txA txR
      rw [if_neg (by omega), if_neg (by omega), if_neg (by omega), if_neg (by omega), hi]
      simp only [ByteArray.append_assoc, ByteArray.append_empty]; rfl)
theorem rd_s1 (id : ByteArray) (x y : Int) : Rd (yB pAnc fun a => yR (mkI id x y a)) (fun v => txA v.anc ++ ByteArray.empty) (fun v => ancB v.anc = true ∧ v = mkI id x y v.anc) :=
  rd_B (f := pAnc) (g := fun a => yR (mkI id x y a)) (pf := txA) (pg := fun _ => ByteArray.empty) (okf := fun a => ancB a = true) (okg := fun a v => v = mkI id x y a) Itm.anc rd_Anc (fun _ _ => rd_R _) (fun _ _ h => congrArg Itm.anc h) gd_Anc (fun _ => gd_R _)
theorem rd_s2 (id : ByteArray) (x : Int) : Rd (yB (zN wSp) fun y => yB pAnc fun a => yR (mkI id x y a)) (fun v => (itB v.y ++ wSp) ++ (txA v.anc ++ ByteArray.empty)) (fun v => inT v.y = true ∧ ancB v.anc = true ∧ v = mkI id x v.y v.anc) :=
  rd_B (f := zN wSp) (g := fun y => yB pAnc fun a => yR (mkI id x y a)) (pf := fun n => itB n ++ wSp) (pg := fun v => txA v.anc ++ ByteArray.empty) (okf := fun n => inT n = true) (okg := fun y v => ancB v.anc = true ∧ v = mkI id x y v.anc) Itm.y (rd_zN nd_wSp wds_wSp.ok) (fun y _ => rd_s1 id x y) (fun _ _ h => congrArg Itm.y h.2) (gd_zN _) (fun _ => gd_B gd_Anc fun _ => gd_R _)
theorem rd_s3 (id : ByteArray) : Rd (yB (zN wSp) fun x => yB (zN wSp) fun y => yB pAnc fun a => yR (mkI id x y a)) (fun v => (itB v.x ++ wSp) ++ ((itB v.y ++ wSp) ++ (txA v.anc ++ ByteArray.empty))) (fun v => inT v.x = true ∧ inT v.y = true ∧ ancB v.anc = true ∧ v = mkI id v.x v.y v.anc) :=
  rd_B (f := zN wSp) (g := fun x => yB (zN wSp) fun y => yB pAnc fun a => yR (mkI id x y a)) (pf := fun n => itB n ++ wSp) (pg := fun v => (itB v.y ++ wSp) ++ (txA v.anc ++ ByteArray.empty)) (okf := fun n => inT n = true) (okg := fun x v => inT v.y = true ∧ ancB v.anc = true ∧ v = mkI id x v.y v.anc) Itm.x (rd_zN nd_wSp wds_wSp.ok) (fun x _ => rd_s2 id x) (fun _ _ h => congrArg Itm.x h.2.2) (gd_zN _) (fun _ => gd_B (gd_zN _) fun _ => gd_B gd_Anc fun _ => gd_R _)
theorem rd_s4 : Rd (yB zI fun id => yB (zN wSp) fun x => yB (zN wSp) fun y => yB pAnc fun a => yR (mkI id x y a)) (fun v => (v.id ++ wSp) ++ ((itB v.x ++ wSp) ++ ((itB v.y ++ wSp) ++ (txA v.anc ++ ByteArray.empty)))) (fun v => idn v.id = true ∧ inT v.x = true ∧ inT v.y = true ∧ ancB v.anc = true ∧ v = mkI v.id v.x v.y v.anc) :=
  rd_B (f := zI) (g := fun id => yB (zN wSp) fun x => yB (zN wSp) fun y => yB pAnc fun a => yR (mkI id x y a)) (pf := fun s => s ++ wSp) (pg := fun v => (itB v.x ++ wSp) ++ ((itB v.y ++ wSp) ++ (txA v.anc ++ ByteArray.empty))) (okf := fun s => idn s = true) (okg := fun id v => inT v.x = true ∧ inT v.y = true ∧ ancB v.anc = true ∧ v = mkI id v.x v.y v.anc) Itm.id rd_zI (fun id _ => rd_s3 id) (fun _ _ h => congrArg Itm.id h.2.2.2) gd_zI (fun _ => gd_B (gd_zN _) fun _ => gd_B (gd_zN _) fun _ => gd_B gd_Anc fun _ => gd_R _)
theorem rd_Sea : Rd pSea txS (fun t => okS t = true) :=
  (rd_WB wds_wSea.ok rd_s4 (gd_B gd_zI fun _ => gd_B (gd_zN _) fun _ => gd_B (gd_zN _) fun _ => gd_B gd_Anc fun _ => gd_R _)).to
    (fun v => by unfold okS; simp only [Bool.and_eq_true]; exact ⟨fun h => ⟨h.1, h.2.1, h.2.2.1, h.2.2.2, rfl⟩, fun h => ⟨h.1, h.2.1, h.2.2.1, h.2.2.2.1⟩⟩)
    (fun v _ => by unfold txS; simp only [ByteArray.append_assoc, ByteArray.append_empty])
theorem txP_lPo {y : Int} (h : 0 ≤ y ∧ y < 3) : lPo.getD y.toNat ByteArray.empty = txP (1 + y) := by
  have : y = 0 ∨ y = 1 ∨ y = 2 := by omega
  rcases this with rfl | rfl | rfl <;> rfl
theorem rd_g2 (id : ByteArray) (x : Int) : Rd (yB (zC lPo) fun y => yB pAnc fun a => yR (mkI id x (1 + y) a)) (fun v => (lPo.getD (v.y - 1).toNat ByteArray.empty ++ (wSp ++ ByteArray.empty)) ++ (txA v.anc ++ ByteArray.empty)) (fun v => ((0 ≤ v.y - 1 ∧ v.y - 1 < lPo.length) ∧ v.y - 1 = v.y - 1) ∧ ancB v.anc = true ∧ v = mkI id x (1 + (v.y - 1)) v.anc) :=
  rd_B (f := zC lPo) (g := fun y => yB pAnc fun a => yR (mkI id x (1 + y) a)) (pf := fun i => lPo.getD i.toNat ByteArray.empty ++ (wSp ++ ByteArray.empty)) (pg := fun v => txA v.anc ++ ByteArray.empty) (okf := fun i => (0 ≤ i ∧ i < lPo.length) ∧ i = i) (okg := fun y v => ancB v.anc = true ∧ v = mkI id x (1 + y) v.anc) (fun v : Itm => v.y - 1) (rd_zC wds_lPo.ok) (fun y _ => rd_s1 id x (1 + y)) (fun y v h => by have : v.y = 1 + y := congrArg Itm.y h.2; show v.y - 1 = y; omega) (gd_zC _) (fun _ => gd_B gd_Anc fun _ => gd_R _)
theorem rd_g3 (id : ByteArray) : Rd (yB (zN wSp) fun x => yB (zC lPo) fun y => yB pAnc fun a => yR (mkI id x (1 + y) a)) (fun v => (itB v.x ++ wSp) ++ ((lPo.getD (v.y - 1).toNat ByteArray.empty ++ (wSp ++ ByteArray.empty)) ++ (txA v.anc ++ ByteArray.empty))) (fun v => inT v.x = true ∧ ((0 ≤ v.y - 1 ∧ v.y - 1 < lPo.length) ∧ v.y - 1 = v.y - 1) ∧ ancB v.anc = true ∧ v = mkI id v.x (1 + (v.y - 1)) v.anc) :=
  rd_B (f := zN wSp) (g := fun x => yB (zC lPo) fun y => yB pAnc fun a => yR (mkI id x (1 + y) a)) (pf := fun n => itB n ++ wSp) (pg := fun v => (lPo.getD (v.y - 1).toNat ByteArray.empty ++ (wSp ++ ByteArray.empty)) ++ (txA v.anc ++ ByteArray.empty)) (okf := fun n => inT n = true) (okg := fun x v => ((0 ≤ v.y - 1 ∧ v.y - 1 < lPo.length) ∧ v.y - 1 = v.y - 1) ∧ ancB v.anc = true ∧ v = mkI id x (1 + (v.y - 1)) v.anc) Itm.x (rd_zN nd_wSp wds_wSp.ok) (fun x _ => rd_g2 id x) (fun _ _ h => congrArg Itm.x h.2.2) (gd_zN _) (fun _ => gd_B (gd_zC _) fun _ => gd_B gd_Anc fun _ => gd_R _)
theorem rd_g4 : Rd (yB zI fun id => yB (zN wSp) fun x => yB (zC lPo) fun y => yB pAnc fun a => yR (mkI id x (1 + y) a)) (fun v => (v.id ++ wSp) ++ ((itB v.x ++ wSp) ++ ((lPo.getD (v.y - 1).toNat ByteArray.empty ++ (wSp ++ ByteArray.empty)) ++ (txA v.anc ++ ByteArray.empty)))) (fun v => idn v.id = true ∧ inT v.x = true ∧ ((0 ≤ v.y - 1 ∧ v.y - 1 < lPo.length) ∧ v.y - 1 = v.y - 1) ∧ ancB v.anc = true ∧ v = mkI v.id v.x (1 + (v.y - 1)) v.anc) :=
  rd_B (f := zI) (g := fun id => yB (zN wSp) fun x => yB (zC lPo) fun y => yB pAnc fun a => yR (mkI id x (1 + y) a)) (pf := fun s => s ++ wSp) (pg := fun v => (itB v.x ++ wSp) ++ ((lPo.getD (v.y - 1).toNat ByteArray.empty ++ (wSp ++ ByteArray.empty)) ++ (txA v.anc ++ ByteArray.empty))) (okf := fun s => idn s = true) (okg := fun id v => inT v.x = true ∧ ((0 ≤ v.y - 1 ∧ v.y - 1 < lPo.length) ∧ v.y - 1 = v.y - 1) ∧ ancB v.anc = true ∧ v = mkI id v.x (1 + (v.y - 1)) v.anc) Itm.id rd_zI (fun id _ => rd_g3 id) (fun _ _ h => congrArg Itm.id h.2.2.2) gd_zI (fun _ => gd_B (gd_zN _) fun _ => gd_B (gd_zC _) fun _ => gd_B gd_Anc fun _ => gd_R _)
theorem rd_Fea : Rd pFea txF (fun t => okF t = true) :=
  (rd_WB wds_wFea.ok rd_g4 (gd_B gd_zI fun _ => gd_B (gd_zN _) fun _ => gd_B (gd_zC _) fun _ => gd_B gd_Anc fun _ => gd_R _)).to
    (fun v => by
      have e3 : (lPo.length : Int) = 3 := rfl
      unfold okF; simp only [Bool.and_eq_true, decide_eq_true_eq]
      rw [e3]
      constructor
      · intro h
        refine ⟨h.1, h.2.1, ⟨⟨by have := h.2.2.1.1; omega, by have := h.2.2.1.2; omega⟩, by first | rfl | trivial⟩, h.2.2.2, ?_⟩
        rw [show 1 + (v.y - 1) = v.y by omega]; rfl
      · intro h
        exact ⟨h.1, h.2.1, ⟨by have := h.2.2.1.1.1; omega, by have := h.2.2.1.1.2; omega⟩, h.2.2.2.1⟩)
    (fun v h => by
      have e3 : (lPo.length : Int) = 3 := rfl
      have hy := h.2.2.1.1
      rw [e3] at hy
      unfold txF; rw [txP_lPo hy, show 1 + (v.y - 1) = v.y by omega]; simp only [ByteArray.append_assoc, ByteArray.append_empty])
theorem many_so {c : Int} (hc : c ≠ 0) {f : Prs Itm} {pr : Itm → ByteArray} {ok : Itm → Prop} (h : Rd f pr ok) (G : Gk f) : ∀ (n : Nat) (l : List Itm) (S : ByteArray) (x : Sc), x.k ≤ S.size → (pMany c f n l S x).2.b = false →
    ∃ l', (pMany c f n l S x).1 = l ++ l' ∧ (∀ t ∈ l', ok t) ∧ LiesAt S x.k (txs pr l') ∧ (pMany c f n l S x).2.k = x.k + (txs pr l').size
  | 0, l, S, x, _, _ => ⟨[], by simp [pMany, yR], by simp, fun j hj => absurd hj (Nat.not_lt_zero j), rfl⟩
  | n + 1, l, S, x, hx, hb => by
    rw [pMany_step] at hb ⊢
    split
    · rename_i q
      rw [if_pos q] at hb
      have hf : (f S x).2.b = false := by
        cases e : (f S x).2.b
        · rfl
        · rw [pMany_bad hc e, e] at hb; cases hb
      obtain ⟨a1, a2, a3⟩ := h.so S x hx hf
      obtain ⟨l', b1, b2, b3, b4⟩ := many_so hc h G n _ S _ (G.le S x hx).2 hb
      refine ⟨(f S x).1 :: l', by rw [b1]; simp, fun t ht => ?_, ?_, ?_⟩
      · rcases List.mem_cons.1 ht with rfl | ht
        · exact a1
        · exact b2 t ht
      · rw [a3] at b3; exact lies_join a2 b3
      · show _ = x.k + (pr (f S x).1 ++ txs pr l').size
        rw [b4, a3, ByteArray.size_append, Nat.add_assoc]
    · exact ⟨[], by simp, by simp, fun j hj => absurd hj (Nat.not_lt_zero j), rfl⟩
theorem lies_all {S T : ByteArray} (h : LiesAt S 0 T) (hk : T.size = S.size) : S = T := by
  refine ByteArray.ext (Array.ext ?_ fun i h1 h2 => ?_)
  · exact hk.symm
  · obtain ⟨_, e⟩ := h i h2
    rw [Nat.zero_add] at e
    have e1 : bt S i = (S.data[i].toNat : Int) := by unfold bt; rw [List.getD_eq_getElem?_getD, Array.getElem?_toList, Array.getElem?_eq_getElem h1]; rfl
    have e2 : bt T i = (T.data[i].toNat : Int) := by unfold bt; rw [List.getD_eq_getElem?_getD, Array.getElem?_toList, Array.getElem?_eq_getElem h2]; rfl
    rw [e1, e2] at e
    exact UInt8.toNat_inj.1 (by exact_mod_cast e)
theorem body_so {S : ByteArray} {N : Nat} (hb : (pEnd N S).b = false) : okCt (pBody N S ⟨0, false⟩).1 = true ∧ S = txC (pBody N S ⟨0, false⟩).1 := by
  generalize h1 : yW [wCat] S ⟨0, false⟩ = y1
  generalize h2 : yW [wFre] S y1.2 = y2
  generalize h3 : zN wLf S y2.2 = y3
  generalize h4 : pMany 115 pSea N [] S y3.2 = y4
  generalize h5 : pMany 102 pFea N [] S y4.2 = y5
  generalize h6 : yW [wEnd] S y5.2 = y6
  have eP : pBody N S ⟨0, false⟩ = (⟨y3.1, y4.1, y5.1⟩, y6.2) := by rw [← h6, ← h5, ← h4, ← h3, ← h2, ← h1]; rfl
  have hz : feB y6.2.b S y6.2.k = false := by
    have : (zE S (pBody N S ⟨0, false⟩).2).2.b = false := hb
    rw [eP] at this
    exact this
  unfold feB at hz
  rw [Bool.or_eq_false_iff, decide_eq_false_iff_not] at hz
  obtain ⟨b6, k6⟩ := hz
  have b5 : y5.2.b = false := (gd_W [wEnd]).ok (S := S) (by rw [h6]; exact b6)
  have b4 : y4.2.b = false := (gd_Many (c := 102) (by decide) gd_Fea N []).ok (S := S) (by rw [h5]; exact b5)
  have b3 : y3.2.b = false := (gd_Many (c := 115) (by decide) gd_Sea N []).ok (S := S) (by rw [h4]; exact b4)
  have b2 : y2.2.b = false := (gd_zN wLf).ok (S := S) (by rw [h3]; exact b3)
  have b1 : y1.2.b = false := (gd_W [wFre]).ok (S := S) (by rw [h2]; exact b2)
  have k1 := ((gd_W [wCat]).le S ⟨0, false⟩ (Nat.zero_le _)).2
  rw [h1] at k1
  have k2 := ((gd_W [wFre]).le S y1.2 k1).2
  rw [h2] at k2
  have k3 := ((gd_zN wLf).le S y2.2 k2).2
  rw [h3] at k3
  have k4 := ((gd_Many (c := 115) (by decide) gd_Sea N []).le S y3.2 k3).2
  rw [h4] at k4
  have k5 := ((gd_Many (c := 102) (by decide) gd_Fea N []).le S y4.2 k4).2
  rw [h5] at k5
  have k7 := ((gd_W [wEnd]).le S y5.2 k5).2
  rw [h6] at k7
  have s1 := (rd_W1 wds_wCat.ok).so S ⟨0, false⟩ (Nat.zero_le _) (by rw [h1]; exact b1)
  have s2 := (rd_W1 wds_wFre.ok).so S y1.2 k1 (by rw [h2]; exact b2)
  have s3 := (rd_zN nd_wLf wds_wLf.ok).so S y2.2 k2 (by rw [h3]; exact b3)
  have s4 := many_so (c := 115) (by decide) rd_Sea gd_Sea N [] S y3.2 k3 (by rw [h4]; exact b4)
  have s5 := many_so (c := 102) (by decide) rd_Fea gd_Fea N [] S y4.2 k4 (by rw [h5]; exact b5)
  have s6 := (rd_W1 wds_wEnd.ok).so S y5.2 k5 (by rw [h6]; exact b6)
  rw [h1] at s1
  rw [h2] at s2
  rw [h3] at s3
  rw [h4] at s4
  rw [h5] at s5
  rw [h6] at s6
  obtain ⟨-, l1, e1⟩ := s1
  obtain ⟨-, l2, e2⟩ := s2
  obtain ⟨o3, l3, e3⟩ := s3
  obtain ⟨ls, q4, o4, l4, e4⟩ := s4
  obtain ⟨lf, q5, o5, l5, e5⟩ := s5
  obtain ⟨-, l6, e6⟩ := s6
  rw [List.nil_append] at q4 q5
  rw [← q4] at o4 l4 e4
  rw [← q5] at o5 l5 e5
  have L5 := lies_join l5 (by rw [← e5]; exact l6)
  have L4 := lies_join l4 (by rw [← e4]; exact L5)
  have L3 := lies_join l3 (by rw [← e3]; exact L4)
  have L2 := lies_join l2 (by rw [← e2]; exact L3)
  have L1 := lies_join l1 (by rw [← e1]; exact L2)
  rw [eP]
  have eT : txC ⟨y3.1, y4.1, y5.1⟩ = wCat ++ (wFre ++ ((itB y3.1 ++ wLf) ++ (txs txS y4.1 ++ (txs txF y5.1 ++ wEnd)))) := by unfold txC; simp only [ByteArray.append_assoc]
  constructor
  · unfold okCt
    rw [Bool.and_eq_true, Bool.and_eq_true]
    exact ⟨List.all_eq_true.2 o4, List.all_eq_true.2 o5, o3⟩
  · show S = txC ⟨y3.1, y4.1, y5.1⟩
    rw [eT]
    refine lies_all L1 ?_
    simp only [ByteArray.size_append] at e1 e2 e3 e4 e5 e6 ⊢
    have e0 : (⟨0, false⟩ : Sc).k = 0 := rfl
    omega
end Go.Proofs.YtkhicgafhbecfaaGreatDoor

namespace Go.Proofs.YtkhicgafhbecfaaGreatDoor
open Go.RowKit

theorem idn_size {s : ByteArray} (h : idn s = true) : s.size ≤ 40 := by
  unfold idn at h
  simp only [Bool.and_eq_true, decide_eq_true_eq] at h
  omega
theorem gdS_of {t : Itm} (h : okS t = true) : gdS t = true := by
  unfold gdS
  have h1 : idn t.id = true := by unfold okS at h; simp only [Bool.and_eq_true] at h; exact h.1
  rw [h, decide_eq_true (Nat.le_trans (idn_size h1) (by decide))]; rfl
theorem gdF_of {t : Itm} (h : okF t = true) : gdF t = true := by
  unfold gdF
  have h1 : idn t.id = true := by unfold okF at h; simp only [Bool.and_eq_true] at h; exact h.1
  rw [h, decide_eq_true (Nat.le_trans (idn_size h1) (by decide))]; rfl
theorem okCt_parts {c : Cat} (h : okCt c = true) : inT c.free = true ∧ (∀ t ∈ c.ss, gdS t = true) ∧ (∀ t ∈ c.fs, gdF t = true) := by
  unfold okCt at h
  simp only [Bool.and_eq_true] at h
  exact ⟨h.2.2, fun t ht => gdS_of (List.all_eq_true.1 h.1 t ht), fun t ht => gdF_of (List.all_eq_true.1 h.2.1 t ht)⟩
theorem pEnd_le (N : Nat) (S : ByteArray) : (pEnd N S).k ≤ S.size := ((gd_Body N).le S ⟨0, false⟩ (Nat.zero_le _)).2
end Go.Proofs.YtkhicgafhbecfaaGreatDoor

namespace Go.Proofs.YtkhicgafhbecfaaGreatDoor
open Go.RowKit

theorem nx_lies {S : ByteArray} {k : Nat} {T : ByteArray} (h : LiesAt S k T) (hT : 1 ≤ T.size) : nxB S k = bt T 0 := by
  obtain ⟨h1, h2⟩ := h 0 hT
  unfold nxB
  rw [Nat.add_zero] at h1 h2
  rw [if_pos h1, h2]
theorem txS_first (t : Itm) : 1 ≤ (txS t).size ∧ bt (txS t) 0 = 115 := by
  have e : wSea.size = 7 := rfl
  unfold txS
  refine ⟨by rw [ByteArray.size_append]; omega, ?_⟩
  rw [bt_app, if_pos (by omega)]; rfl
theorem txF_first (t : Itm) : 1 ≤ (txF t).size ∧ bt (txF t) 0 = 102 := by
  have e : wFea.size = 6 := rfl
  unfold txF
  refine ⟨by rw [ByteArray.size_append]; omega, ?_⟩
  rw [bt_app, if_pos (by omega)]; rfl
theorem many_co {c : Int} {f : Prs Itm} {pr : Itm → ByteArray} {ok : Itm → Prop} (h : Rd f pr ok) (hpr : ∀ t, 1 ≤ (pr t).size ∧ bt (pr t) 0 = c) : ∀ (l' : List Itm) (n : Nat) (l : List Itm) (S : ByteArray) (k : Nat), l'.length < n → k ≤ S.size → (∀ t ∈ l', ok t) → LiesAt S k (txs pr l') → nxB S (k + (txs pr l').size) ≠ c →
    pMany c f n l S ⟨k, false⟩ = (l ++ l', ⟨k + (txs pr l').size, false⟩)
  | [], n, l, S, k, hn, _, _, _, hx => by
    obtain ⟨n, rfl⟩ : ∃ m, n = m + 1 := ⟨n - 1, by omega⟩
    have e : (txs pr []).size = 0 := rfl
    rw [e, Nat.add_zero] at hx
    rw [pMany_step, if_neg (show ¬ fpV false S k = c from hx), e, Nat.add_zero, List.append_nil]
  | t :: l', n, l, S, k, hn, hk, ho, hl, hx => by
    obtain ⟨n, rfl⟩ : ∃ m, n = m + 1 := ⟨n - 1, by omega⟩
    obtain ⟨p1, p2⟩ := hpr t
    obtain ⟨l1, l2⟩ := lies_app (a := pr t) (b := txs pr l') hl
    have e : (txs pr (t :: l')).size = (pr t).size + (txs pr l').size := ByteArray.size_append
    have q : fpV false S k = c := by show nxB S k = c; rw [nx_lies l1 p1, p2]
    have hf := h.co S k t hk (ho t (by simp)) l1
    rw [pMany_step, if_pos q, hf]
    have ih := many_co h hpr l' n (l ++ [t]) S (k + (pr t).size) (by simpa using hn) (l1.len hk) (fun u hu => ho u (by simp [hu])) l2 (by rw [Nat.add_assoc, ← e]; exact hx)
    show pMany c f n (l ++ [t]) S ⟨k + (pr t).size, false⟩ = _
    rw [ih, e, Nat.add_assoc, List.append_assoc]; rfl
theorem nx_end {S : ByteArray} {k : Nat} (h : LiesAt S k wEnd) : nxB S k = 101 := nx_lies h (by decide)
theorem nx_fs {S : ByteArray} {k : Nat} {l : List Itm} {T : ByteArray} (h : LiesAt S k (txs txF l ++ T)) (hT : LiesAt S (k + (txs txF l).size) T) (h1 : 1 ≤ T.size) (h2 : bt T 0 ≠ 115) : nxB S k ≠ 115 := by
  cases l with
  | nil =>
    have e : (txs txF []).size = 0 := rfl
    rw [e, Nat.add_zero] at hT
    rw [nx_lies hT h1]; exact h2
  | cons t l =>
    obtain ⟨p1, p2⟩ := txF_first t
    have h' : LiesAt S k (txF t ++ (txs txF l ++ T)) := by rw [← ByteArray.append_assoc]; exact h
    rw [nx_lies (lies_app h').1 p1, p2]; decide
theorem body_co {S : ByteArray} {N : Nat} {c : Cat} (hl : LiesAt S 0 (txC c)) (ho : okCt c = true) (n1 : c.ss.length < N) (n2 : c.fs.length < N) : pBody N S ⟨0, false⟩ = (c, ⟨(txC c).size, false⟩) := by
  obtain ⟨free, ss, fs⟩ := c
  unfold okCt at ho
  simp only [Bool.and_eq_true] at ho
  obtain ⟨os, of, oi⟩ := ho
  have eT : txC ⟨free, ss, fs⟩ = wCat ++ (wFre ++ ((itB free ++ wLf) ++ (txs txS ss ++ (txs txF fs ++ wEnd)))) := by unfold txC; simp only [ByteArray.append_assoc]
  rw [eT] at hl ⊢
  obtain ⟨l1, r1⟩ := lies_app hl
  obtain ⟨l2, r2⟩ := lies_app r1
  obtain ⟨l3, r3⟩ := lies_app r2
  obtain ⟨l4, r4⟩ := lies_app r3
  obtain ⟨l5, l6⟩ := lies_app r4
  have k1 := l1.len (Nat.zero_le _)
  have k2 := l2.len k1
  have k3 := l3.len k2
  have k4 := l4.len k3
  have k5 := l5.len k4
  have e1 := (rd_W1 wds_wCat.ok).co S 0 0 (Nat.zero_le _) rfl l1
  have e2 := (rd_W1 wds_wFre.ok).co S _ 0 k1 rfl l2
  have e3 := (rd_zN nd_wLf wds_wLf.ok).co S _ free k2 oi l3
  have e4 := many_co (c := 115) rd_Sea txS_first ss N [] S _ n1 k3 (fun t ht => List.all_eq_true.1 os t ht) l4 (nx_fs r4 l6 (by decide) (by decide))
  have e5 := many_co (c := 102) rd_Fea txF_first fs N [] S _ n2 k4 (fun t ht => List.all_eq_true.1 of t ht) l5 (by rw [nx_end l6]; decide)
  have e6 := (rd_W1 wds_wEnd.ok).co S _ 0 k5 rfl l6
  have eP : pBody N S ⟨0, false⟩ = yB (yW [wCat]) (fun _ => yB (yW [wFre]) fun _ => yB (zN wLf) fun free => yB (pMany 115 pSea N []) fun ss => yB (pMany 102 pFea N []) fun fs => yB (yW [wEnd]) fun _ => yR (⟨free, ss, fs⟩ : Cat)) S ⟨0, false⟩ := rfl
  rw [eP]
  unfold yB yR
  simp only [e1, e2, e3, e4, e5, e6, List.nil_append]
  simp only [ByteArray.size_append, Nat.zero_add, Nat.add_assoc]
/-- A printed text is read to its catalogue. -/
theorem pEnd_co {N : Nat} {c : Cat} (ho : okCt c = true) (n1 : c.ss.length < N) (n2 : c.fs.length < N) : pEnd N (txC c) = ⟨(txC c).size, false⟩ ∧ (pBody N (txC c) ⟨0, false⟩).1 = c := by
  have hl : LiesAt (txC c) 0 (txC c) := fun j hj => ⟨by omega, by rw [Nat.zero_add]⟩
  have e := body_co (S := txC c) hl ho n1 n2
  refine ⟨?_, by rw [e]⟩
  unfold pEnd
  rw [e]
  show (⟨(txC c).size, feB false (txC c) (txC c).size⟩ : Sc) = _
  unfold feB
  rw [decide_eq_false (Nat.lt_irrefl _)]; rfl
end Go.Proofs.YtkhicgafhbecfaaGreatDoor
