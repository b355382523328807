/- What earlier stages proved: Sa Sc Sd. -/
import Derived.Test.YtnofmlkjagdklaaKp
import Derived.Test.YtnofmlkjagdklaaKw
import Derived.Test.YtnofmlkjagdklaaKa
import Derived.LoopN
import Derived.OneCell
import Derived.LoopTactic
namespace Go.Proofs.Ytnofmlkjagdklaa

/-- How many days behind 21 March Easter is. -/
def eaO (c y : Int) : Int := off (lab c y) + 7 - (marN c y + off (lab c y)) % 7
/-- The number of Easter. -/
def eaN (c y : Int) : Int := marN c y + eaO c y
theorem eaO_off (c y : Int) : (off (lab c y) : Int) + 1 ≤ eaO c y ∧ eaO c y ≤ off (lab c y) + 7 := by unfold eaO; omega
theorem eaO_bd (c y : Int) : 1 ≤ eaO c y ∧ eaO c y ≤ 35 := by
  obtain ⟨l1, l2⟩ := lab_bd c y
  have := (off_all l1 l2).1
  have := eaO_off c y
  omega
theorem eaN_mod (c y : Int) : eaN c y % 7 = 0 := by unfold eaN eaO; omega
theorem eaN_bd {c y : Int} (h : epE c y = 0) : 0 ≤ eaN c y ∧ eaN c y ≤ 365250000033 := by
  obtain ⟨y1, y2⟩ := epE_inY h
  have := marN_bd (epE_okC h) y1 y2
  have := eaO_bd c y
  unfold eaN; omega
end Go.Proofs.Ytnofmlkjagdklaa

namespace Go.Proofs.Ytnofmlkjagdklaa
open Go.RowKit

/-- The tables read as laid, what was in memory is as it was, and the blocks made since hold l. -/
structure Own (W : World) (l : List Obj) (u : World) : Prop where
  p : PT W
  s : PSt W u
  r : ∀ (i : Nat) (o : Obj), l[i]? = some o → u.heap[W.heap.size + i]? = some o
theorem Own.on {W u u' : World} {l : List Obj} (h : Own W l u) (hb : Below u.heap.size u u') : Own W l u' := ⟨h.p, h.s.on hb, fun i o hi => row_on (h.r i o hi) hb⟩
theorem Own.nil {W : World} (ht : PT W) : Own W [] W := ⟨ht, PSt.start ht, fun i o hi => by simp at hi⟩
theorem Own.al {W u : World} {l : List Obj} (h : Own W l u) (hs : u.heap.size = W.heap.size + l.length) (o : Obj) : Own W (l ++ [o]) (u.alloc o) ∧ (u.alloc o).heap.size = W.heap.size + (l ++ [o]).length := by
  refine ⟨⟨h.p, h.s.al o, fun i x hi => ?_⟩, by simp; omega⟩
  rcases Nat.lt_or_ge i l.length with g | g
  · rw [List.getElem?_append_left g] at hi; exact row_al (h.r i x hi) o
  · rw [List.getElem?_append_right g] at hi
    have : i - l.length = 0 := by
      rcases Nat.eq_zero_or_pos (i - l.length) with e | e
      · exact e
      · rw [List.getElem?_eq_none (by simp; omega)] at hi; cases hi
    rw [this] at hi; simp at hi; subst hi
    have e : W.heap.size + i = u.heap.size := by omega
    rw [e]; exact heap_alloc_new u o
theorem Own.put {W u u' : World} {l : List Obj} (h : Own W l u) (k : Nat) (o : Obj) (hb : Below W.heap.size W u') (hk : u'.heap[W.heap.size + k]? = some o) (ho : ∀ b, b ≠ W.heap.size + k → u'.heap[b]? = u.heap[b]?) : Own W (l.set k o) u' := by
  refine ⟨h.p, ⟨h.p.on hb, hb⟩, fun i x hi => ?_⟩
  rcases Nat.eq_or_lt_of_le (Nat.le_refl i) with _ | g
  · by_cases e : i = k
    · subst e
      rw [List.getElem?_set_self'] at hi
      cases hl : l[i]? with
      | none => rw [hl] at hi; simp at hi
      | some y => rw [hl] at hi; simp at hi; subst hi; exact hk
    · rw [List.getElem?_set_ne (Ne.symm e)] at hi
      rw [ho _ (by omega)]; exact h.r i x hi
  · exact absurd g (Nat.lt_irrefl i)
theorem Own.w1 {W u : World} {l : List Obj} (h : Own W l u) (k : Nat) {x : Value} {t : Nat} (hk : l[k]? = some (.cells #[x] t (0, 0))) (v : Value) : Own W (l.set k (.cells #[v] t (0, 0))) (u.setCell ⟨W.heap.size + k, 0, none⟩ v) :=
  h.put k _ (h.s.b.setCell (p := ⟨W.heap.size + k, 0, none⟩) (Nat.le_add_right _ _) v) (heap_setCell_same u _ 0 _ _ v (h.r k _ hk)) (fun _ hb => heap_setCell_other _ _ _ _ hb)
theorem Own.w3 {W u : World} {l : List Obj} (h : Own W l u) (k : Nat) {x y z : Value} {t : Nat} (hk : l[k]? = some (.cells #[x, y, z] t (0, 0))) (a b c : Value) : Own W (l.set k (.cells #[a, b, c] t (0, 0))) (set3 u (W.heap.size + k) a b c) :=
  h.put k _ (below_set3 h.s.b (Nat.le_add_right _ _) a b c rfl) (row_set (h.r k _ hk) a b c) (fun _ hx => by unfold set3; rw [heap_setCell_other _ _ _ _ hx, heap_setCell_other _ _ _ _ hx, heap_setCell_other _ _ _ _ hx])
theorem Own.one {W u : World} {l : List Obj} (h : Own W l u) (k : Nat) {x : Value} {t : Nat} (hk : l[k]? = some (.cells #[x] t (0, 0))) :
    u.cell? ⟨W.heap.size + k, 0, none⟩ = some x ∧ u.frozen? ⟨W.heap.size + k, 0, none⟩ = false ∧ W.heap.size + k < u.heap.size := by
  have h0 : u.cell? ⟨W.heap.size + k, 0, none⟩ = some x := by rw [cell_of_row u _ 0 _ _ _ (h.r k _ hk)]; rfl
  exact ⟨h0, frozen_of_row u _ 0 _ _ (h.r k _ hk), World.block_lt_of_cell? u _ h0⟩
abbrev one (v : Int) : Obj := .cells #[.int .i64 v] 3 (0, 0)
theorem mk_func (fn : Fn) (first cap : Array Value) (w : World) : (Instr.makeFunc fn first cap).run Try.prog w = .ok (.func fn first cap) w := rfl
section
variable (W : World) (c y m d : Int) (x2 x3 x4 x5 : Obj)
end
end Go.Proofs.Ytnofmlkjagdklaa

namespace Go.Proofs.Ytnofmlkjagdklaa
open Go.RowKit

section
variable (c y m d : Int) (W : World)
theorem r10day_ok (a b f n : Int) (g : Nat) (n1 : -1 ≤ n) (n2 : n ≤ 365250000100) (hg : g ≤ 6) (h0 : (n + 1 + g) % 7 = 0) (hl : ∀ j : Nat, j < g → (n + 1 + j) % 7 ≠ 0) (HM : ∀ w, PT w → Calls Try.prog 56 #[.int .i64 c, .int .i64 y] w fun e w' => e = .returned (dtv a b f) ∧ Below w.heap.size w w') (HT : ∀ w, PT w → Calls Try.prog 55 #[.int .i64 c, dtv a b f] w fun e w' => e = .returned (numv n 0) ∧ Below w.heap.size w w') (ht : PT W) : Calls Try.prog 48 #[.int .i64 c, .int .i64 y] W fun e w' => e = .returned (.int .i64 (n + 1 + g)) ∧ Below W.heap.size W w' := by
  have HO : ∀ (k : Int), -1 ≤ k → k ≤ 365250000200 → ∀ w, Calls Try.prog 40 #[.int .i64 k] w fun e w' => e = .returned (.int .i64 (k % 7)) ∧ w = w' := fun k k1 k2 w => rof_any k w (inR_iff.2 (by omega))
  have HOh := Lib.hid HO
  have HLh := Lib.hid hl
  have H0h := Lib.hid h0
  have S0 := Lib.hid (PSt.start ht)
  clear ht HO hl h0
  go_enter Try.func48, Try.ntmps48
  go_wp2_with fail
  refine (HM _ S0.out.t).mono ?_
  rintro e w1 ⟨rfl, hb1⟩
  have S1 := Lib.hid (S0.out.on hb1)
  clear hb1
  go_wp2_with fail
  refine (HT _ S1.out.t).mono ?_
  rintro e w2 ⟨rfl, hb2⟩
  have S2 := Lib.hid (S1.out.on hb2)
  clear hb2
  go_wp2_with fail
  go_loop [5] (fun p => ∃ j : Nat, j ≤ g ∧ p = .int .i64 (n + 1 + j)) (fun p => (n + 1 + g - intOf p).toNat)
  case atStart => exact ⟨0, by omega, by simp⟩
  case round =>
    obtain ⟨j, hj, rfl⟩ := hrel
    have HOj := HOh.out (n + 1 + j) (by omega) (by omega)
    by_cases hlt : j < g
    · have hne : ((n + 1 + j) % 7 != 0) = true := by simpa using HLh.out j hlt
      generalize (n + 1 + (j : Int)) % 7 = r at *
      go_wp2_with fail
      refine (HOj _).mono ?_
      rintro e w' ⟨rfl, rfl⟩
      go_wp2_with fail
      go_round
      case rel => exact ⟨j + 1, by omega, by go_num⟩
      case measure => simp [intOf]; omega
    · obtain rfl : j = g := by omega
      rw [H0h.out] at HOj
      go_wp2_with fail
      refine (HOj _).mono ?_
      rintro e w' ⟨rfl, rfl⟩
      go_wp2_with fail
      go_ret
      exact ⟨rfl, S2.out.b⟩
theorem r10day_any (h : epE c y = 0) (ht : PT W) : Calls Try.prog 48 #[.int .i64 c, .int .i64 y] W fun e w' => e = .returned (.int .i64 (eaN c y)) ∧ Below W.heap.size W w' := by
  have hc := epE_okC h
  obtain ⟨y1, y2⟩ := epE_inY h
  obtain ⟨l1, l2⟩ := lab_bd c y
  have f1 := (off_all l1 l2).1
  obtain ⟨n1, n2⟩ := marN_bd hc y1 y2
  obtain ⟨t1, t2⟩ := mar_to hc y1 y2 (k := off (lab c y)) (by omega) (by omega)
  have HT := fun w (ht : PT w) => r5day_any y (pfM (lab c y)) (pfD (lab c y)) w c ht.c
  rw [show tE c y (pfM (lab c y)) (pfD (lab c y)) = 0 from t1, show tN c y (pfM (lab c y)) (pfD (lab c y)) = marN c y + off (lab c y) from t2] at HT
  have HM := fun w (ht : PT w) => r9fu_any c y w h ht
  have e := eaN_mod c y
  have o := eaO_off c y
  obtain ⟨g, hg⟩ : ∃ g : Nat, eaN c y = marN c y + off (lab c y) + 1 + g := ⟨(eaN c y - (marN c y + off (lab c y) + 1)).toNat, by unfold eaN at *; omega⟩
  rw [hg]
  rw [hg] at e
  unfold eaN at hg
  exact r10day_ok c y W _ _ _ _ g (by omega) (by omega) (by omega) e (fun j hj => by omega) HM HT ht
end
end Go.Proofs.Ytnofmlkjagdklaa
