/- What earlier stages proved: Nj Nk Nl Nm Nn. -/
import Derived.Test.YtkhicgafhbecfaaGreatDoorM2
import Derived.Test.YtkhicgafhbecfaaGreatDoorKz
import Derived.Laws.IdiomCopy
import Derived.Lib.SliceRun
import Derived.Laws.OwnMore
namespace Go.Proofs.YtkhicgafhbecfaaGreatDoor
open Go.RowKit

theorem ctu_any {S wd : ByteArray} {b k n : Nat} {bad : Bool} {w : World} (h : w.heap[b]? = some (scO S k bad)) :
    Calls Tryz.prog 85 #[xp b, .string wd, .int .i64 n] w fun e w' => e = .returned (.bool (contB S k wd n)) ∧ ∃ m, w' = w.drewN m := by
  obtain ⟨c0, c1, c2, f0, f1, f2, hl⟩ := sc_facts h
  clear h
  unfold contB
  by_cases h1 : k < S.size
  · have d1 : decide (k < S.size) = true := dtrue h1
    have x1 := idx_str S k (by omega) (by omega)
    rw [Int.toNat_natCast] at x1
    by_cases h2 : n < wd.size
    · have d2 : decide (n < wd.size) = true := dtrue h2
      have x2 := idx_str wd n (by omega) (by omega)
      rw [Int.toNat_natCast] at x2
      rw [d1, d2, Bool.true_and, Bool.true_and]
      have e : decide (bt wd n = bt S k) = (bt wd n == bt S k) := by cases h : (bt wd n == bt S k) <;> simp_all
      rw [e]
      generalize bt wd n = x at *
      generalize bt S k = y at *
      have E := Lib.hid h1
      have E2 := Lib.hid h2
      go_enter Tryz.func85, Tryz.ntmps85
      go_wp2_with fail
      go_quiet (fail)
      go_wp2_with fail
      go_ret
      exact ⟨rfl, _, rfl⟩
    · have d2 : decide (n < wd.size) = false := dfalse h2
      rw [d1, d2, Bool.true_and, Bool.false_and]
      go_enter Tryz.func85, Tryz.ntmps85
      go_wp2_with fail
      go_quiet (fail)
      go_wp2_with fail
      go_ret
      exact ⟨rfl, _, rfl⟩
  · have d1 : decide (k < S.size) = false := dfalse h1
    rw [d1, Bool.false_and]
    go_enter Tryz.func85, Tryz.ntmps85
    go_wp2_with fail
    go_quiet (fail)
    go_wp2_with fail
    go_ret
    exact ⟨rfl, _, rfl⟩
theorem quiet_dn {P : Program} {f : FuncId} {args : Array Value} {w : World} {n : Nat} {v : Value}
    (h : Calls P f args (w.drewN n) fun e w' => e = .returned v ∧ ∃ m, w' = (w.drewN n).drewN m) : Calls P f args (w.drewN n) fun e w'' => e = .returned v ∧ ∃ m, w'' = w.drewN m :=
  h.mono fun _ _ ⟨he, m, hm⟩ => ⟨he, n + m, by rw [hm, dn_dn]⟩
/-- The closure: is the word with this index no longer possible? -/
theorem cloW_any {S : ByteArray} {b k n i p q r g cap : Nat} {bad : Bool} {ws : List ByteArray} {w : World} (h : w.heap[b]? = some (scO S k bad)) (hi : i < ws.length) (hW : StrsIn g cap ws w)
    (hp : w.cell? ⟨p, 0, none⟩ = some (xp b)) (hq : w.cell? ⟨q, 0, none⟩ = some (.slice (some ⟨g, 0, none⟩) ws.length cap)) (hr : w.cell? ⟨r, 0, none⟩ = some (.int .i64 n)) :
    Calls Tryz.prog 84 #[.int .i64 i, xp p, xp q, xp r] w fun e w' => e = .returned (.bool (!contB S k (ws.getD i ByteArray.empty) n)) ∧ ∃ m, w' = w.drewN m := by
  have hc := hW.cell i hi
  have HC := fun (m : Nat) => ctu_any (wd := ws.getD i ByteArray.empty) (n := n) (row_dn h m)
  generalize contB S k (ws.getD i ByteArray.empty) n = B at *
  generalize ws.getD i ByteArray.empty = wd at *
  have b1 : 0 ≤ (i : Int) ∧ (i : Int) < (ws.length : Int) := ⟨by omega, by omega⟩
  clear hW h
  go_enter Tryz.func84, Tryz.ntmps84
  go_wp2_with fail
  go_quiet ((go_at_call 85; exact quiet_dn (HC _)))
  go_wp2_with fail
  go_ret
  exact ⟨rfl, _, rfl⟩
end Go.Proofs.YtkhicgafhbecfaaGreatDoor

namespace Go.Proofs.YtkhicgafhbecfaaGreatDoor
open Go.RowKit

/-- Numbers in the first cells of a block. -/
structure IntC (g : Nat) (l : List Nat) (w : World) : Prop where
  cell : ∀ i, i < l.length → w.cell? ⟨g, i, none⟩ = some (.int .i64 ((l.getD i 0 : Nat) : Int))
  fz : ∀ i, i < l.length → w.frozen? ⟨g, i, none⟩ = false
theorem IntC.dn {g : Nat} {l : List Nat} {w : World} (h : IntC g l w) (m : Nat) : IntC g l (w.drewN m) := ⟨h.cell, h.fz⟩
set_option maxHeartbeats 1000000 in
set_option maxRecDepth 100000 in
theorem ixf_any {l : List Nat} {P : Nat → Bool} {g cap : Nat} {c1 c2 c3 : Value} {w : World} (hl : l.length ≤ 9223372036854775807) (hC : IntC g l w)
    (HD : ∀ (m i : Nat), i < l.length → Calls Tryz.prog 84 #[.int .i64 ((l.getD i 0 : Nat) : Int), c1, c2, c3] (w.drewN m) fun e w' => e = .returned (.bool (P (l.getD i 0))) ∧ ∃ m', w' = (w.drewN m).drewN m') :
    Calls Tryz.prog 101 #[.slice (some ⟨g, 0, none⟩) l.length cap, .func (.func 84) #[] #[c1, c2, c3]] w fun e w' =>
      ((∃ k0 : Nat, e = .returned (.int .i64 k0) ∧ k0 < l.length ∧ P (l.getD k0 0) = true ∧ ∀ j, j < k0 → P (l.getD j 0) = false) ∨ (e = .returned (.int .i64 (-1)) ∧ ∀ j, j < l.length → P (l.getD j 0) = false)) ∧ ∃ m, w' = w.drewN m := by
  have HC := Lib.hid hC
  have HH := Lib.hid HD
  clear hC HD
  obtain ⟨n, hn⟩ : ∃ n, n = l.length := ⟨_, rfl⟩
  rw [← hn] at hl ⊢
  have HN := Lib.hid hn
  clear hn
  go_enter Tryz.func101, Tryz.ntmps101
  go_wp2_with fail
  go_loopw [8] (fun i wr => ∃ j m : Nat, j ≤ n ∧ i = .int .i64 j ∧ wr = w.drewN m ∧ ∀ p, p < j → P (l.getD p 0) = false) (fun i _ => n - (intOf i).toNat)
  case atStart => exact ⟨0, 0, Nat.zero_le _, rfl, rfl, fun p hp => absurd hp (by omega)⟩
  case round =>
    obtain ⟨j, m, hj, rfl, rfl, hall⟩ := hrel
    have HA := Lib.hid hall
    clear hall
    by_cases hlt : j < n
    · have hc := (HC.out.dn m).cell j (by rw [← HN.out]; exact hlt)
      have hd := HH.out m j (by rw [← HN.out]; exact hlt)
      obtain ⟨x, hx⟩ : ∃ x, x = l.getD j 0 := ⟨_, rfl⟩
      rw [← hx] at hc hd
      have HX := Lib.hid hx
      clear hx
      have b1 : (0 : Int) ≤ (j : Int) ∧ (j : Int) < (n : Int) := ⟨by omega, by omega⟩
      cases hp : P x
      · rw [hp] at hd
        go_wp2_with fail
        refine hd.mono ?_
        rintro e w' ⟨rfl, m', rfl⟩
        go_wp2_with fail
        go_roundw
        case rel =>
          refine ⟨j + 1, m + m', by omega, by go_num, rfl, fun p h => ?_⟩
          by_cases q : p < j
          · exact HA.out p q
          · rw [show p = j by omega, ← HX.out]; exact hp
        case measure => simp [intOf]; omega
      · rw [hp] at hd
        go_wp2_with fail
        refine hd.mono ?_
        rintro e w' ⟨rfl, m', rfl⟩
        go_wp2_with fail
        go_ret
        exact ⟨.inl ⟨j, rfl, hlt, by rw [← HX.out]; exact hp, HA.out⟩, _, rfl⟩
    · obtain rfl : j = n := by omega
      go_wp2_with fail
      go_ret
      exact ⟨.inr ⟨rfl, HA.out⟩, _, rfl⟩
def kpt (P : Nat → Bool) (l : List Nat) (j : Nat) : List Nat := (l.take j).filter fun x => !P x
theorem kpt_len (P : Nat → Bool) (l : List Nat) (j : Nat) : (kpt P l j).length ≤ j := by
  unfold kpt
  have h1 := List.length_filter_le (fun x => !P x) (l.take j)
  rw [List.length_take] at h1
  omega
theorem kpt_succ (P : Nat → Bool) {l : List Nat} {j : Nat} (h : j < l.length) : kpt P l (j + 1) = if P (l.getD j 0) then kpt P l j else kpt P l j ++ [l.getD j 0] := by
  unfold kpt
  rw [List.take_succ_eq_append_getElem h, List.filter_append, show l[j] = l.getD j 0 by rw [List.getD_eq_getElem?_getD, List.getElem?_eq_getElem h]; rfl]
  generalize l.getD j 0 = x
  cases hp : P x <;> simp [hp]
theorem kpt_all (P : Nat → Bool) (l : List Nat) : kpt P l l.length = l.filter fun x => !P x := by unfold kpt; rw [List.take_length]
theorem kpt_keep {P : Nat → Bool} {l : List Nat} {j : Nat} (hj : j ≤ l.length) (h : ∀ i, i < j → P (l.getD i 0) = false) : kpt P l j = l.take j := by
  unfold kpt
  rw [List.filter_eq_self]
  intro a ha
  obtain ⟨i, hi, e⟩ := List.getElem_of_mem ha
  rw [List.length_take] at hi
  have := h i (by omega)
  rw [List.getD_eq_getElem?_getD, List.getElem?_eq_getElem (by omega), Option.getD_some] at this
  rw [← e, List.getElem_take, this]; rfl
theorem gd_self (xs : List Nat) (a : Nat) : (xs ++ [a]).getD xs.length 0 = a := by
  rw [List.getD_eq_getElem?_getD, List.getElem?_append_right (Nat.le_refl _), Nat.sub_self]; rfl
theorem gd_app {xs : List Nat} {a i : Nat} (h : i < xs.length) : (xs ++ [a]).getD i 0 = xs.getD i 0 := by
  rw [List.getD_eq_getElem?_getD, List.getElem?_append_left h, ← List.getD_eq_getElem?_getD]
theorem Bt.sets (b : Nat) : ∀ (vs : List Value) (o : Nat) (w : World), Bt b w (w.setCells b o vs)
  | [], _, w => Bt.refl b w
  | v :: r, o, w => (Bt.set b w o v).trans (Bt.sets b r (o + 1) _)
/-- Where the loop of DeleteFunc stands. -/
structure DlI (P : Nat → Bool) (l : List Nat) (g : Nat) (w : World) (j : Nat) (wr : World) : Prop where
  lo : ∀ i, i < (kpt P l j).length → wr.cell? ⟨g, i, none⟩ = some (.int .i64 (((kpt P l j).getD i 0 : Nat) : Int))
  hi : ∀ i, j ≤ i → i < l.length → wr.cell? ⟨g, i, none⟩ = some (.int .i64 ((l.getD i 0 : Nat) : Int))
  is : ∀ i, i < l.length → (wr.cell? ⟨g, i, none⟩).isSome = true
  fz : ∀ i, i < l.length → wr.frozen? ⟨g, i, none⟩ = false
  bt : Bt g w wr
  lt : (kpt P l j).length < j
theorem DlI.dn {P : Nat → Bool} {l : List Nat} {g j : Nat} {w wr : World} (h : DlI P l g w j wr) (m : Nat) : DlI P l g w j (wr.drewN m) := ⟨h.lo, h.hi, h.is, h.fz, h.bt.trans (Bt.dn _ _ _), h.lt⟩
theorem DlI.skip {P : Nat → Bool} {l : List Nat} {g j : Nat} {w wr : World} (h : DlI P l g w j wr) (hj : j < l.length) (hp : P (l.getD j 0) = true) : DlI P l g w (j + 1) wr := by
  have e : kpt P l (j + 1) = kpt P l j := by rw [kpt_succ P hj, hp]; rfl
  exact ⟨by rw [e]; exact h.lo, fun i h1 h2 => h.hi i (by omega) h2, h.is, h.fz, h.bt, by rw [e]; have := h.lt; omega⟩
theorem DlI.keep {P : Nat → Bool} {l : List Nat} {g j : Nat} {w wr : World} (h : DlI P l g w j wr) (hj : j < l.length) (hp : P (l.getD j 0) = false) :
    DlI P l g w (j + 1) (wr.setCell ⟨g, (kpt P l j).length, none⟩ (.int .i64 ((l.getD j 0 : Nat) : Int))) := by
  have hk := h.lt
  have e : kpt P l (j + 1) = kpt P l j ++ [l.getD j 0] := by rw [kpt_succ P hj, hp]; rfl
  have len : (kpt P l (j + 1)).length = (kpt P l j).length + 1 := by rw [e, List.length_append]; rfl
  have other : ∀ i, i ≠ (kpt P l j).length → (wr.setCell ⟨g, (kpt P l j).length, none⟩ (.int .i64 ((l.getD j 0 : Nat) : Int))).cell? ⟨g, i, none⟩ = wr.cell? ⟨g, i, none⟩ := fun i hi => World.cell?_setCell_other _ _ _ _ (by simp; try omega)
  obtain ⟨old, ho⟩ := Option.isSome_iff_exists.1 (h.is (kpt P l j).length (by omega))
  have same := World.cell?_setCell_same wr ⟨g, (kpt P l j).length, none⟩ (.int .i64 ((l.getD j 0 : Nat) : Int)) ho
  refine ⟨fun i hi => ?_, fun i h1 h2 => ?_, fun i h1 => ?_, fun i h1 => ?_, h.bt.trans (Bt.set _ _ _ _), by omega⟩
  · rw [len] at hi
    by_cases q : i = (kpt P l j).length
    · rw [q, same, e, gd_self]
    · rw [other i q, h.lo i (by omega), e, gd_app (by omega)]
  · rw [other i (by omega)]; exact h.hi i (by omega) h2
  · by_cases q : i = (kpt P l j).length
    · rw [q, same]; rfl
    · rw [other i q]; exact h.is i h1
  · rw [World.frozen?_setCell]; exact h.fz i h1
theorem DlI.start {P : Nat → Bool} {l : List Nat} {g k0 m : Nat} {w : World} (hC : IntC g l w) (hk : k0 < l.length) (hp : P (l.getD k0 0) = true) (h : ∀ i, i < k0 → P (l.getD i 0) = false) : DlI P l g w (k0 + 1) (w.drewN m) ∧ (kpt P l (k0 + 1)).length = k0 := by
  have e : kpt P l (k0 + 1) = l.take k0 := by rw [kpt_succ P hk, hp, if_pos rfl, kpt_keep (by omega) h]
  have len : (kpt P l (k0 + 1)).length = k0 := by rw [e, List.length_take]; omega
  refine ⟨⟨fun i hi => ?_, fun i _ h2 => hC.cell i h2, fun i h1 => by rw [show (w.drewN m).cell? ⟨g, i, none⟩ = w.cell? ⟨g, i, none⟩ from rfl, hC.cell i h1]; rfl, hC.fz, Bt.dn _ _ _, by omega⟩, len⟩
  rw [len] at hi
  rw [e, show (w.drewN m).cell? ⟨g, i, none⟩ = w.cell? ⟨g, i, none⟩ from rfl, hC.cell i (by omega), List.getD_eq_getElem?_getD, List.getD_eq_getElem?_getD, List.getElem?_take, if_pos hi]
set_option maxHeartbeats 2000000 in
set_option maxRecDepth 100000 in
theorem dlf_any {l : List Nat} {P : Nat → Bool} {g cap : Nat} {c1 c2 c3 : Value} {w : World} (hl : l.length ≤ 9223372036854775807) (hcap : l.length ≤ cap) (hC : IntC g l w)
    (HD : ∀ (u : World) (i : Nat), i < l.length → Bt g w u → Calls Tryz.prog 84 #[.int .i64 ((l.getD i 0 : Nat) : Int), c1, c2, c3] u fun e w' => e = .returned (.bool (P (l.getD i 0))) ∧ ∃ m', w' = u.drewN m') :
    Calls Tryz.prog 83 #[.slice (some ⟨g, 0, none⟩) l.length cap, .func (.func 84) #[] #[c1, c2, c3]] w fun e w' =>
      e = .returned (.slice (some ⟨g, 0, none⟩) (l.filter fun x => !P x).length cap) ∧ IntC g (l.filter fun x => !P x) w' ∧ Bt g w w' := by
  have hI := ixf_any (cap := cap) (c1 := c1) (c2 := c2) (c3 := c3) hl hC (fun m i hi => HD (w.drewN m) i hi (Bt.dn _ _ _))
  have HC := Lib.hid hC
  have HH := Lib.hid HD
  clear hC HD
  obtain ⟨n, hn⟩ : ∃ n, n = l.length := ⟨_, rfl⟩
  rw [← hn] at hl hI hcap ⊢
  have HN := Lib.hid hn
  clear hn
  go_enter Tryz.func83, Tryz.ntmps83
  go_wp2_with fail
  refine hI.mono ?_
  rintro e w1 ⟨hc, m, rfl⟩
  clear hI
  rcases hc with ⟨k0, rfl, hk, hp, hall⟩ | ⟨rfl, hall⟩
  · have hk' : k0 < l.length := by rw [← HN.out]; exact hk
    obtain ⟨I0, len0⟩ := DlI.start (m := m) HC.out hk' hp hall
    clear hp hall
    have hne : ((k0 : Int) == -1) = false := beq_eq_false_iff_ne.2 (by omega)
    have I1 := Lib.hid I0
    have L0 := Lib.hid len0
    have K1 := Lib.hid hk
    have sk : (k0 : Int) + 1 ≤ 9223372036854775807 := by omega
    clear I0 len0 hk'
    go_wp2_with fail
    go_loopw [5, 6] (fun vi vj wr => ∃ i j : Nat, vi = .int .i64 i ∧ vj = .int .i64 j ∧ j ≤ n ∧ Hid (i = (kpt P l j).length) ∧ Hid (DlI P l g w j wr)) (fun _ vj _ => n - (intOf vj).toNat)
    case atStart => exact ⟨k0, k0 + 1, rfl, by go_num, by have := K1.out; omega, Lib.hid L0.out.symm, I1⟩
    case round =>
      clear I1 L0 hne sk
      obtain ⟨i, j, rfl, rfl, hj, Hi, HI⟩ := hrel
      have il : i < j := by have := HI.out.lt; rw [← Hi.out] at this; exact this
      by_cases hlt : j < n
      · have hj' : j < l.length := by rw [← HN.out]; exact hlt
        have cj := HI.out.hi j (Nat.le_refl _) hj'
        obtain ⟨old, ci⟩ := Option.isSome_iff_exists.1 (HI.out.is i (by omega))
        have fi := HI.out.fz i (by omega)
        have hd := HH.out wr j hj' HI.out.bt
        obtain ⟨x, hx⟩ : ∃ x, x = l.getD j 0 := ⟨_, rfl⟩
        rw [← hx] at cj hd
        have HX := Lib.hid hx
        have HJ := Lib.hid hj'
        clear hx hj'
        have b1 : (0 : Int) ≤ (j : Int) ∧ (j : Int) < (n : Int) := ⟨by omega, by omega⟩
        have b2 : (0 : Int) ≤ (i : Int) ∧ (i : Int) < (n : Int) := ⟨by omega, by omega⟩
        cases hp : P x
        · rw [hp] at hd
          have HP := Lib.hid hp
          clear hp
          go_wp2_with fail
          refine hd.mono ?_
          rintro e w' ⟨rfl, m', rfl⟩
          go_wp2_with fail
          go_roundw
          case rel =>
            refine ⟨i + 1, j + 1, by go_num, by go_num, by omega, Lib.hid ?_, Lib.hid ?_⟩
            · rw [kpt_succ P HJ.out, ← HX.out, HP.out, if_neg (by decide), List.length_append, Hi.out]; rfl
            · have := (HI.out.dn m').keep HJ.out (by rw [← HX.out]; exact HP.out)
              rw [← HX.out, ← Hi.out] at this
              exact this
          case measure => simp [intOf]; omega
        · rw [hp] at hd
          have HP := Lib.hid hp
          clear hp
          go_wp2_with fail
          refine hd.mono ?_
          rintro e w' ⟨rfl, m', rfl⟩
          go_wp2_with fail
          go_roundw
          case rel =>
            refine ⟨i, j + 1, rfl, by go_num, by omega, Lib.hid ?_, Lib.hid ((HI.out.dn m').skip HJ.out (by rw [← HX.out]; exact HP.out))⟩
            rw [kpt_succ P HJ.out, ← HX.out, HP.out, if_pos rfl, Hi.out]
          case measure => simp [intOf]; omega
      · obtain rfl : j = n := by omega
        have hltz : ¬ (j : Int) < (j : Int) := by omega
        have hcl : ∀ ty, (Builtin.clear_ #[107] ty #[.slice (some ⟨g, i, none⟩) (j - i) (cap - i)]).run Tryz.prog wr = .ok (.tuple #[]) (wr.setCells g i (List.replicate (j - i) (.int .i64 0))) :=
          fun ty => Lib.run_clear_slice wr _ 3 ty (.int .i64 0) Tryz.underlying107 Tryz.zeroValue3 rfl rfl g i _ _ (by omega) (fun t ht => HI.out.is _ (by rw [← HN.out]; omega)) (fun t ht => HI.out.fz _ (by rw [← HN.out]; omega))
        have b3 : (0 : Int) ≤ (i : Int) ∧ (i : Int) ≤ (j : Int) := ⟨by omega, by omega⟩
        have b4 : ¬ (j : Int) < (i : Int) := by omega
        have b5 : ¬ (cap : Int) < (i : Int) := by omega
        go_wp2_with fail
        go_ret
        have E := kpt_all P l
        rw [← HN.out] at E
        have q := Hi.out
        rw [E] at q
        rw [← q]
        refine ⟨rfl, ⟨fun t ht => ?_, fun t ht => ?_⟩, HI.out.bt.trans (Bt.sets _ _ _ _)⟩
        · rw [← q] at ht
          rw [World.cell?_setCells_out g _ i wr ⟨g, t, none⟩ (fun _ _ => .inl ht)]
          have := HI.out.lo t (by rw [← Hi.out]; exact ht)
          rwa [E] at this
        · rw [World.frozen?_setCells]
          rw [← q] at ht
          exact HI.out.fz t (by rw [← HN.out]; omega)
  · have e1 : (l.filter fun x => !P x) = l := by
      have := kpt_keep (P := P) (l := l) (j := l.length) (Nat.le_refl _) (by rw [← HN.out]; exact hall)
      rw [kpt_all, List.take_length] at this
      exact this
    have E1 := Lib.hid e1
    clear hall e1
    go_wp2_with fail
    go_ret
    rw [E1.out, ← HN.out]
    exact ⟨rfl, HC.out.dn m, Bt.dn _ _ _⟩
end Go.Proofs.YtkhicgafhbecfaaGreatDoor

namespace Go.Proofs.YtkhicgafhbecfaaGreatDoor
open Go.RowKit

theorem infoInt25 : (Tryz.prog.info? 3).map (fun i => (i.zero, i.size, i.bytes)) = some (some (.int .i64 0), 1, 8) := by kernel_rfl
/-- Where the loop of indices stands. -/
structure IdxI (h n j : Nat) (W wr : World) : Prop where
  lo : ∀ i, i < j → wr.cell? ⟨h, i, none⟩ = some (.int .i64 (i : Int))
  is : ∀ i, i < n → (wr.cell? ⟨h, i, none⟩).isSome = true
  fz : ∀ i, i < n → wr.frozen? ⟨h, i, none⟩ = false
  bl : Below W.heap.size W wr
theorem IdxI.step {h n j : Nat} {W wr : World} (H : IdxI h n j W wr) (hj : j < n) (hh : W.heap.size ≤ h) : IdxI h n (j + 1) W (wr.setCell ⟨h, j, none⟩ (.int .i64 (j : Int))) := by
  obtain ⟨old, ho⟩ := Option.isSome_iff_exists.1 (H.is j hj)
  have same := World.cell?_setCell_same wr ⟨h, j, none⟩ (.int .i64 (j : Int)) ho
  have other : ∀ i, i ≠ j → (wr.setCell ⟨h, j, none⟩ (.int .i64 (j : Int))).cell? ⟨h, i, none⟩ = wr.cell? ⟨h, i, none⟩ := fun i hi => World.cell?_setCell_other _ _ _ _ (by simp; try omega)
  refine ⟨fun i hi => ?_, fun i hi => ?_, fun i hi => by rw [World.frozen?_setCell]; exact H.fz i hi, H.bl.setCell (p := ⟨h, j, none⟩) hh _⟩
  · by_cases q : i = j
    · rw [q, same]
    · rw [other i q]; exact H.lo i (by omega)
  · by_cases q : i = j
    · rw [q, same]; rfl
    · rw [other i q]; exact H.is i hi
theorem rng_get {n i : Nat} (h : i < n) : (List.range n).getD i 0 = i := by
  rw [List.getD_eq_getElem?_getD, List.getElem?_range h]; rfl
set_option maxHeartbeats 1000000 in
set_option maxRecDepth 100000 in
theorem ind_any (v : Value) (n : Nat) (g cap : Nat) (hv : v = .slice (some ⟨g, 0, none⟩) n cap) (hn : n ≤ 1000000) (w : World) :
    Calls Tryz.prog 81 #[v] w fun e w' => e = .returned (.slice (some ⟨w.heap.size, 0, none⟩) n n) ∧ IntC w.heap.size (List.range n) w' ∧ Below w.heap.size w w' := by
  subst hv
  have hinf := infoInt25
  obtain ⟨i0, hi⟩ : ∃ i0, Tryz.prog.info? 3 = some i0 := by
    cases h : Tryz.prog.info? 3 with
    | none => rw [h] at hinf; cases hinf
    | some i => exact ⟨i, rfl⟩
  rw [hi] at hinf
  simp only [Option.map_some, Option.some.injEq, Prod.mk.injEq] at hinf
  obtain ⟨hz0, hz1, hz2⟩ := hinf
  obtain ⟨w1, hrun, hown, hgrow⟩ := run_make_full (P := Tryz.prog) (w := w) w.heap.size 107 3 i0 (.int .i64 0) 1 Tryz.underlying107 hi hz0 hz1 .i64 .i64 n (by rw [hz2]; omega) (by unfold maxLen; omega) (Nat.le_refl _)
  have hbl : Below w.heap.size w w1 := (Below.refl w.heap.size w).grown hgrow (Nat.le_refl _) (fun _ e => by cases e)
  have I0 : IdxI w.heap.size n 0 w w1 := by
    rcases hown.2 with ⟨e, _⟩ | ⟨g', cap', cur, e, hb, hg, hnc, hcm, hcs, htake⟩
    · cases e
    · injection e with e1 e2 e3
      injection e1 with e1
      injection e1 with e1
      subst e1
      refine ⟨fun i hi => absurd hi (by omega), fun i hi => ?_, fun i hi => frozen_of_row _ _ i _ _ hg, hbl⟩
      rw [cell_of_row _ _ i _ _ _ hg, Array.getElem?_eq_getElem (by omega)]
      rfl
  have I1 := Lib.hid I0
  clear I0 hown hgrow hbl hi hz0 hz1 hz2 i0
  go_enter Tryz.func81, Tryz.ntmps81
  go_wp2_with fail
  go_loopw [10] (fun vi wr => ∃ j : Nat, j ≤ n ∧ vi = .int .i64 j ∧ Hid (IdxI w.heap.size n j w wr)) (fun vi _ => n - (intOf vi).toNat)
  case atStart => exact ⟨0, Nat.zero_le _, rfl, I1⟩
  case round =>
    clear I1 hrun
    obtain ⟨j, hj, rfl, HI⟩ := hrel
    by_cases hlt : j < n
    · obtain ⟨old, ci⟩ := Option.isSome_iff_exists.1 (HI.out.is j hlt)
      have fi := HI.out.fz j hlt
      have b1 : (0 : Int) ≤ (j : Int) ∧ (j : Int) < (n : Int) := ⟨by omega, by omega⟩
      go_wp2_with fail
      go_roundw
      case rel => exact ⟨j + 1, by omega, by go_num, Lib.hid (HI.out.step hlt (Nat.le_refl _))⟩
      case measure => simp [intOf]; omega
    · obtain rfl : j = n := by omega
      go_wp2_with fail
      go_ret
      refine ⟨rfl, ⟨fun i hi => ?_, fun i hi => ?_⟩, HI.out.bl⟩
      · rw [List.length_range] at hi; rw [rng_get hi]; exact HI.out.lo i hi
      · rw [List.length_range] at hi; exact HI.out.fz i hi
theorem take_lg (ws : List ByteArray) {j : Nat} (h : j < ws.length) : lgW (ws.take (j + 1)) = max (lgW (ws.take j)) (ws.getD j ByteArray.empty).size := by
  rw [List.take_succ_eq_append_getElem h, lgW_snoc, List.getD_eq_getElem?_getD, List.getElem?_eq_getElem h]; rfl
theorem lon25_any {ws : List ByteArray} {g cap : Nat} {w : World} (hW : StrsIn g cap ws w) :
    Calls Tryz.prog 82 #[.slice (some ⟨g, 0, none⟩) ws.length cap] w fun e w' => e = .returned (.int .i64 (lgW ws : Nat)) ∧ w = w' := by
  have hl : ws.length ≤ 9223372036854775807 := by have := hW.le; have := hW.mx; unfold maxLen at this; omega
  have HC := Lib.hid hW.cell
  obtain ⟨n, hn⟩ : ∃ n, n = ws.length := ⟨_, rfl⟩
  rw [← hn] at hl ⊢
  have HN := Lib.hid hn
  clear hn hW
  go_enter Tryz.func82, Tryz.ntmps82
  go_wp2_with fail
  go_loop [8, 3] (fun vi vl => ∃ j : Nat, j ≤ n ∧ vi = .int .i64 j ∧ vl = .int .i64 (lgW (ws.take j) : Nat)) (fun vi _ => n - (intOf vi).toNat)
  case atStart => exact ⟨0, Nat.zero_le _, rfl, rfl⟩
  case round =>
    obtain ⟨j, hj, rfl, rfl⟩ := hrel
    by_cases hlt : j < n
    · have hc := HC.out j (by rw [← HN.out]; exact hlt)
      have hx : (if lgW (ws.take j) < (ws.getD j ByteArray.empty).size then ((ws.getD j ByteArray.empty).size : Int) else ((lgW (ws.take j) : Nat) : Int)) = ((lgW (ws.take (j + 1)) : Nat) : Int) := by
        rw [take_lg ws (by rw [← HN.out]; exact hlt)]
        split <;> omega
      have b1 : (0 : Int) ≤ (j : Int) ∧ (j : Int) < (n : Int) := ⟨by omega, by omega⟩
      generalize ws.getD j ByteArray.empty = x at *
      obtain ⟨U, hU⟩ : ∃ U, U = lgW (ws.take (j + 1)) := ⟨_, rfl⟩
      rw [← hU] at hx
      have HU := Lib.hid hU
      clear hU
      generalize lgW (ws.take j) = L at *
      go_wp2_with fail
      go_round
      case rel => exact ⟨j + 1, by omega, by go_num, by rw [← HU.out]⟩
      case measure => simp [intOf]; omega
    · obtain rfl : j = n := by omega
      go_wp2_with fail
      go_ret
      refine ⟨congrArg (fun z : Nat => Ending.returned (.int .i64 (z : Int))) ?_, rfl⟩
      have := HN.out
      rw [show ws.take j = ws from by rw [this]; exact List.take_length]
end Go.Proofs.YtkhicgafhbecfaaGreatDoor

namespace Go.Proofs.YtkhicgafhbecfaaGreatDoor
open Go.RowKit

def NoHit (S : ByteArray) (k : Nat) (ws : List ByteArray) (n : Nat) : Prop := ∀ i, i < ws.length → (ws.getD i ByteArray.empty).size ≤ n → hitB S k (ws.getD i ByteArray.empty) = false
theorem hit_eq {S : ByteArray} {k : Nat} {w : ByteArray} (h : hitB S k w = true) : cm S k w = w.size := of_decide_eq_true h
theorem hit_not {S : ByteArray} {k : Nat} {w : ByteArray} (h : hitB S k w = false) : cm S k w ≠ w.size := of_decide_eq_false h
theorem noHit_zero {S : ByteArray} {k : Nat} {ws : List ByteArray} (hw : Wok ws) : NoHit S k ws 0 := fun i hi h => by have := hw.1 i hi; omega
theorem wd_hit {S : ByteArray} {k n i0 : Nat} {ws : List ByteArray} (hw : Wok ws) (hm : i0 ∈ poss S k ws (n + 1)) (hs : (ws.getD i0 ByteArray.empty).size = n + 1) (hn : NoHit S k ws n) : wdF S k ws = some i0 := by
  obtain ⟨h1, h2⟩ := poss_mem.1 hm
  have hit : hitB S k (ws.getD i0 ByteArray.empty) = true := decide_eq_true (by have := (cm_spec S k (ws.getD i0 ByteArray.empty)).1; omega)
  refine wdF_is h1 hit fun j hj => ?_
  cases e : hitB S k (ws.getD j ByteArray.empty)
  · rfl
  · have e1 := hit_eq e
    by_cases q : (ws.getD j ByteArray.empty).size ≤ n
    · rw [hn j (by omega) q] at e; cases e
    · have := wok_one hw h1 (show j < ws.length by omega) hit (by omega)
      omega
theorem wd_go {S : ByteArray} {k n i0 : Nat} {ws : List ByteArray} (hw : Wok ws) (hm : i0 ∈ poss S k ws (n + 1)) (hs : (ws.getD i0 ByteArray.empty).size ≠ n + 1) (hn : NoHit S k ws n) : NoHit S k ws (n + 1) := by
  obtain ⟨h1, h2⟩ := poss_mem.1 hm
  intro j hj hq
  cases e : hitB S k (ws.getD j ByteArray.empty)
  · rfl
  · by_cases q : (ws.getD j ByteArray.empty).size ≤ n
    · rw [hn j hj q] at e; cases e
    · have := wok_one hw hj h1 e (by omega)
      subst this
      omega
theorem wd_none {S : ByteArray} {k n : Nat} {ws : List ByteArray} (hn : NoHit S k ws n) (he : poss S k ws (n + 1) = []) (hp : n = 0 ∨ poss S k ws n ≠ []) : wdF S k ws = none ∧ mxW S k ws = n := by
  have small : ∀ j, j < ws.length → cm S k (ws.getD j ByteArray.empty) ≤ n := fun j hj => by
    refine Classical.byContradiction fun c => ?_
    have : j ∈ poss S k ws (n + 1) := poss_mem.2 ⟨hj, by omega⟩
    rw [he] at this; cases this
  refine ⟨wdF_is_none fun j hj => ?_, ?_⟩
  · cases e : hitB S k (ws.getD j ByteArray.empty)
    · rfl
    · have e1 := hit_eq e
      have := small j hj
      rw [hn j hj (by omega)] at e; cases e
  · have h1 : mxW S k ws ≤ n := mxW_le fun w hw => by
      obtain ⟨j, hj, e⟩ := List.getElem_of_mem hw
      have := small j hj
      rw [List.getD_eq_getElem?_getD, List.getElem?_eq_getElem hj, Option.getD_some, e] at this
      exact this
    rcases hp with e | e
    · omega
    · obtain ⟨j, hj⟩ := List.exists_mem_of_ne_nil _ e
      obtain ⟨g1, g2⟩ := poss_mem.1 hj
      have := mxW_ge (S := S) (k := k) (getD_mem g1)
      omega
theorem wd_end {S : ByteArray} {k n : Nat} {ws : List ByteArray} (hn : NoHit S k ws n) (hp : poss S k ws n ≠ []) (hl : lgW ws ≤ n) : False := by
  obtain ⟨j, hj⟩ := List.exists_mem_of_ne_nil _ hp
  obtain ⟨g1, g2⟩ := poss_mem.1 hj
  have h1 := lgW_ge (getD_mem g1)
  have h2 := (cm_spec S k (ws.getD j ByteArray.empty)).1
  exact hit_not (hn j g1 (by omega)) (by omega)
theorem poss_ne {S : ByteArray} {k : Nat} {ws : List ByteArray} (h : 1 ≤ ws.length) : poss S k ws 0 ≠ [] := by
  intro e
  have : 0 ∈ poss S k ws 0 := poss_mem.2 ⟨h, Nat.zero_le _⟩
  rw [e] at this; cases this

theorem StrsIn.bt {g cap b : Nat} {xs : List ByteArray} {w w' : World} (h : StrsIn g cap xs w) (hb : Bt b w w') (hn : g ≠ b) : StrsIn g cap xs w' :=
  ⟨Nat.lt_of_lt_of_le h.lt hb.size, h.le, h.mx, fun i hi => hb.cell hn (h.cell i hi)⟩
theorem IntC.bt {g b : Nat} {l : List Nat} {w w' : World} (h : IntC g l w) (hb : Bt b w w') (hn : g ≠ b) (hl : g < w.heap.size) : IntC g l w' :=
  ⟨fun i hi => hb.cell hn (h.cell i hi), fun i hi => hb.frozen hn hl (h.fz i hi)⟩
theorem Bt.over {b h : Nat} {W u u' : World} (H : Bt b W u) (H' : Bt h u u') (hh : W.heap.size ≤ h) : Bt b W u' :=
  ⟨H'.os.trans H.os, H'.tape.trans H.tape, H'.output.trans H.output, Nat.le_trans H.size H'.size, fun j h1 h2 => (H'.block j (Nat.lt_of_lt_of_le h1 H.size) (by omega)).trans (H.block j h1 h2)⟩
/-- Where the loop of acceptWord stands: the scanner, the words, the boxes of both. -/
structure AwS (S : ByteArray) (k : Nat) (ws : List ByteArray) (g cap b p q h : Nat) (W : World) (n : Nat) (u : World) : Prop where
  row : u.heap[b]? = some (scO S (k + n) false)
  st : StrsIn g cap ws u
  cp : u.cell? ⟨p, 0, none⟩ = some (xp b)
  cq : u.cell? ⟨q, 0, none⟩ = some (.slice (some ⟨g, 0, none⟩) ws.length cap)
  bt : Bt b W u
  hl : h < u.heap.size
theorem AwS.on {S : ByteArray} {k : Nat} {ws : List ByteArray} {g cap b p q h n : Nat} {W u u' : World} (H : AwS S k ws g cap b p q h W n u) (hb : Below u.heap.size u u') : AwS S k ws g cap b p q h W n u' :=
  ⟨row_kept H.row hb, H.st.on hb, cell_below H.cp hb, cell_below H.cq hb, H.bt.trans (.of_below hb), Nat.lt_of_lt_of_le H.hl hb.size⟩
theorem AwS.bth {S : ByteArray} {k : Nat} {ws : List ByteArray} {g cap b p q h n : Nat} {W u u' : World} (H : AwS S k ws g cap b p q h W n u) (hb : Bt h u u') (h1 : b ≠ h) (h2 : g ≠ h) (h3 : p ≠ h) (h4 : q ≠ h) (h5 : W.heap.size ≤ h) : AwS S k ws g cap b p q h W n u' :=
  ⟨hb.row h1 H.row, H.st.bt hb h2, hb.cell h3 H.cp, hb.cell h4 H.cq, H.bt.over hb h5, Nat.lt_of_lt_of_le H.hl hb.size⟩
theorem AwS.next {S : ByteArray} {k : Nat} {ws : List ByteArray} {g cap b p q h n : Nat} {W u : World} (H : AwS S k ws g cap b p q h W n u) (h2 : g ≠ b) (h3 : p ≠ b) (h4 : q ≠ b) : AwS S k ws g cap b p q h W (n + 1) (u.setCell ⟨b, 1, none⟩ (.int .i64 (((k + n : Nat) : Int) + 1))) :=
  ⟨sc_next H.row, H.st.bt (Bt.set b u 1 _) h2, (Bt.set b u 1 _).cell h3 H.cp, (Bt.set b u 1 _).cell h4 H.cq, H.bt.trans (Bt.set b u 1 _), by rw [show (u.setCell ⟨b, 1, none⟩ (.int .i64 (((k + n : Nat) : Int) + 1))).heap.size = u.heap.size by simp]; exact H.hl⟩
theorem poss_le (S : ByteArray) (k : Nat) (ws : List ByteArray) (n : Nat) : (poss S k ws n).length ≤ ws.length := by
  unfold poss
  have := List.length_filter_le (fun i => decide (n ≤ cm S k (ws.getD i ByteArray.empty))) (List.range ws.length)
  rw [List.length_range] at this
  exact this
/-- One byte more: the words that are no longer possible are deleted. -/
theorem del_any {S : ByteArray} {k : Nat} {ws : List ByteArray} {g cap b p q h r n : Nat} {W u : World} (A : AwS S k ws g cap b p q h W n u) (hI : IntC h (poss S k ws n) u) (cr : u.cell? ⟨r, 0, none⟩ = some (.int .i64 n)) (hl : ws.length ≤ 1000000)
    (h1 : b ≠ h) (h2 : g ≠ h) (h3 : p ≠ h) (h4 : q ≠ h) (h5 : W.heap.size ≤ h) (h6 : r ≠ h) :
    Calls Tryz.prog 83 #[.slice (some ⟨h, 0, none⟩) (poss S k ws n).length ws.length, .func (.func 84) #[] #[xp p, xp q, xp r]] u fun e w' =>
      e = .returned (.slice (some ⟨h, 0, none⟩) (poss S k ws (n + 1)).length ws.length) ∧ IntC h (poss S k ws (n + 1)) w' ∧ AwS S k ws g cap b p q h W n w' ∧ w'.cell? ⟨r, 0, none⟩ = some (.int .i64 n) := by
  have hp := poss_le S k ws n
  have D := dlf_any (l := poss S k ws n) (P := fun x => !contB S (k + n) (ws.getD x ByteArray.empty) n) (g := h) (cap := ws.length) (c1 := xp p) (c2 := xp q) (c3 := xp r) (w := u) (by omega) hp hI (fun v i hi hb => by
    have A' := A.bth hb h1 h2 h3 h4 h5
    have hm : (poss S k ws n).getD i 0 ∈ poss S k ws n := by rw [List.getD_eq_getElem?_getD, List.getElem?_eq_getElem hi]; exact List.getElem_mem hi
    exact cloW_any A'.row (poss_mem.1 hm).1 A'.st A'.cp A'.cq (hb.cell h6 cr))
  refine D.mono ?_
  rintro e w' ⟨rfl, d1, d2⟩
  have e : ((poss S k ws n).filter fun x => !(fun x => !contB S (k + n) (ws.getD x ByteArray.empty) n) x) = poss S k ws (n + 1) := by
    rw [← poss_succ]
    congr 1
    funext x
    simp
  rw [e] at d1 ⊢
  exact ⟨rfl, d1, A.bth d2 h1 h2 h3 h4 h5, d2.cell h6 cr⟩
theorem lgW_lt {ws : List ByteArray} (h : ∀ i, i < ws.length → (ws.getD i ByteArray.empty).size < big) : lgW ws < big := by
  induction ws with
  | nil => show 0 < 4611686018427387904; omega
  | cons a ws ih =>
    have h1 := h 0 (by simp)
    have h2 := ih (fun i hi => h (i + 1) (by simpa using hi))
    simp only [List.getD_cons_zero] at h1
    unfold lgW
    have h1' : a.size < 4611686018427387904 := h1
    have h2' : lgW ws < 4611686018427387904 := h2
    show max a.size (lgW ws) < 4611686018427387904
    omega
set_option maxHeartbeats 2000000 in
set_option maxRecDepth 100000 in
theorem acw_any {S : ByteArray} {b k g cap : Nat} {ws : List ByteArray} {w : World} (h : w.heap[b]? = some (scO S k false)) (hk : k ≤ S.size) (hs : S.size < big) (hW : StrsIn g cap ws w) (hgb : g ≠ b) (hw : Wok ws) (h1 : 1 ≤ ws.length) (h2 : ws.length ≤ 1000000) (h3 : lgW ws < big) :
    Calls Tryz.prog 68 #[xp b, .slice (some ⟨g, 0, none⟩) ws.length cap] w fun e w' =>
      ((∃ i, wdF S k ws = some i ∧ e = .returned (.int .i64 (i : Nat))) ∨ (wdF S k ws = none ∧ e = .panicked [sgP])) ∧ w'.heap[b]? = some (scO S (wdK S k ws) false) ∧ Bt b w w' := by
  have hmf : ∀ (fn : Fn) (first cap : Array Value) (w : World), (Instr.makeFunc fn first cap).run Tryz.prog w = .ok (.func fn first cap) w := fun _ _ _ _ => rfl
  have hbl := row_lt h
  have hgl := hW.lt
  have HK := Lib.hid hk
  have HW := Lib.hid hw
  have HL1 := Lib.hid h1
  clear hk hw h1
  go_enter Tryz.func68, Tryz.ntmps68
  go_wp2_with fail
  obtain ⟨u, hu⟩ : ∃ u, u = (w.alloc (bx1 b)).alloc (.cells #[.slice (some ⟨g, 0, none⟩) ws.length cap] 38) := ⟨_, rfl⟩
  have B0 : Below w.heap.size w u := hu ▸ al2 w _ _
  have cp : u.cell? ⟨w.heap.size, 0, none⟩ = some (xp b) := hu ▸ one_new w #[xp b] _ _ _ rfl
  have cq : u.cell? ⟨w.heap.size + 1, 0, none⟩ = some (.slice (some ⟨g, 0, none⟩) ws.length cap) := hu ▸ (two_new w _ _ _ _ _ rfl).1
  have us : w.heap.size + 2 ≤ u.heap.size := by rw [hu]; simp
  rw [← hu]
  clear hu
  refine (ind_any _ ws.length g cap rfl h2 u).mono ?_
  rintro e w1 ⟨rfl, hic, hb1⟩
  obtain ⟨hh, ehh⟩ : ∃ hh, hh = u.heap.size := ⟨_, rfl⟩
  rw [← ehh] at hic ⊢
  have hne : w.heap.size + 2 ≤ hh := by omega
  clear ehh
  have hhl : hh < w1.heap.size := World.block_lt_of_cell? w1 _ (hic.cell 0 (by rw [List.length_range]; have := HL1.out; omega))
  have A0 : AwS S k ws g cap b w.heap.size (w.heap.size + 1) hh w 0 w1 := ⟨row_kept (row_kept h B0) hb1, (hW.on B0).on hb1, cell_below cp hb1, cell_below cq hb1, .of_below (below_on B0 hb1), hhl⟩
  clear hb1 B0 cp cq hW h
  have c2 := A0.cq
  go_wp2_with fail
  refine (lon25_any A0.st).mono ?_
  rintro e w2 ⟨rfl, rfl⟩
  go_wp2_with fail
  have N0 := noHit_zero (S := S) (k := k) HW.out
  rw [← poss_zero S k ws] at hic
  have P0 := poss_ne (S := S) (k := k) HL1.out
  have l0 : (poss S k ws 0).length = ws.length := by rw [poss_zero, List.length_range]
  have I0 := Lib.hid (And.intro A0 (And.intro hic (And.intro N0 P0)))
  have lgb : lgW ws < 4611686018427387904 := h3
  clear A0 hic N0 P0 c2 hhl us
  go_loopw [5, 12] (fun v5 v12 wr => ∃ n m : Nat, v5 = .slice (some ⟨hh, 0, none⟩) m ws.length ∧ v12 = .int .i64 n ∧ n ≤ lgW ws ∧ Hid (m = (poss S k ws n).length) ∧ Hid (AwS S k ws g cap b w.heap.size (w.heap.size + 1) hh w n wr ∧ IntC hh (poss S k ws n) wr ∧ NoHit S k ws n ∧ poss S k ws n ≠ [])) (fun _ v12 _ => lgW ws - (intOf v12).toNat)
  case atStart => exact ⟨0, ws.length, rfl, rfl, Nat.zero_le _, Lib.hid l0.symm, I0⟩
  case round =>
    clear I0 l0 h3
    obtain ⟨n, m, rfl, rfl, hn, HM, HI⟩ := hrel
    obtain ⟨lg, hlg⟩ : ∃ lg, lg = lgW ws := ⟨_, rfl⟩
    rw [← hlg] at hn lgb ⊢
    have HLG := Lib.hid hlg
    clear hlg
    by_cases hlt : n < lg
    · obtain ⟨A, hI, hN, hP⟩ := HI.out
      have A1 := A.on (al1 wr (.cells #[.int .i64 n] 3))
      have hI1 := hI.bt (Bt.al b wr (.cells #[.int .i64 n] 3)) (by omega) A.hl
      have hD := del_any (r := wr.heap.size) A1 hI1 (cell_new wr #[.int .i64 n] 3 _ rfl) h2 (by omega) (by omega) (by omega) (by omega) (by omega) (by have := A.hl; omega)
      rw [← HM.out] at hD
      have HN := Lib.hid hN
      have HP := Lib.hid hP
      have rb : wr.heap.size ≠ b := by have := row_lt A.row; omega
      clear A A1 hI hI1 hN hP HI
      obtain ⟨m', hm'⟩ : ∃ m', m' = (poss S k ws (n + 1)).length := ⟨_, rfl⟩
      rw [← hm'] at hD
      have HM' := Lib.hid hm'
      clear hm'
      go_wp2_with fail
      refine hD.mono ?_
      rintro e w2 ⟨rfl, hI2, A2, cr⟩
      clear hD
      obtain ⟨K, hK⟩ : ∃ K, K = k + n := ⟨_, rfl⟩
      have HKn := Lib.hid hK
      have row2 := A2.row
      rw [← hK] at row2
      clear hK
      by_cases m0 : m' = 0
      · subst m0
        have e0 : poss S k ws (n + 1) = [] := List.eq_nil_of_length_eq_zero HM'.out.symm
        obtain ⟨q1, q2⟩ := wd_none HN.out e0 (.inr HP.out)
        have Q1 := Lib.hid q1
        have Q2 := Lib.hid (show wdK S k ws = K by unfold wdK; rw [q1, HKn.out, ← q2])
        have A3 := Lib.hid A2
        clear q1 q2 e0 hI2 A2 cr
        go_wp2_with fail
        refine ⟨rfl, .inr ⟨Q1.out, rfl⟩, ?_, A3.out.bt⟩
        rw [Q2.out]; exact row2
      · obtain ⟨i0, hi0⟩ : ∃ i0, i0 = (poss S k ws (n + 1)).getD 0 0 := ⟨_, rfl⟩
        have pm : i0 ∈ poss S k ws (n + 1) := by
          rw [hi0, List.getD_eq_getElem?_getD, List.getElem?_eq_getElem (by rw [← HM'.out]; omega)]
          exact List.getElem_mem _
        obtain ⟨il, ic⟩ := poss_mem.1 pm
        have K1 := (cm_ge.1 ic).2 n (by omega)
        rw [← HKn.out] at K1
        have sb : (K : Int) + 1 ≤ 9223372036854775807 := by have : K < 4611686018427387904 := Nat.lt_trans K1.1 hs; omega
        have A3 := A2.next (by omega) (by omega) (by omega)
        rw [← HKn.out] at A3
        have ci := (Bt.set b w2 1 (.int .i64 ((K : Int) + 1))).cell (show hh ≠ b by omega) (hI2.cell 0 (by rw [← HM'.out]; omega))
        rw [← hi0] at ci
        have cq := A3.cq
        have cg := A3.st.cell i0 il
        have cn := (Bt.set b w2 1 (.int .i64 ((K : Int) + 1))).cell rb cr
        have I3 := hI2.bt (Bt.set b w2 1 (.int .i64 ((K : Int) + 1))) (by omega) A2.hl
        have cp := A2.cp
        obtain ⟨c0, c1, c2, f0, f1, f2, -⟩ := sc_facts row2
        have HA3 := Lib.hid A3
        have HI3 := Lib.hid I3
        have HPM := Lib.hid pm
        have b1 : (0 : Int) ≤ 0 ∧ (0 : Int) < (m' : Int) := ⟨by omega, by omega⟩
        have b2 : (0 : Int) ≤ (i0 : Int) ∧ (i0 : Int) < (ws.length : Int) := ⟨by omega, by omega⟩
        have z1 : ((m' : Int) == 0) = false := beq_eq_false_iff_ne.2 (by omega)
        have z2 : (m' == 0) = false := beq_eq_false_iff_ne.2 m0
        have sn : (n : Int) + 1 ≤ 9223372036854775807 := by omega
        have wn : IntKind.i64.wrap ((n : Int) + 1) = (n : Int) + 1 := by rw [IntKind.wrap_i64]; omega
        obtain ⟨wd, hwd⟩ : ∃ wd, wd = ws.getD i0 ByteArray.empty := ⟨_, rfl⟩
        rw [← hwd] at cg
        have HWD := Lib.hid hwd
        clear hwd A3 A2 I3 hI2 pm il ic K1 hi0 row2 cr
        by_cases hsz : wd.size = n + 1
        · have e1 : ((wd.size : Int) == (n : Int) + 1) = true := beq_iff_eq.2 (by omega)
          have e2 : (wd.size == n + 1) = true := beq_iff_eq.2 hsz
          have HS := Lib.hid hsz
          have wf := wd_hit HW.out HPM.out (by rw [← HWD.out]; exact hsz) HN.out
          have WF := Lib.hid wf
          clear wf hsz
          go_wp2_with fail
          go_quiet (fail)
          go_wp2_with fail
          go_ret
          have eK : wdK S k ws = k + (n + 1) := by
            unfold wdK; rw [WF.out]
            show k + (ws.getD i0 ByteArray.empty).size = _
            rw [← HWD.out, HS.out]
          exact ⟨.inl ⟨i0, WF.out, rfl⟩, by rw [eK]; exact row_dn HA3.out.row _, HA3.out.bt.trans (Bt.dn _ _ _)⟩
        · have e1 : ((wd.size : Int) == (n : Int) + 1) = false := beq_eq_false_iff_ne.2 (by omega)
          have e2 : (wd.size == n + 1) = false := beq_eq_false_iff_ne.2 hsz
          have n1 := Lib.hid (wd_go HW.out HPM.out (by rw [← HWD.out]; exact hsz) HN.out)
          clear hsz
          go_wp2_with fail
          go_quiet (fail)
          go_wp2_with fail
          go_roundw
          case rel => exact ⟨n + 1, m', rfl, by go_num, by omega, HM', Lib.hid ⟨HA3.out.on (below_dn (Below.refl _ _) _), HI3.out.dn _, n1.out, List.ne_nil_of_mem HPM.out⟩⟩
          case measure => simp [intOf]; omega
    · exact (wd_end HI.out.2.2.1 HI.out.2.2.2 (by rw [← HLG.out]; omega)).elim
end Go.Proofs.YtkhicgafhbecfaaGreatDoor

namespace Go.Proofs.YtkhicgafhbecfaaGreatDoor
open Go.RowKit

theorem same_cell {w : World} {q : Nat} {v0 v : Value} (h : w.cell? ⟨q, 0, none⟩ = some v0) : (w.setCell ⟨q, 0, none⟩ v).cell? ⟨q, 0, none⟩ = some v := World.cell?_setCell_same w ⟨q, 0, none⟩ v h
theorem wo_ok {S : ByteArray} {b k g cap i : Nat} {ws : List ByteArray} {w : World} (h : w.heap[b]? = some (scO S k false)) (hk : k ≤ S.size) (hs : S.size < big) (hW : StrsIn g cap ws w) (hgb : g ≠ b) (hw : Wok ws) (h1 : 1 ≤ ws.length) (h2 : ws.length ≤ 1000000) (h3 : lgW ws < big) (hf : wdF S k ws = some i) :
    Calls Tryz.prog 43 #[xp b, .slice (some ⟨g, 0, none⟩) ws.length cap] w fun e w' => e = .returned (.int .i64 i) ∧ w'.heap[b]? = some (scO S (wdK S k ws) false) ∧ Bt b w w' := by
  have hmf : ∀ (fn : Fn) (first cap : Array Value) (w : World), (Instr.makeFunc fn first cap).run Tryz.prog w = .ok (.func fn first cap) w := fun _ _ _ _ => rfl
  have HA := Lib.hid (fun (u : World) (h : u.heap[b]? = some (scO S k false)) (hW : StrsIn g cap ws u) => acw_any h hk hs hW hgb hw h1 h2 h3)
  have HF := Lib.hid hf
  have hl := row_lt h
  clear hf hk hs hw h1 h2 h3
  go_enter_defers Tryz.func43, Tryz.ntmps43
  go_wp2_with fail
  obtain ⟨u, hu⟩ : ∃ u, u = (w.alloc (bx1 b)).alloc (.cells #[.int .i64 0] 3) := ⟨_, rfl⟩
  have B0 : Below w.heap.size w u := hu ▸ al2 w _ _
  have cp : u.cell? ⟨w.heap.size, 0, none⟩ = some (xp b) := hu ▸ one_new w #[xp b] _ _ _ rfl
  have cq : u.cell? ⟨w.heap.size + 1, 0, none⟩ = some (.int .i64 0) ∧ u.frozen? ⟨w.heap.size + 1, 0, none⟩ = false := hu ▸ two_new w _ _ _ _ _ rfl
  rw [← hu]
  clear hu
  have hr := row_kept h B0
  have hb := Bt.of_below (b := b) B0
  refine (mbg_ok hr).mono ?_
  rintro e w1 ⟨rfl, rfl⟩
  go_wp2_with fail
  refine (HA.out _ hr (hW.on B0)).mono ?_
  rintro e w2 ⟨hc, hr2, hb2⟩
  rcases hc with ⟨i', hi', rfl⟩ | ⟨hn, _⟩
  · obtain rfl : i = i' := by have := HF.out.symm.trans hi'; injection this
    have cp2 := hb2.cell (show w.heap.size ≠ b by omega) cp
    have cq2 := hb2.cell (show w.heap.size + 1 ≠ b by omega) cq.1
    have fq2 := hb2.frozen (show w.heap.size + 1 ≠ b by omega) (World.block_lt_of_cell? u _ cq.1) cq.2
    have c3 := same_cell (v := .int .i64 (i : Int)) cq2
    have cp3 := (Bt.set (w.heap.size + 1) w2 0 (.int .i64 (i : Int))).cell (show w.heap.size ≠ w.heap.size + 1 by omega) cp2
    have hr3 := (Bt.set (w.heap.size + 1) w2 0 (.int .i64 (i : Int))).row (show b ≠ w.heap.size + 1 by omega) hr2
    have hb3 := (hb.trans hb2).over (Bt.set (w.heap.size + 1) w2 0 (.int .i64 (i : Int))) (by omega)
    clear hi' cp cq hr hb hb2 hr2 cp2
    go_wp2_with fail
    refine leaves_cons (f := 67) (args := #[xp w.heap.size, xp (w.heap.size + 1)]) (by simp) (by simp [go_sem]) ?_
    refine (woc25_idl (x := xp b) cp3).mono ?_
    rintro e u' w'' ⟨rfl, rfl, rfl⟩
    generalize w2.setCell ⟨w.heap.size + 1, 0, none⟩ (.int .i64 (i : Int)) = u3 at *
    simp [Leaves, settle, results, Tryz.results43, go_sem, c3]
    exact ⟨hr3, hb3.drew⟩
  · rw [HF.out] at hn; cases hn
theorem wo_no {S : ByteArray} {b k g cap : Nat} {ws : List ByteArray} {w : World} (h : w.heap[b]? = some (scO S k false)) (hk : k ≤ S.size) (hs : S.size < big) (hW : StrsIn g cap ws w) (hgb : g ≠ b) (hw : Wok ws) (h1 : 1 ≤ ws.length) (h2 : ws.length ≤ 1000000) (h3 : lgW ws < big) (hf : wdF S k ws = none) :
    Calls Tryz.prog 43 #[xp b, .slice (some ⟨g, 0, none⟩) ws.length cap] w fun e w' => e = .returned (.int .i64 (-1)) ∧ w'.heap[b]? = some (scO S (wdK S k ws) true) ∧ Bt b w w' := by
  have hmf : ∀ (fn : Fn) (first cap : Array Value) (w : World), (Instr.makeFunc fn first cap).run Tryz.prog w = .ok (.func fn first cap) w := fun _ _ _ _ => rfl
  have HA := Lib.hid (fun (u : World) (h : u.heap[b]? = some (scO S k false)) (hW : StrsIn g cap ws u) => acw_any h hk hs hW hgb hw h1 h2 h3)
  have HF := Lib.hid hf
  have hl := row_lt h
  clear hf hk hs hw h1 h2 h3
  go_enter_defers Tryz.func43, Tryz.ntmps43
  go_wp2_with fail
  obtain ⟨u, hu⟩ : ∃ u, u = (w.alloc (bx1 b)).alloc (.cells #[.int .i64 0] 3) := ⟨_, rfl⟩
  have B0 : Below w.heap.size w u := hu ▸ al2 w _ _
  have cp : u.cell? ⟨w.heap.size, 0, none⟩ = some (xp b) := hu ▸ one_new w #[xp b] _ _ _ rfl
  have cq : u.cell? ⟨w.heap.size + 1, 0, none⟩ = some (.int .i64 0) ∧ u.frozen? ⟨w.heap.size + 1, 0, none⟩ = false := hu ▸ two_new w _ _ _ _ _ rfl
  rw [← hu]
  clear hu
  have hr := row_kept h B0
  have hb := Bt.of_below (b := b) B0
  refine (mbg_ok hr).mono ?_
  rintro e w1 ⟨rfl, rfl⟩
  go_wp2_with fail
  refine (HA.out _ hr (hW.on B0)).mono ?_
  rintro e w2 ⟨hc, hr2, hb2⟩
  rcases hc with ⟨i', hi', rfl⟩ | ⟨_, rfl⟩
  · rw [HF.out] at hi'; cases hi'
  · have cp2 := hb2.cell (show w.heap.size ≠ b by omega) cp
    have cq2 := hb2.cell (show w.heap.size + 1 ≠ b by omega) cq.1
    have fq2 := hb2.frozen (show w.heap.size + 1 ≠ b by omega) (World.block_lt_of_cell? u _ cq.1) cq.2
    have cq3 := (Bt.set b w2 2 (.bool true)).cell (show w.heap.size + 1 ≠ b by omega) cq2
    have c3 := same_cell (v := .int .i64 (-1)) cq3
    have hr3 := (Bt.set (w.heap.size + 1) (w2.setCell ⟨b, 2, none⟩ (.bool true)) 0 (.int .i64 (-1))).row (show b ≠ w.heap.size + 1 by omega) (sc_bad hr2)
    have hb3 := ((hb.trans hb2).trans (Bt.set b w2 2 (.bool true))).over (Bt.set (w.heap.size + 1) (w2.setCell ⟨b, 2, none⟩ (.bool true)) 0 (.int .i64 (-1))) (by omega)
    refine leaves_cons (f := 67) (args := #[xp w.heap.size, xp (w.heap.size + 1)]) (by simp) (by simp [go_sem]) ?_
    refine (woc25_cat cp2 hr2 cq2 fq2 (by omega) []).mono ?_
    rintro e u' w'' ⟨rfl, rfl, rfl⟩
    generalize (w2.setCell ⟨b, 2, none⟩ (.bool true)).setCell ⟨w.heap.size + 1, 0, none⟩ (.int .i64 (-1)) = u3 at *
    simp [Leaves, settle, results, Tryz.results43, go_sem, c3]
    exact ⟨hr3, hb3.drew⟩
theorem wo_bad {S : ByteArray} {b k : Nat} (v : Value) {w : World} (h : w.heap[b]? = some (scO S k true)) :
    Calls Tryz.prog 43 #[xp b, v] w fun e w' => e = .returned (.int .i64 (-1)) ∧ Below w.heap.size w w' := by
  have hmf : ∀ (fn : Fn) (first cap : Array Value) (w : World), (Instr.makeFunc fn first cap).run Tryz.prog w = .ok (.func fn first cap) w := fun _ _ _ _ => rfl
  have hl := row_lt h
  go_enter_defers Tryz.func43, Tryz.ntmps43
  go_wp2_with fail
  obtain ⟨u, hu⟩ : ∃ u, u = (w.alloc (bx1 b)).alloc (.cells #[.int .i64 0] 3) := ⟨_, rfl⟩
  have B0 : Below w.heap.size w u := hu ▸ al2 w _ _
  have cp : u.cell? ⟨w.heap.size, 0, none⟩ = some (xp b) := hu ▸ one_new w #[xp b] _ _ _ rfl
  have cq : u.cell? ⟨w.heap.size + 1, 0, none⟩ = some (.int .i64 0) ∧ u.frozen? ⟨w.heap.size + 1, 0, none⟩ = false := hu ▸ two_new w _ _ _ _ _ rfl
  rw [← hu]
  clear hu
  have hr := row_kept h B0
  refine (mbg_bad hr).mono ?_
  rintro e w1 ⟨rfl, rfl⟩
  have cq3 := (Bt.set b u 2 (.bool true)).cell (show w.heap.size + 1 ≠ b by omega) cq.1
  have c3 := same_cell (v := .int .i64 (-1)) cq3
  have hb3 := (B0.trans (same_bad hr)).setCell (p := ⟨w.heap.size + 1, 0, none⟩) (by simp) (.int .i64 (-1))
  refine leaves_cons (f := 67) (args := #[xp w.heap.size, xp (w.heap.size + 1)]) (by simp) (by simp [go_sem]) ?_
  refine (woc25_cat cp hr cq.1 cq.2 (by omega) []).mono ?_
  rintro e u' w'' ⟨rfl, rfl, rfl⟩
  generalize (u.setCell ⟨b, 2, none⟩ (.bool true)).setCell ⟨w.heap.size + 1, 0, none⟩ (.int .i64 (-1)) = u3 at *
  simp [Leaves, settle, results, Tryz.results43, go_sem, c3]
  exact hb3.drew
theorem wo_nil (v : Value) (w : World) :
    Calls Tryz.prog 43 #[.pointer none, v] w fun e w' => e = .returned (.int .i64 (-1)) ∧ Below w.heap.size w w' := by
  have hmf : ∀ (fn : Fn) (first cap : Array Value) (w : World), (Instr.makeFunc fn first cap).run Tryz.prog w = .ok (.func fn first cap) w := fun _ _ _ _ => rfl
  go_enter_defers Tryz.func43, Tryz.ntmps43
  go_wp2_with fail
  obtain ⟨u, hu⟩ : ∃ u, u = (w.alloc (.cells #[.pointer none] 44)).alloc (.cells #[.int .i64 0] 3) := ⟨_, rfl⟩
  have B0 : Below w.heap.size w u := hu ▸ al2 w _ _
  have cp : u.cell? ⟨w.heap.size, 0, none⟩ = some (.pointer none) := hu ▸ one_new w #[.pointer none] _ _ _ rfl
  have cq : u.cell? ⟨w.heap.size + 1, 0, none⟩ = some (.int .i64 0) ∧ u.frozen? ⟨w.heap.size + 1, 0, none⟩ = false := hu ▸ two_new w _ _ _ _ _ rfl
  rw [← hu]
  clear hu
  refine (mbg_nil _).mono ?_
  rintro e w1 ⟨rfl, rfl⟩
  have c3 := same_cell (v := .int .i64 (-1)) cq.1
  have hb3 := B0.setCell (p := ⟨w.heap.size + 1, 0, none⟩) (by simp) (.int .i64 (-1))
  refine leaves_cons (f := 67) (args := #[xp w.heap.size, xp (w.heap.size + 1)]) (by simp) (by simp [go_sem]) ?_
  refine (woc25_cnil cp cq.1 cq.2 []).mono ?_
  rintro e u' w'' ⟨rfl, rfl, rfl⟩
  generalize u.setCell ⟨w.heap.size + 1, 0, none⟩ (.int .i64 (-1)) = u3 at *
  simp [Leaves, settle, results, Tryz.results43, go_sem, c3]
  exact hb3.drew
end Go.Proofs.YtkhicgafhbecfaaGreatDoor
