/- The library's IndexFunc and DeleteFunc over integers, for the closure of acceptWord. -/
import Derived.Test.YtlodijncaojifaaDoorNj
namespace Go.Proofs.YtlodijncaojifaaDoor
open Go.RowKit

/-- Numbers in the first cells of a block. -/
structure IntC (g : Nat) (l : List Nat) (w : World) : Prop where
  cell : ∀ i, i < l.length → w.cell? ⟨g, i, none⟩ = some (.int .i64 ((l.getD i 0 : Nat) : Int))
  fz : ∀ i, i < l.length → w.frozen? ⟨g, i, none⟩ = false
theorem IntC.dn {g : Nat} {l : List Nat} {w : World} (h : IntC g l w) (m : Nat) : IntC g l (w.drewN m) := ⟨h.cell, h.fz⟩
set_option maxHeartbeats 1000000 in
set_option maxRecDepth 100000 in
theorem ixf_any {l : List Nat} {P : Nat → Bool} {g cap : Nat} {c1 c2 c3 : Value} {w : World} (hl : l.length ≤ 9223372036854775807) (hC : IntC g l w)
    (HD : ∀ (m i : Nat), i < l.length → Calls Tryd.prog 46 #[.int .i64 ((l.getD i 0 : Nat) : Int), c1, c2, c3] (w.drewN m) fun e w' => e = .returned (.bool (P (l.getD i 0))) ∧ ∃ m', w' = (w.drewN m).drewN m') :
    Calls Tryd.prog 53 #[.slice (some ⟨g, 0, none⟩) l.length cap, .func (.func 46) #[] #[c1, c2, c3]] w fun e w' =>
      ((∃ k0 : Nat, e = .returned (.int .i64 k0) ∧ k0 < l.length ∧ P (l.getD k0 0) = true ∧ ∀ j, j < k0 → P (l.getD j 0) = false) ∨ (e = .returned (.int .i64 (-1)) ∧ ∀ j, j < l.length → P (l.getD j 0) = false)) ∧ ∃ m, w' = w.drewN m := by
  have HC := Lib.hid hC
  have HH := Lib.hid HD
  clear hC HD
  obtain ⟨n, hn⟩ : ∃ n, n = l.length := ⟨_, rfl⟩
  rw [← hn] at hl ⊢
  have HN := Lib.hid hn
  clear hn
  go_enter Tryd.func53, Tryd.ntmps53
  go_wp2_with fail
  go_loopw [8] (fun i wr => ∃ j m : Nat, j ≤ n ∧ i = .int .i64 j ∧ wr = w.drewN m ∧ ∀ p, p < j → P (l.getD p 0) = false) (fun i _ => n - (intOf i).toNat)
  case atStart => exact ⟨0, 0, Nat.zero_le _, rfl, rfl, fun p hp => absurd hp (by omega)⟩
  case round =>
    obtain ⟨j, m, hj, rfl, rfl, hall⟩ := hrel
    have HA := Lib.hid hall
    clear hall
    by_cases hlt : j < n
    · have hc := (HC.out.dn m).cell j (by rw [← HN.out]; exact hlt)
      have hd := HH.out m j (by rw [← HN.out]; exact hlt)
      obtain ⟨x, hx⟩ : ∃ x, x = l.getD j 0 := ⟨_, rfl⟩
      rw [← hx] at hc hd
      have HX := Lib.hid hx
      clear hx
      have b1 : (0 : Int) ≤ (j : Int) ∧ (j : Int) < (n : Int) := ⟨by omega, by omega⟩
      cases hp : P x
      · rw [hp] at hd
        go_wp2_with fail
        refine hd.mono ?_
        rintro e w' ⟨rfl, m', rfl⟩
        go_wp2_with fail
        go_roundw
        case rel =>
          refine ⟨j + 1, m + m', by omega, by go_num, rfl, fun p h => ?_⟩
          by_cases q : p < j
          · exact HA.out p q
          · rw [show p = j by omega, ← HX.out]; exact hp
        case measure => simp [intOf]; omega
      · rw [hp] at hd
        go_wp2_with fail
        refine hd.mono ?_
        rintro e w' ⟨rfl, m', rfl⟩
        go_wp2_with fail
        go_ret
        exact ⟨.inl ⟨j, rfl, hlt, by rw [← HX.out]; exact hp, HA.out⟩, _, rfl⟩
    · obtain rfl : j = n := by omega
      go_wp2_with fail
      go_ret
      exact ⟨.inr ⟨rfl, HA.out⟩, _, rfl⟩
/-! What is kept of the first numbers of a list. -/
def kpt (P : Nat → Bool) (l : List Nat) (j : Nat) : List Nat := (l.take j).filter fun x => !P x
theorem kpt_len (P : Nat → Bool) (l : List Nat) (j : Nat) : (kpt P l j).length ≤ j := by
  unfold kpt
  have h1 := List.length_filter_le (fun x => !P x) (l.take j)
  rw [List.length_take] at h1
  omega
theorem kpt_succ (P : Nat → Bool) {l : List Nat} {j : Nat} (h : j < l.length) : kpt P l (j + 1) = if P (l.getD j 0) then kpt P l j else kpt P l j ++ [l.getD j 0] := by
  unfold kpt
  rw [List.take_succ_eq_append_getElem h, List.filter_append, show l[j] = l.getD j 0 by rw [List.getD_eq_getElem?_getD, List.getElem?_eq_getElem h]; rfl]
  generalize l.getD j 0 = x
  cases hp : P x <;> simp [hp]
theorem kpt_all (P : Nat → Bool) (l : List Nat) : kpt P l l.length = l.filter fun x => !P x := by unfold kpt; rw [List.take_length]
theorem kpt_keep {P : Nat → Bool} {l : List Nat} {j : Nat} (hj : j ≤ l.length) (h : ∀ i, i < j → P (l.getD i 0) = false) : kpt P l j = l.take j := by
  unfold kpt
  rw [List.filter_eq_self]
  intro a ha
  obtain ⟨i, hi, e⟩ := List.getElem_of_mem ha
  rw [List.length_take] at hi
  have := h i (by omega)
  rw [List.getD_eq_getElem?_getD, List.getElem?_eq_getElem (by omega), Option.getD_some] at this
  rw [← e, List.getElem_take, this]; rfl
theorem gd_self (xs : List Nat) (a : Nat) : (xs ++ [a]).getD xs.length 0 = a := by
  rw [List.getD_eq_getElem?_getD, List.getElem?_append_right (Nat.le_refl _), Nat.sub_self]; rfl
theorem gd_app {xs : List Nat} {a i : Nat} (h : i < xs.length) : (xs ++ [a]).getD i 0 = xs.getD i 0 := by
  rw [List.getD_eq_getElem?_getD, List.getElem?_append_left h, ← List.getD_eq_getElem?_getD]
theorem Bt.sets (b : Nat) : ∀ (vs : List Value) (o : Nat) (w : World), Bt b w (w.setCells b o vs)
  | [], _, w => Bt.refl b w
  | v :: r, o, w => (Bt.set b w o v).trans (Bt.sets b r (o + 1) _)
/-- Where the loop of DeleteFunc stands. -/
structure DlI (P : Nat → Bool) (l : List Nat) (g : Nat) (w : World) (j : Nat) (wr : World) : Prop where
  lo : ∀ i, i < (kpt P l j).length → wr.cell? ⟨g, i, none⟩ = some (.int .i64 (((kpt P l j).getD i 0 : Nat) : Int))
  hi : ∀ i, j ≤ i → i < l.length → wr.cell? ⟨g, i, none⟩ = some (.int .i64 ((l.getD i 0 : Nat) : Int))
  is : ∀ i, i < l.length → (wr.cell? ⟨g, i, none⟩).isSome = true
  fz : ∀ i, i < l.length → wr.frozen? ⟨g, i, none⟩ = false
  bt : Bt g w wr
  lt : (kpt P l j).length < j
theorem DlI.dn {P : Nat → Bool} {l : List Nat} {g j : Nat} {w wr : World} (h : DlI P l g w j wr) (m : Nat) : DlI P l g w j (wr.drewN m) := ⟨h.lo, h.hi, h.is, h.fz, h.bt.trans (Bt.dn _ _ _), h.lt⟩
theorem DlI.skip {P : Nat → Bool} {l : List Nat} {g j : Nat} {w wr : World} (h : DlI P l g w j wr) (hj : j < l.length) (hp : P (l.getD j 0) = true) : DlI P l g w (j + 1) wr := by
  have e : kpt P l (j + 1) = kpt P l j := by rw [kpt_succ P hj, hp]; rfl
  exact ⟨by rw [e]; exact h.lo, fun i h1 h2 => h.hi i (by omega) h2, h.is, h.fz, h.bt, by rw [e]; have := h.lt; omega⟩
theorem DlI.keep {P : Nat → Bool} {l : List Nat} {g j : Nat} {w wr : World} (h : DlI P l g w j wr) (hj : j < l.length) (hp : P (l.getD j 0) = false) :
    DlI P l g w (j + 1) (wr.setCell ⟨g, (kpt P l j).length, none⟩ (.int .i64 ((l.getD j 0 : Nat) : Int))) := by
  have hk := h.lt
  have e : kpt P l (j + 1) = kpt P l j ++ [l.getD j 0] := by rw [kpt_succ P hj, hp]; rfl
  have len : (kpt P l (j + 1)).length = (kpt P l j).length + 1 := by rw [e, List.length_append]; rfl
  have other : ∀ i, i ≠ (kpt P l j).length → (wr.setCell ⟨g, (kpt P l j).length, none⟩ (.int .i64 ((l.getD j 0 : Nat) : Int))).cell? ⟨g, i, none⟩ = wr.cell? ⟨g, i, none⟩ := fun i hi => World.cell?_setCell_other _ _ _ _ (by simp; try omega)
  obtain ⟨old, ho⟩ := Option.isSome_iff_exists.1 (h.is (kpt P l j).length (by omega))
  have same := World.cell?_setCell_same wr ⟨g, (kpt P l j).length, none⟩ (.int .i64 ((l.getD j 0 : Nat) : Int)) ho
  refine ⟨fun i hi => ?_, fun i h1 h2 => ?_, fun i h1 => ?_, fun i h1 => ?_, h.bt.trans (Bt.set _ _ _ _), by omega⟩
  · rw [len] at hi
    by_cases q : i = (kpt P l j).length
    · rw [q, same, e, gd_self]
    · rw [other i q, h.lo i (by omega), e, gd_app (by omega)]
  · rw [other i (by omega)]; exact h.hi i (by omega) h2
  · by_cases q : i = (kpt P l j).length
    · rw [q, same]; rfl
    · rw [other i q]; exact h.is i h1
  · rw [World.frozen?_setCell]; exact h.fz i h1
theorem DlI.start {P : Nat → Bool} {l : List Nat} {g k0 m : Nat} {w : World} (hC : IntC g l w) (hk : k0 < l.length) (hp : P (l.getD k0 0) = true) (h : ∀ i, i < k0 → P (l.getD i 0) = false) : DlI P l g w (k0 + 1) (w.drewN m) ∧ (kpt P l (k0 + 1)).length = k0 := by
  have e : kpt P l (k0 + 1) = l.take k0 := by rw [kpt_succ P hk, hp, if_pos rfl, kpt_keep (by omega) h]
  have len : (kpt P l (k0 + 1)).length = k0 := by rw [e, List.length_take]; omega
  refine ⟨⟨fun i hi => ?_, fun i _ h2 => hC.cell i h2, fun i h1 => by rw [show (w.drewN m).cell? ⟨g, i, none⟩ = w.cell? ⟨g, i, none⟩ from rfl, hC.cell i h1]; rfl, hC.fz, Bt.dn _ _ _, by omega⟩, len⟩
  rw [len] at hi
  rw [e, show (w.drewN m).cell? ⟨g, i, none⟩ = w.cell? ⟨g, i, none⟩ from rfl, hC.cell i (by omega), List.getD_eq_getElem?_getD, List.getD_eq_getElem?_getD, List.getElem?_take, if_pos hi]
set_option maxHeartbeats 2000000 in
set_option maxRecDepth 100000 in
theorem dlf_any {l : List Nat} {P : Nat → Bool} {g cap : Nat} {c1 c2 c3 : Value} {w : World} (hl : l.length ≤ 9223372036854775807) (hcap : l.length ≤ cap) (hC : IntC g l w)
    (HD : ∀ (u : World) (i : Nat), i < l.length → Bt g w u → Calls Tryd.prog 46 #[.int .i64 ((l.getD i 0 : Nat) : Int), c1, c2, c3] u fun e w' => e = .returned (.bool (P (l.getD i 0))) ∧ ∃ m', w' = u.drewN m') :
    Calls Tryd.prog 45 #[.slice (some ⟨g, 0, none⟩) l.length cap, .func (.func 46) #[] #[c1, c2, c3]] w fun e w' =>
      e = .returned (.slice (some ⟨g, 0, none⟩) (l.filter fun x => !P x).length cap) ∧ IntC g (l.filter fun x => !P x) w' ∧ Bt g w w' := by
  have hI := ixf_any (cap := cap) (c1 := c1) (c2 := c2) (c3 := c3) hl hC (fun m i hi => HD (w.drewN m) i hi (Bt.dn _ _ _))
  have HC := Lib.hid hC
  have HH := Lib.hid HD
  clear hC HD
  obtain ⟨n, hn⟩ : ∃ n, n = l.length := ⟨_, rfl⟩
  rw [← hn] at hl hI hcap ⊢
  have HN := Lib.hid hn
  clear hn
  go_enter Tryd.func45, Tryd.ntmps45
  go_wp2_with fail
  refine hI.mono ?_
  rintro e w1 ⟨hc, m, rfl⟩
  clear hI
  rcases hc with ⟨k0, rfl, hk, hp, hall⟩ | ⟨rfl, hall⟩
  · have hk' : k0 < l.length := by rw [← HN.out]; exact hk
    obtain ⟨I0, len0⟩ := DlI.start (m := m) HC.out hk' hp hall
    clear hp hall
    have hne : ((k0 : Int) == -1) = false := beq_eq_false_iff_ne.2 (by omega)
    have I1 := Lib.hid I0
    have L0 := Lib.hid len0
    have K1 := Lib.hid hk
    have sk : (k0 : Int) + 1 ≤ 9223372036854775807 := by omega
    clear I0 len0 hk'
    go_wp2_with fail
    go_loopw [5, 6] (fun vi vj wr => ∃ i j : Nat, vi = .int .i64 i ∧ vj = .int .i64 j ∧ j ≤ n ∧ Hid (i = (kpt P l j).length) ∧ Hid (DlI P l g w j wr)) (fun _ vj _ => n - (intOf vj).toNat)
    case atStart => exact ⟨k0, k0 + 1, rfl, by go_num, by have := K1.out; omega, Lib.hid L0.out.symm, I1⟩
    case round =>
      clear I1 L0 hne sk
      obtain ⟨i, j, rfl, rfl, hj, Hi, HI⟩ := hrel
      have il : i < j := by have := HI.out.lt; rw [← Hi.out] at this; exact this
      by_cases hlt : j < n
      · have hj' : j < l.length := by rw [← HN.out]; exact hlt
        have cj := HI.out.hi j (Nat.le_refl _) hj'
        obtain ⟨old, ci⟩ := Option.isSome_iff_exists.1 (HI.out.is i (by omega))
        have fi := HI.out.fz i (by omega)
        have hd := HH.out wr j hj' HI.out.bt
        obtain ⟨x, hx⟩ : ∃ x, x = l.getD j 0 := ⟨_, rfl⟩
        rw [← hx] at cj hd
        have HX := Lib.hid hx
        have HJ := Lib.hid hj'
        clear hx hj'
        have b1 : (0 : Int) ≤ (j : Int) ∧ (j : Int) < (n : Int) := ⟨by omega, by omega⟩
        have b2 : (0 : Int) ≤ (i : Int) ∧ (i : Int) < (n : Int) := ⟨by omega, by omega⟩
        cases hp : P x
        · rw [hp] at hd
          have HP := Lib.hid hp
          clear hp
          go_wp2_with fail
          refine hd.mono ?_
          rintro e w' ⟨rfl, m', rfl⟩
          go_wp2_with fail
          go_roundw
          case rel =>
            refine ⟨i + 1, j + 1, by go_num, by go_num, by omega, Lib.hid ?_, Lib.hid ?_⟩
            · rw [kpt_succ P HJ.out, ← HX.out, HP.out, if_neg (by decide), List.length_append, Hi.out]; rfl
            · have := (HI.out.dn m').keep HJ.out (by rw [← HX.out]; exact HP.out)
              rw [← HX.out, ← Hi.out] at this
              exact this
          case measure => simp [intOf]; omega
        · rw [hp] at hd
          have HP := Lib.hid hp
          clear hp
          go_wp2_with fail
          refine hd.mono ?_
          rintro e w' ⟨rfl, m', rfl⟩
          go_wp2_with fail
          go_roundw
          case rel =>
            refine ⟨i, j + 1, rfl, by go_num, by omega, Lib.hid ?_, Lib.hid ((HI.out.dn m').skip HJ.out (by rw [← HX.out]; exact HP.out))⟩
            rw [kpt_succ P HJ.out, ← HX.out, HP.out, if_pos rfl, Hi.out]
          case measure => simp [intOf]; omega
      · obtain rfl : j = n := by omega
        have hltz : ¬ (j : Int) < (j : Int) := by omega
        have hcl : ∀ ty, (Builtin.clear_ #[62] ty #[.slice (some ⟨g, i, none⟩) (j - i) (cap - i)]).run Tryd.prog wr = .ok (.tuple #[]) (wr.setCells g i (List.replicate (j - i) (.int .i64 0))) :=
          fun ty => Lib.run_clear_slice wr _ 3 ty (.int .i64 0) Tryd.underlying62 Tryd.zeroValue3 rfl rfl g i _ _ (by omega) (fun t ht => HI.out.is _ (by rw [← HN.out]; omega)) (fun t ht => HI.out.fz _ (by rw [← HN.out]; omega))
        have b3 : (0 : Int) ≤ (i : Int) ∧ (i : Int) ≤ (j : Int) := ⟨by omega, by omega⟩
        have b4 : ¬ (j : Int) < (i : Int) := by omega
        have b5 : ¬ (cap : Int) < (i : Int) := by omega
        go_wp2_with fail
        go_ret
        have E := kpt_all P l
        rw [← HN.out] at E
        have q := Hi.out
        rw [E] at q
        rw [← q]
        refine ⟨rfl, ⟨fun t ht => ?_, fun t ht => ?_⟩, HI.out.bt.trans (Bt.sets _ _ _ _)⟩
        · rw [← q] at ht
          rw [World.cell?_setCells_out g _ i wr ⟨g, t, none⟩ (fun _ _ => .inl ht)]
          have := HI.out.lo t (by rw [← Hi.out]; exact ht)
          rwa [E] at this
        · rw [World.frozen?_setCells]
          rw [← q] at ht
          exact HI.out.fz t (by rw [← HN.out]; omega)
  · have e1 : (l.filter fun x => !P x) = l := by
      have := kpt_keep (P := P) (l := l) (j := l.length) (Nat.le_refl _) (by rw [← HN.out]; exact hall)
      rw [kpt_all, List.take_length] at this
      exact this
    have E1 := Lib.hid e1
    clear hall e1
    go_wp2_with fail
    go_ret
    rw [E1.out, ← HN.out]
    exact ⟨rfl, HC.out.dn m, Bt.dn _ _ _⟩
end Go.Proofs.YtlodijncaojifaaDoor
