/- What earlier stages proved: Bf Bg Bh Bi Bj Bm Bo Bp. -/
import Derived.Test.YtnofmlkjagdklaaKa
import Derived.Test.YtnofmlkjagdklaaKr
import Derived.Test.YtnofmlkjagdklaaKn
import Derived.LoopTactic
import Derived.Deep.RegionHeld3
import Derived.Deep.AppendLies
import Derived.OwnWalk
import Derived.Maps.AppendAt
import Derived.Test.YtnofmlkjagdklaaKx
import Derived.Deep.Cut
import Derived.Handy
import Derived.Test.YtnofmlkjagdklaaKz
import Derived.Laws.OwnMore
namespace Go.Proofs.Ytnofmlkjagdklaa
open Go.RowKit

structure Cd where
  k : Int
  i : Int
  r : Int
  id : ByteArray
abbrev Cd.vals (c : Cd) : Array Value := #[.int .i64 c.k, .int .i64 c.i, .int .i64 c.r, .string c.id]
abbrev cdv (c : Cd) : Value := .agg c.vals
def zcd : Cd := ⟨0, 0, 0, ⟨#[]⟩⟩
def flat4 : List Cd → List Value
  | [] => []
  | c :: cs => .int .i64 c.k :: .int .i64 c.i :: .int .i64 c.r :: .string c.id :: flat4 cs
theorem flat4_app : ∀ xs ys : List Cd, flat4 (xs ++ ys) = flat4 xs ++ flat4 ys
  | [], _ => rfl
  | x :: xs, ys => by simp [flat4, flat4_app xs ys]
theorem flat4_len : ∀ xs : List Cd, (flat4 xs).length = xs.length * 4
  | [] => rfl
  | x :: xs => by simp [flat4, flat4_len xs]; omega
theorem flat4_one : ∀ l : List Cd, ∀ u ∈ flat4 l, u.oneCell' = true
  | [], u, h => by cases h
  | c :: cs, u, h => by
    simp only [flat4, List.mem_cons] at h
    rcases h with rfl | rfl | rfl | rfl | h
    · rfl
    · rfl
    · rfl
    · rfl
    · exact flat4_one cs u h
/-- A candidate lies in memory from a place on. -/
structure CdAt (W : World) (b p : Nat) (c : Cd) : Prop where
  c0 : W.cell? ⟨b, p, none⟩ = some (.int .i64 c.k)
  c1 : W.cell? ⟨b, p + 1, none⟩ = some (.int .i64 c.i)
  c2 : W.cell? ⟨b, p + 2, none⟩ = some (.int .i64 c.r)
  c3 : W.cell? ⟨b, p + 3, none⟩ = some (.string c.id)
theorem CdAt.on {W W' : World} {b p : Nat} {c : Cd} (h : CdAt W b p c) (hb : Below W.heap.size W W') : CdAt W' b p c :=
  ⟨cell_below h.c0 hb, cell_below h.c1 hb, cell_below h.c2 hb, cell_below h.c3 hb⟩
theorem CdAt.lt {W : World} {b p : Nat} {c : Cd} (h : CdAt W b p c) : b < W.heap.size := World.block_lt_of_cell? W _ h.c0
/-- A slice of candidates, whoever made it. -/
def CsAt (W : World) (v : Value) (l : List Cd) : Prop :=
  ∃ (A : Option Addr) (cap : Nat), v = .slice A l.length cap ∧ l.length ≤ cap ∧ cap ≤ maxLen ∧ ∀ (i : Nat) (c : Cd), l[i]? = some c → ∃ b o, A = some ⟨b, o, none⟩ ∧ CdAt W b (o + i * 4) c
theorem CsAt.on {W W' : World} {v : Value} {l : List Cd} (h : CsAt W v l) (hb : Below W.heap.size W W') : CsAt W' v l := by
  obtain ⟨A, cap, hv, h1, h2, h3⟩ := h
  refine ⟨A, cap, hv, h1, h2, fun i c hc => ?_⟩
  obtain ⟨b, o, e1, e2⟩ := h3 i c hc
  exact ⟨b, o, e1, e2.on hb⟩
/-- One of the call's own, of element type t. -/
def CdsAt (t : TypeId) (B : Nat) (v : Value) (l : List Cd) (w : World) : Prop := w.ownsRow B t 4 v l.length (flat4 l)
theorem CdsAt.on {t B : Nat} {v : Value} {xs : List Cd} {w w' : World} (h : CdsAt t B v xs w) (hb : Below w.heap.size w w') : CdsAt t B v xs w' :=
  World.ownsRow.kept h (grown_of_below hb none) (by cases hv : v.ownBlock <;> simp)
theorem CdsAt.al {t B : Nat} {v : Value} {xs : List Cd} {w : World} (h : CdsAt t B v xs w) (o : Obj) : CdsAt t B v xs (w.alloc o) := h.on ((Below.refl _ _).alloc (Nat.le_refl _) o)
theorem CdsAt.emp (t B : Nat) (w : World) : CdsAt t B (.slice none 0 0) [] w := World.ownsRow_nil w B _ 4
theorem CdsAt.lower {t B B' : Nat} {v : Value} {xs : List Cd} {w : World} (h : CdsAt t B v xs w) (hB : B' ≤ B) : CdsAt t B' v xs w := by
  refine ⟨h.1, ?_⟩
  rcases h.2 with hn | ⟨g, cap, cur, e, hb, rest⟩
  · exact .inl hn
  · exact .inr ⟨g, cap, cur, e, Nat.le_trans hB hb, rest⟩
theorem CdsAt.app {t B : Nat} {v v' : Value} {xs : List Cd} {c : Cd} {w w1 w2 : World} {o : Obj} (hv : CdsAt t B v xs w1) (hB : Below B w w1) (hs : B ≤ w1.heap.size)
    (hown : w2.ownsRow B t 4 v' (xs.length + 1) (flat4 xs ++ [.int .i64 c.k, .int .i64 c.i, .int .i64 c.r, .string c.id])) (hg : (w1.alloc o).grownBy w2 v.ownBlock) : CdsAt t B v' (xs ++ [c]) w2 ∧ Below B w w2 := by
  refine ⟨?_, (hB.alloc hs _).grown hg (by simp; omega) (fun k e => (World.ownsRow.lt hv k e).1)⟩
  rw [CdsAt, List.length_append, flat4_app]
  exact hown
theorem flat4_at : ∀ (l : List Cd) (i : Nat) (c : Cd), l[i]? = some c → (flat4 l)[i * 4]? = some (.int .i64 c.k) ∧ (flat4 l)[i * 4 + 1]? = some (.int .i64 c.i) ∧ (flat4 l)[i * 4 + 2]? = some (.int .i64 c.r) ∧ (flat4 l)[i * 4 + 3]? = some (.string c.id)
  | [], i, x, h => by simp at h
  | p :: ps, 0, x, h => by
    simp at h; subst h; exact ⟨rfl, rfl, rfl, rfl⟩
  | p :: ps, i + 1, x, h => by
    have := flat4_at ps i x (by simpa using h)
    rw [show (i + 1) * 4 = i * 4 + 1 + 1 + 1 + 1 by omega]
    simpa [flat4] using this
theorem CdsAt.cs {t B : Nat} {v : Value} {l : List Cd} {w : World} (h : CdsAt t B v l w) : CsAt w v l := by
  rcases h.2 with ⟨rfl, hn⟩ | ⟨g, cap, cur, rfl, hb, hg, hnc, hcm, hcs, htake⟩
  · obtain rfl := List.eq_nil_of_length_eq_zero hn
    exact ⟨none, 0, rfl, Nat.le_refl _, Nat.zero_le _, fun i c hc => by simp at hc⟩
  · have hadd : ∀ j, (⟨g, 0, none⟩ : Addr).add j = ⟨g, j, none⟩ := fun j => by unfold Addr.add; split <;> simp_all
    refine ⟨_, cap, rfl, hnc, hcm, fun i c hi => ⟨g, 0, rfl, ?_⟩⟩
    obtain ⟨q0, q1, q2, q3⟩ := flat4_at l i c hi
    rw [Nat.zero_add]
    have f := fun j u hj => World.ownsRow.cells h (g := g) rfl j u hj
    have g0 := f _ _ q0
    have g1 := f _ _ q1
    have g2 := f _ _ q2
    have g3 := f _ _ q3
    rw [hadd] at g0 g1 g2 g3
    exact ⟨g0, g1, g2, g3⟩
theorem cell_four_new (w : World) (x y z u : Value) (t : TypeId) : ∀ j q, [x, y, z, u][j]? = some q → (w.alloc (.cells #[x, y, z, u] t)).cell? ((⟨w.heap.size, 0, none⟩ : Addr).add j) = some q := by
  intro j q h
  rw [show (⟨w.heap.size, 0, none⟩ : Addr).add j = ⟨w.heap.size, j, none⟩ by unfold Addr.add; split <;> simp_all, cell_of_row _ _ j _ _ _ (heap_alloc_new w (.cells #[x, y, z, u] t))]
  rw [← Array.getElem?_toList]; exact h
/-- A slice of candidates that a call of memory of its own hands back. -/
def RetCs (t : TypeId) (W : World) (l : List Cd) (e : Ending) (w' : World) : Prop := ∃ v, e = .returned v ∧ CdsAt t W.heap.size v l w' ∧ Below W.heap.size W w'
theorem infoCd : (Try.prog.info? 32).map (fun i => (i.zero, i.size, i.bytes)) = some (some (cdv zcd), 4, 40) := by kernel_rfl
theorem infoCr : (Try.prog.info? 39).map (fun i => (i.zero, i.size, i.bytes)) = some (some (cdv zcd), 4, 40) := by kernel_rfl
theorem take_succ_cd {l : List Cd} {k : Nat} {c : Cd} (h : l[k]? = some c) : l.take (k + 1) = l.take k ++ [c] := by rw [List.take_add_one, h]; rfl
end Go.Proofs.Ytnofmlkjagdklaa

namespace Go.Proofs.Ytnofmlkjagdklaa

/-- Does a precede b? -/
def prc (a b : Cd) : Bool := decide (a.r < b.r) || (decide (a.r = b.r) && (decide (a.k < b.k) || (decide (a.k = b.k) && decide (a.i < b.i))))
theorem prc_iff {a b : Cd} : prc a b = true ↔ a.r < b.r ∨ (a.r = b.r ∧ (a.k < b.k ∨ (a.k = b.k ∧ a.i < b.i))) := by
  unfold prc; simp only [Bool.or_eq_true, Bool.and_eq_true, decide_eq_true_eq]
theorem prc_no {a b : Cd} : prc a b = false ↔ ¬ (a.r < b.r ∨ (a.r = b.r ∧ (a.k < b.k ∨ (a.k = b.k ∧ a.i < b.i)))) := by
  rw [← prc_iff]; cases prc a b <;> simp
theorem prc_asym {a b : Cd} (h : prc a b = true) : prc b a = false := by
  rw [prc_iff] at h; rw [prc_no]; omega
theorem prc_ntr {a b c : Cd} (h : prc a b = false) (g : prc b c = false) : prc a c = false := by
  rw [prc_no] at h g ⊢; omega
/-- The order of the places of a list. -/
def ltl (l : List Cd) (i j : Nat) : Bool := prc (l.getD i zcd) (l.getD j zcd)
theorem ltl_sw (l : List Cd) : SW (ltl l) := ⟨fun _ _ h => prc_asym h, fun _ _ _ h g => prc_ntr h g⟩
/-- c put ahead of the first that it precedes. -/
def insR (c : Cd) : List Cd → List Cd
  | [] => [c]
  | x :: xs => if prc c x = true then c :: x :: xs else x :: insR c xs
def srtR (l : List Cd) : List Cd := l.foldl (fun o c => insR c o) []
theorem insR_none {c : Cd} : ∀ {xs : List Cd}, xs.any (prc c) = false → insR c xs = xs ++ [c]
  | [], _ => rfl
  | x :: xs, h => by
    rw [List.any_cons, Bool.or_eq_false_iff] at h
    rw [insR, h.1, if_neg (by decide), insR_none h.2]; rfl
theorem insR_first {c y : Cd} : ∀ {xs : List Cd}, xs.any (prc c) = false → prc c y = true → insR c (xs ++ [y]) = xs ++ [c] ++ [y]
  | [], _, g => by rw [List.nil_append, insR, if_pos g]; rfl
  | x :: xs, h, g => by
    rw [List.any_cons, Bool.or_eq_false_iff] at h
    rw [List.cons_append, insR, h.1, if_neg (by decide), insR_first h.2 g]; rfl
theorem insR_any {c y : Cd} : ∀ {xs : List Cd}, xs.any (prc c) = true → insR c (xs ++ [y]) = insR c xs ++ [y]
  | [], h => by cases h
  | x :: xs, h => by
    rw [List.cons_append, insR, insR]
    cases g : prc c x
    · rw [List.any_cons, g, Bool.false_or] at h
      rw [if_neg (by decide), if_neg (by decide), insR_any h]; rfl
    · rw [if_pos rfl, if_pos rfl]; rfl
theorem insR_len (c : Cd) : ∀ xs : List Cd, (insR c xs).length = xs.length + 1
  | [] => rfl
  | x :: xs => by
    rw [insR]; split
    · rfl
    · rw [List.length_cons, insR_len c xs, List.length_cons]
theorem srtR_succ (l : List Cd) (c : Cd) : srtR (l ++ [c]) = insR c (srtR l) := by unfold srtR; rw [List.foldl_append]; rfl
def insI (lt : Nat → Nat → Bool) (m : Nat) : List Nat → List Nat
  | [] => [m]
  | x :: xs => if lt m x = true then m :: x :: xs else x :: insI lt m xs
section
variable {lt : Nat → Nat → Bool}
theorem insI_mem {m y : Nat} : ∀ {xs : List Nat}, y ∈ insI lt m xs ↔ y = m ∨ y ∈ xs
  | [] => by simp [insI]
  | x :: xs => by
    rw [insI]; split
    · simp
    · rw [List.mem_cons, insI_mem, List.mem_cons]
      constructor
      · rintro (h | h | h)
        · exact .inr (.inl h)
        · exact .inl h
        · exact .inr (.inr h)
      · rintro (h | h | h)
        · exact .inr (.inl h)
        · exact .inl h
        · exact .inr (.inr h)
theorem insI_pw (H : SW lt) {m : Nat} : ∀ {xs : List Nat}, (∀ x ∈ xs, x < m) → xs.Pairwise (Pr lt) → (insI lt m xs).Pairwise (Pr lt)
  | [], _, _ => by simp [insI]
  | x :: xs, hm, hp => by
    rw [List.pairwise_cons] at hp
    rw [insI]
    cases g : lt m x
    · rw [if_neg (by decide), List.pairwise_cons]
      refine ⟨fun y hy => ?_, insI_pw H (fun z hz => hm z (List.mem_cons_of_mem _ hz)) hp.2⟩
      rcases insI_mem.1 hy with rfl | h
      · exact .up (hm x List.mem_cons_self) g
      · exact hp.1 y h
    · rw [if_pos rfl, List.pairwise_cons]
      refine ⟨fun y hy => ?_, List.pairwise_cons.2 hp⟩
      rcases List.mem_cons.1 hy with rfl | h
      · exact .dn g
      · exact (Pr.dn g).trans H (hp.1 y h)
theorem insI_map {f : Nat → Cd} {m : Nat} : ∀ {xs : List Nat}, (∀ x ∈ xs, lt m x = prc (f m) (f x)) → (insI lt m xs).map f = insR (f m) (xs.map f)
  | [], _ => rfl
  | x :: xs, h => by
    rw [insI, List.map_cons, insR, ← h x List.mem_cons_self]
    split
    · rfl
    · rw [List.map_cons, insI_map (fun y hy => h y (List.mem_cons_of_mem _ hy))]
end
def srtI (lt : Nat → Nat → Bool) : Nat → List Nat
  | 0 => []
  | m + 1 => insI lt m (srtI lt m)
section
variable {lt : Nat → Nat → Bool}
theorem srtI_mem {y : Nat} : ∀ {m : Nat}, y ∈ srtI lt m ↔ y < m
  | 0 => by simp [srtI]
  | m + 1 => by rw [srtI, insI_mem, srtI_mem]; omega
theorem srtI_pw (H : SW lt) : ∀ m : Nat, (srtI lt m).Pairwise (Pr lt)
  | 0 => List.Pairwise.nil
  | m + 1 => insI_pw H (fun _ hx => srtI_mem.1 hx) (srtI_pw H m)
theorem insI_len {m : Nat} : ∀ xs : List Nat, (insI lt m xs).length = xs.length + 1
  | [] => rfl
  | x :: xs => by
    rw [insI]; split
    · rfl
    · rw [List.length_cons, insI_len xs, List.length_cons]
theorem srtI_len : ∀ m : Nat, (srtI lt m).length = m
  | 0 => rfl
  | m + 1 => by rw [srtI, insI_len, srtI_len m]
theorem srtI_lt {m i : Nat} (h : i < m) : (srtI lt m).getD i 0 < m := by
  rw [List.getD_eq_getElem?_getD, List.getElem?_eq_getElem (by rw [srtI_len]; exact h)]
  exact srtI_mem.1 (List.getElem_mem _)
theorem srtI_srt (H : SW lt) (m : Nat) : Srt lt (fun i => (srtI lt m).getD i 0) 0 m := fun i j _ h2 h3 => by
  have hl : (srtI lt m).length = m := srtI_len m
  have := (List.pairwise_iff_getElem.1 (srtI_pw H m)) i j (by omega) (by omega) h2
  simp only [List.getD_eq_getElem?_getD, List.getElem?_eq_getElem (show i < (srtI lt m).length by omega), List.getElem?_eq_getElem (show j < (srtI lt m).length by omega), Option.getD_some]
  exact this
theorem srtI_gd (H : SW lt) (m : Nat) : Gd m (fun i => (srtI lt m).getD i 0) := by
  refine ⟨fun i h => srtI_lt h, fun i j hi hj e => ?_, fun y hy => ?_⟩
  · have e' : (srtI lt m).getD i 0 = (srtI lt m).getD j 0 := e
    rcases Nat.lt_trichotomy i j with h | h | h
    · have := srtI_srt H m i j (Nat.zero_le _) h hj
      simp only [e'] at this
      exact absurd this (Pr.irr H)
    · exact h
    · have := srtI_srt H m j i (Nat.zero_le _) h hi
      simp only [e'] at this
      exact absurd this (Pr.irr H)
  · obtain ⟨i, hi, e⟩ := List.mem_iff_getElem.1 (srtI_mem.2 hy : y ∈ srtI lt m)
    refine ⟨i, by rw [srtI_len] at hi; exact hi, ?_⟩
    simp only [List.getD_eq_getElem?_getD, List.getElem?_eq_getElem hi, Option.getD_some]
    exact e
end
theorem srtR_take (l : List Cd) : ∀ m : Nat, m ≤ l.length → srtR (l.take m) = (srtI (ltl l) m).map (fun i => l.getD i zcd)
  | 0, _ => rfl
  | m + 1, h => by
    have hc : l[m]? = some (l.getD m zcd) := by rw [List.getD_eq_getElem?_getD, List.getElem?_eq_getElem (by omega)]; rfl
    rw [take_succ_cd hc, srtR_succ, srtR_take l m (by omega), srtI, insI_map (f := fun i => l.getD i zcd) (fun x _ => rfl)]
theorem srtR_len (l : List Cd) : (srtR l).length = l.length := by
  have := srtR_take l l.length (Nat.le_refl _)
  rw [List.take_length] at this
  rw [this, List.length_map, srtI_len]
/-- What a stable sort of the places leaves is what the reference makes. -/
theorem srtR_at {l : List Cd} {s : Nat → Nat} (g : Gd l.length s) (h : Srt (ltl l) s 0 l.length) {i : Nat} (hi : i < l.length) : (srtR l)[i]? = some (l.getD (s i) zcd) := by
  have e := srtR_take l l.length (Nat.le_refl _)
  rw [List.take_length] at e
  have H := ltl_sw l
  have u := srt_unique H (srtI_gd H l.length) g (srtI_srt H l.length) h i hi
  rw [e, List.getElem?_map, List.getElem?_eq_getElem (by rw [srtI_len]; exact hi)]
  simp only [List.getD_eq_getElem?_getD, List.getElem?_eq_getElem (show i < (srtI (ltl l) l.length).length by rw [srtI_len]; exact hi), Option.getD_some] at u
  rw [Option.map_some, u]
end Go.Proofs.Ytnofmlkjagdklaa

namespace Go.Proofs.Ytnofmlkjagdklaa
open Go.RowKit

theorem r20pr_any (a b : Cd) (W : World) : Calls Try.prog 18 #[cdv a, cdv b] W fun e w' => e = .returned (.bool (prc a b)) ∧ Below W.heap.size W w' := by
  obtain ⟨k, i, r, d⟩ := a
  obtain ⟨k', i', r', d'⟩ := b
  cases h1 : decide (r < r')
  · cases h2 : (r == r')
    · have e : prc ⟨k, i, r, d⟩ ⟨k', i', r', d'⟩ = false := by
        rw [prc_no]; have := of_decide_eq_false h1; have : ¬ r = r' := by simpa using h2
        dsimp only; omega
      rw [e]
      go_enter Try.func18, Try.ntmps18
      go_wp2
      go_ret
      exact ⟨rfl, ((Below.refl _ _).alloc (Nat.le_refl _) _).alloc (by simp) _⟩
    · obtain rfl : r = r' := by simpa using h2
      cases h3 : decide (k < k')
      · cases h4 : (k == k')
        · have e : prc ⟨k, i, r, d⟩ ⟨k', i', r, d'⟩ = false := by
            rw [prc_no]; have := of_decide_eq_false h3; have : ¬ k = k' := by simpa using h4
            dsimp only; omega
          rw [e]
          go_enter Try.func18, Try.ntmps18
          go_wp2
          go_ret
          exact ⟨rfl, ((Below.refl _ _).alloc (Nat.le_refl _) _).alloc (by simp) _⟩
        · obtain rfl : k = k' := by simpa using h4
          have e : prc ⟨k, i, r, d⟩ ⟨k, i', r, d'⟩ = decide (i < i') := by
            rw [Bool.eq_iff_iff, prc_iff, decide_eq_true_iff]
            dsimp only; omega
          rw [e]
          go_enter Try.func18, Try.ntmps18
          go_wp2
          go_ret
          exact ⟨rfl, ((Below.refl _ _).alloc (Nat.le_refl _) _).alloc (by simp) _⟩
      · have e : prc ⟨k, i, r, d⟩ ⟨k', i', r, d'⟩ = true := by
          rw [prc_iff]; have := of_decide_eq_true h3
          dsimp only; omega
        rw [e]
        go_enter Try.func18, Try.ntmps18
        go_wp2
        go_ret
        exact ⟨rfl, ((Below.refl _ _).alloc (Nat.le_refl _) _).alloc (by simp) _⟩
  · have e : prc ⟨k, i, r, d⟩ ⟨k', i', r', d'⟩ = true := by
      rw [prc_iff]; exact .inl (of_decide_eq_true h1)
    rw [e]
    go_enter Try.func18, Try.ntmps18
    go_wp2
    go_ret
    exact ⟨rfl, ((Below.refl _ _).alloc (Nat.le_refl _) _).alloc (by simp) _⟩
end Go.Proofs.Ytnofmlkjagdklaa

namespace Go.Proofs.Ytnofmlkjagdklaa
open Go.RowKit

theorem any_succ {c y : Cd} {xs : List Cd} {j : Nat} (h : xs[j]? = some y) : (xs.take (j + 1)).any (prc c) = ((xs.take j).any (prc c) || prc c y) := by
  rw [take_succ_cd h, List.any_append]; simp
set_option maxHeartbeats 4000000 in
set_option maxRecDepth 100000 in
theorem r20so_any (v : Value) (l : List Cd) (W : World) (hl : l.length ≤ 1000) (h : CsAt W v l) : Calls Try.prog 34 #[v] W (RetCs 39 W (srtR l)) := by
  obtain ⟨i0, hi, hz0, hz1, hz2⟩ := info_parts infoCr
  obtain ⟨A, cap, rfl, h1, h2, h3⟩ := h
  have Q := Lib.hid h3
  have HP := Lib.hid (fun a b u => r20pr_any a b u)
  clear h3
  go_enter Try.func34, Try.ntmps34
  go_wp2_with fail
  go_loopw [3, 4] (fun v i wr => ∃ k : Nat, k ≤ l.length ∧ i = .int .i64 k ∧ Below W.heap.size W wr ∧ CdsAt 39 W.heap.size v (srtR (l.take k)) wr) (fun _ i _ => l.length - (intOf i).toNat)
  case atStart => exact ⟨0, Nat.zero_le _, rfl, Below.refl _ _, CdsAt.emp _ _ _⟩
  case round =>
    obtain ⟨k, hk, rfl, hb, hv⟩ := hrel
    have HB := Lib.hid hb
    have HV := Lib.hid hv
    clear hb hv
    by_cases hlt : k < l.length
    · obtain ⟨c, hc⟩ : ∃ c, l[k]? = some c := ⟨_, List.getElem?_eq_getElem hlt⟩
      obtain ⟨b, p, hA, hit⟩ := Q.out k c hc
      subst hA
      have hbW : b < W.heap.size := hit.lt
      have HI := Lib.hid (hit.on HB.out)
      have hmap := Lib.hid (show srtR (l.take (k + 1)) = insR c (srtR (l.take k)) by rw [take_succ_cd hc, srtR_succ])
      obtain ⟨xs, hx⟩ : ∃ xs, xs = srtR (l.take k) := ⟨_, rfl⟩
      have hle1 : xs.length ≤ k := by rw [hx, srtR_len, List.length_take]; omega
      have hle2 : k ≤ xs.length := by rw [hx, srtR_len, List.length_take]; omega
      rw [← hx] at HV hmap
      clear hx hit hc
      obtain ⟨A', cap', hv', g1, g2, g3⟩ := HV.out.cs
      have hQ := Lib.hid g3
      subst hv'
      clear g3 HV
      obtain ⟨w0, hw0⟩ : ∃ w0 : World, w0 = wr := ⟨_, rfl⟩
      have hW0 := Lib.hid HB.out.size
      go_wp2_with fail
      rw [← hw0] at HB HI hQ hW0
      go_loopw [5, 6, 7] (fun nv dv jv wr => ∃ (j : Nat) (d : Bool), j ≤ xs.length ∧ jv = .int .i64 j ∧ dv = .bool d ∧ Hid (d = (xs.take j).any (prc c)) ∧ Below w0.heap.size w0 wr ∧ CdsAt 39 w0.heap.size nv (if d = true then insR c (xs.take j) else xs.take j) wr) (fun _ _ jv _ => xs.length - (intOf jv).toNat)
      case atStart => exact ⟨0, false, Nat.zero_le _, rfl, rfl, Lib.hid rfl, by rw [hw0]; exact Below.refl _ _, CdsAt.emp _ _ _⟩
      case round =>
        clear hw0
        obtain ⟨j, d, hj, rfl, rfl, hd, hb, hv⟩ := hrel
        have HB0 := Lib.hid hb
        have HN := Lib.hid hv
        have hz := Lib.hid hb.size
        clear hb hv
        by_cases hjl : j < xs.length
        · obtain ⟨y, hy⟩ : ∃ y, xs[j]? = some y := ⟨_, List.getElem?_eq_getElem hjl⟩
          obtain ⟨b', p', hA', hit'⟩ := hQ.out j y hy
          subst hA'
          have HI' := Lib.hid hit'
          have ha := any_succ (c := c) hy
          have ht := Lib.hid (take_succ_cd hy)
          have hln : (xs.take j).length = j := by rw [List.length_take]; omega
          have hP1 := Lib.hid (fun u => HP.out c y u)
          clear hit' hy
          have C1 := Lib.hid (HI.out.on HB0.out)
          have C2 := Lib.hid (HI'.out.on HB0.out)
          obtain ⟨c1, c2, c3, c4⟩ := c
          obtain ⟨y1, y2, y3, y4⟩ := y
          obtain ⟨q0, q1, q2, q3⟩ := C1.out
          obtain ⟨r0, r1, r2, r3⟩ := C2.out
          cases d
          · have hd' : (xs.take j).any (prc ⟨c1, c2, c3, c4⟩) = false := hd.out.symm
            rw [if_neg (by decide)] at HN
            rw [hd', Bool.false_or] at ha
            go_wp2_with fail
            have Hs := Lib.hid (show wr.drew.cell? ⟨b, p + k * 4, none⟩ = some (.int .i64 c1) ∧ wr.drew.cell? ⟨b, p + k * 4 + 1, none⟩ = some (.int .i64 c2) ∧ wr.drew.cell? ⟨b, p + k * 4 + 2, none⟩ = some (.int .i64 c3) ∧ wr.drew.cell? ⟨b, p + k * 4 + 3, none⟩ = some (.string c4) ∧ wr.drew.cell? ⟨b', p' + j * 4, none⟩ = some (.int .i64 y1) ∧ wr.drew.cell? ⟨b', p' + j * 4 + 1, none⟩ = some (.int .i64 y2) ∧ wr.drew.cell? ⟨b', p' + j * 4 + 2, none⟩ = some (.int .i64 y3) ∧ wr.drew.cell? ⟨b', p' + j * 4 + 3, none⟩ = some (.string y4) ∧ Below wr.heap.size wr wr.drew from ⟨q0, q1, q2, q3, r0, r1, r2, r3, below_dn (Below.refl _ _) 1⟩)
            have XP := Lib.hid (fun u (hu : u.cell? ⟨b, p + k * 4, none⟩ = some (.int .i64 c1) ∧ u.cell? ⟨b, p + k * 4 + 1, none⟩ = some (.int .i64 c2) ∧ u.cell? ⟨b, p + k * 4 + 2, none⟩ = some (.int .i64 c3) ∧ u.cell? ⟨b, p + k * 4 + 3, none⟩ = some (.string c4) ∧ u.cell? ⟨b', p' + j * 4, none⟩ = some (.int .i64 y1) ∧ u.cell? ⟨b', p' + j * 4 + 1, none⟩ = some (.int .i64 y2) ∧ u.cell? ⟨b', p' + j * 4 + 2, none⟩ = some (.int .i64 y3) ∧ u.cell? ⟨b', p' + j * 4 + 3, none⟩ = some (.string y4) ∧ Below wr.heap.size wr u) => (hP1.out u).mono (R' := fun e u' => e = .returned (.bool (prc ⟨c1, c2, c3, c4⟩ ⟨y1, y2, y3, y4⟩)) ∧ (u'.cell? ⟨b, p + k * 4, none⟩ = some (.int .i64 c1) ∧ u'.cell? ⟨b, p + k * 4 + 1, none⟩ = some (.int .i64 c2) ∧ u'.cell? ⟨b, p + k * 4 + 2, none⟩ = some (.int .i64 c3) ∧ u'.cell? ⟨b, p + k * 4 + 3, none⟩ = some (.string c4) ∧ u'.cell? ⟨b', p' + j * 4, none⟩ = some (.int .i64 y1) ∧ u'.cell? ⟨b', p' + j * 4 + 1, none⟩ = some (.int .i64 y2) ∧ u'.cell? ⟨b', p' + j * 4 + 2, none⟩ = some (.int .i64 y3) ∧ u'.cell? ⟨b', p' + j * 4 + 3, none⟩ = some (.string y4) ∧ Below wr.heap.size wr u')) fun e u' ⟨he, hq⟩ => ⟨he, cell_below hu.1 hq, cell_below hu.2.1 hq, cell_below hu.2.2.1 hq, cell_below hu.2.2.2.1 hq, cell_below hu.2.2.2.2.1 hq, cell_below hu.2.2.2.2.2.1 hq, cell_below hu.2.2.2.2.2.2.1 hq, cell_below hu.2.2.2.2.2.2.2.1 hq, below_on hu.2.2.2.2.2.2.2.2 hq⟩)
            refine wp_region_held_drew (S := fun u => u.cell? ⟨b, p + k * 4, none⟩ = some (.int .i64 c1) ∧ u.cell? ⟨b, p + k * 4 + 1, none⟩ = some (.int .i64 c2) ∧ u.cell? ⟨b, p + k * 4 + 2, none⟩ = some (.int .i64 c3) ∧ u.cell? ⟨b, p + k * 4 + 3, none⟩ = some (.string c4) ∧ u.cell? ⟨b', p' + j * 4, none⟩ = some (.int .i64 y1) ∧ u.cell? ⟨b', p' + j * 4 + 1, none⟩ = some (.int .i64 y2) ∧ u.cell? ⟨b', p' + j * 4 + 2, none⟩ = some (.int .i64 y3) ∧ u.cell? ⟨b', p' + j * 4 + 3, none⟩ = some (.string y4) ∧ Below wr.heap.size wr u) (by kernel_rfl) Hs.out (fun hHeld => ?_)
            refine wpAnyH_take (i := 0) (oi := { dst := some 20, op := _, type := _, pos := _, after := _, guard := _ }) (v := ?v1_0) rfl (by kernel_rfl) (by kernel_rfl) (by kernel_rfl) (fun _ _ _ h => h) (Or.inl ⟨by rfl, ?hy1_0⟩) hHeld ?_
            case hy1_0 => (intro w hSw; (try dsimp only at hSw); go_simp; try with_reducible rfl)
            simp only [Act.put, List.setIfInBounds_toArray, List.set_cons_zero, List.set_cons_succ]
            refine wpAnyH_take (i := 1) (oi := { dst := some 21, op := _, type := _, pos := _, after := _, guard := _ }) (v := ?v1_1) rfl (by kernel_rfl) (by kernel_rfl) (by kernel_rfl) (fun _ _ _ h => h) (Or.inl ⟨by rfl, ?hy1_1⟩) hHeld ?_
            case hy1_1 => (intro w hSw; (try dsimp only at hSw); go_simp; try with_reducible rfl)
            simp only [Act.put, List.setIfInBounds_toArray, List.set_cons_zero, List.set_cons_succ]
            refine wpAnyH_take (i := 2) (oi := { dst := some 22, op := _, type := _, pos := _, after := _, guard := _ }) (v := ?v1_2) rfl (by kernel_rfl) (by kernel_rfl) (by kernel_rfl) (fun _ _ _ h => h) (Or.inl ⟨by rfl, ?hy1_2⟩) hHeld ?_
            case hy1_2 => (intro w hSw; (try dsimp only at hSw); go_simp; try with_reducible rfl)
            simp only [Act.put, List.setIfInBounds_toArray, List.set_cons_zero, List.set_cons_succ]
            refine wpAnyH_take (i := 3) (oi := { dst := some 23, op := _, type := _, pos := _, after := _, guard := _ }) (v := ?v1_3) rfl (by kernel_rfl) (by kernel_rfl) (by kernel_rfl) (fun _ _ _ h => h) (Or.inl ⟨by rfl, ?hy1_3⟩) hHeld ?_
            case hy1_3 => (intro w hSw; (try dsimp only at hSw); go_simp; try with_reducible rfl)
            simp only [Act.put, List.setIfInBounds_toArray, List.set_cons_zero, List.set_cons_succ]
            refine wpAnyH_take (i := 4) (oi := { dst := some 24, op := _, type := _, pos := _, after := _, guard := _ }) (v := ?v1_4) rfl (by kernel_rfl) (by kernel_rfl) (by kernel_rfl) (fun _ _ _ h => h) (Or.inl ⟨by rfl, ?hy1_4⟩) hHeld ?_
            case hy1_4 => (intro w hSw; (try dsimp only at hSw); go_simp; try with_reducible rfl)
            simp only [Act.put, List.setIfInBounds_toArray, List.set_cons_zero, List.set_cons_succ]
            refine wpAnyH_take (i := 5) (oi := { dst := some 25, op := _, type := _, pos := _, after := _, guard := _ }) (v := ?v1_5) rfl (by kernel_rfl) (by kernel_rfl) (by kernel_rfl) (fun _ _ _ h => h) (Or.inl ⟨by rfl, ?hy1_5⟩) hHeld ?_
            case hy1_5 => (intro w hSw; (try dsimp only at hSw); go_simp; try with_reducible rfl)
            simp only [Act.put, List.setIfInBounds_toArray, List.set_cons_zero, List.set_cons_succ]
            refine wpAnyH_take (i := 6) (oi := { dst := some 26, op := _, type := _, pos := _, after := _, guard := _ }) (v := ?v1_6) rfl (by kernel_rfl) (by kernel_rfl) (by kernel_rfl) (fun _ _ _ h => h) (Or.inl ⟨by rfl, ?hy1_6⟩) hHeld ?_
            case hy1_6 => (intro w hSw; (try dsimp only at hSw); go_simp; try with_reducible rfl)
            simp only [Act.put, List.setIfInBounds_toArray, List.set_cons_zero, List.set_cons_succ]
            refine wpAnyH_take (i := 7) (oi := { dst := some 27, op := _, type := _, pos := _, after := _, guard := _ }) (v := ?v1_7) rfl (by kernel_rfl) (by kernel_rfl) (by kernel_rfl) (fun _ _ _ h => h) (Or.inl ⟨by rfl, ?hy1_7⟩) hHeld ?_
            case hy1_7 => (intro w hSw; (try dsimp only at hSw); go_simp; try with_reducible rfl)
            simp only [Act.put, List.setIfInBounds_toArray, List.set_cons_zero, List.set_cons_succ]
            refine wpAnyH_take (i := 8) (oi := { dst := some 28, op := _, type := _, pos := _, after := _, guard := _ }) (v := ?v1_8) rfl (by kernel_rfl) (by kernel_rfl) (by kernel_rfl) (fun _ _ _ h => h) (Or.inl ⟨by rfl, ?hy1_8⟩) hHeld ?_
            case hy1_8 => (intro w hSw; (try dsimp only at hSw); go_simp; try with_reducible rfl)
            simp only [Act.put, List.setIfInBounds_toArray, List.set_cons_zero, List.set_cons_succ]
            refine wpAnyH_take (i := 9) (oi := { dst := some 29, op := _, type := _, pos := _, after := _, guard := _ }) (v := ?v1_9) rfl (by kernel_rfl) (by kernel_rfl) (by kernel_rfl) (fun _ _ _ h => h) (Or.inl ⟨by rfl, ?hy1_9⟩) hHeld ?_
            case hy1_9 => (intro w hSw; (try dsimp only at hSw); go_simp; try with_reducible rfl)
            simp only [Act.put, List.setIfInBounds_toArray, List.set_cons_zero, List.set_cons_succ]
            refine wpAnyH_take (i := 10) (oi := { dst := some 30, op := _, type := _, pos := _, after := _, guard := _ }) (v := ?v1_10) rfl (by kernel_rfl) (by kernel_rfl) (by kernel_rfl) (fun _ _ _ h => h) (Or.inl ⟨by rfl, ?hy1_10⟩) hHeld ?_
            case hy1_10 => (intro w hSw; (try dsimp only at hSw); go_simp; try with_reducible rfl)
            simp only [Act.put, List.setIfInBounds_toArray, List.set_cons_zero, List.set_cons_succ]
            refine wpAnyH_ready (rs := [11]) (by kernel_rfl) (by simp) ?_
            refine AllReadyH.cons (o := { dst := some 31, op := _, type := _, pos := _, after := _, guard := _ }) rfl (fun K hK => ?_) AllReadyH.nil
            go_simp
            go_at_call 18
            refine (XP.out _ (by assumption)).mono ?_
            rintro e1 w1 ⟨rfl, hs1⟩
            refine hK.out _ _ hs1 (fun hHeld => ?_)
            clear hK K
            refine wpAnyH_take (i := 12) (oi := { dst := some 32, op := _, type := _, pos := _, after := _, guard := _ }) (v := ?v1_12) rfl (by kernel_rfl) (by kernel_rfl) (by kernel_rfl) (fun _ _ _ h => h) (Or.inl ⟨by rfl, ?hy1_12⟩) hHeld ?_
            case hy1_12 => (intro w hSw; (try dsimp only at hSw); go_simp; try with_reducible rfl)
            simp only [Act.put, List.setIfInBounds_toArray, List.set_cons_zero, List.set_cons_succ]
            refine wpAnyH_done (by kernel_rfl) ?_ _
            have B1 := Lib.hid hs1.2.2.2.2.2.2.2.2
            have HB1 := Lib.hid (below_on HB0.out B1.out)
            have hz1' := Lib.hid HB1.out.size
            have HN1 := Lib.hid (HN.out.on B1.out)
            clear q0 q1 q2 q3 r0 r1 r2 r3 hs1 Hs XP
            obtain ⟨q0, q1, q2, q3⟩ := HI.out.on HB1.out
            obtain ⟨r0, r1, r2, r3⟩ := HI'.out.on HB1.out
            cases hp : prc ⟨c1, c2, c3, c4⟩ ⟨y1, y2, y3, y4⟩
            · rw [hp] at ha
              go_wp2_with (at_builtin; refine wpList_append_own _ rfl _ _ 29 rfl w0.heap.size 39 i0 (cdv zcd) 4 40 Try.underlying29 hi hz0 hz1 hz2 rfl (by decide) _ _ _ rfl (HN1.out.al _) ⟨w1.heap.size, 0, none⟩ 1 1 [.int .i64 y1, .int .i64 y2, .int .i64 y3, .string y4] rfl rfl (cell_four_new _ _ _ _ _ _) (by simp [Value.oneCell']) (by unfold maxLen; omega) (by omega) (by have := hz1'.out; simp; omega) ?_; intro vaA waA hown' hgrow _; obtain ⟨hv2, hb2⟩ := HN1.out.app (c := ⟨y1, y2, y3, y4⟩) HB1.out hz1'.out hown' hgrow; have HVA := Lib.hid hv2; have HBA := Lib.hid hb2; have hzA := Lib.hid hb2.size; clear hown' hgrow hv2 hb2)
              go_roundw
              case rel => exact ⟨j + 1, false, by omega, by go_num, rfl, Lib.hid ha.symm, HBA.out, by rw [if_neg (by decide), ht.out]; exact HVA.out⟩
              case measure => simp [intOf]; omega
            · rw [hp] at ha
              have hf := Lib.hid (insR_first hd' hp)
              go_upto_region 13 with (at_builtin; refine wpList_append_own _ rfl _ _ 29 rfl w0.heap.size 39 i0 (cdv zcd) 4 40 Try.underlying29 hi hz0 hz1 hz2 rfl (by decide) _ _ _ rfl (HN1.out.al _) ⟨w1.heap.size, 0, none⟩ 1 1 [.int .i64 c1, .int .i64 c2, .int .i64 c3, .string c4] rfl rfl (cell_four_new _ _ _ _ _ _) (by simp [Value.oneCell']) (by unfold maxLen; omega) (by omega) (by have := hz1'.out; simp; omega) ?_; intro vaA waA hown' hgrow _; obtain ⟨hv2, hb2⟩ := HN1.out.app (c := ⟨c1, c2, c3, c4⟩) HB1.out hz1'.out hown' hgrow; have HVA := Lib.hid hv2; have HBA := Lib.hid hb2; have hzA := Lib.hid hb2.size; clear hown' hgrow hv2 hb2)
              clear q0 q1 q2 q3 r0 r1 r2 r3
              obtain ⟨r0, r1, r2, r3⟩ := HI'.out.on HBA.out
              have hln2 : (xs.take j ++ [(⟨c1, c2, c3, c4⟩ : Cd)]).length = j + 1 := by rw [List.length_append, hln]; rfl
              go_wp2_with (at_builtin; refine wpList_append_own _ rfl _ _ 29 rfl w0.heap.size 39 i0 (cdv zcd) 4 40 Try.underlying29 hi hz0 hz1 hz2 rfl (by decide) _ _ _ rfl (HVA.out.al _) ⟨waA.heap.size, 0, none⟩ 1 1 [.int .i64 y1, .int .i64 y2, .int .i64 y3, .string y4] rfl rfl (cell_four_new _ _ _ _ _ _) (by simp [Value.oneCell']) (by unfold maxLen; omega) (by omega) (by have := hzA.out; simp; omega) ?_; intro vaC waC hown' hgrow _; obtain ⟨hv2, hb2⟩ := HVA.out.app (c := ⟨y1, y2, y3, y4⟩) HBA.out hzA.out hown' hgrow; have HVC := Lib.hid hv2; have HBC := Lib.hid hb2; have hzC := Lib.hid hb2.size; clear hown' hgrow hv2 hb2)
              go_roundw
              case rel => exact ⟨j + 1, true, by omega, by go_num, rfl, Lib.hid ha.symm, HBC.out, by rw [if_pos rfl, ht.out, hf.out]; exact HVC.out⟩
              case measure => simp [intOf]; omega
          · have hd' : (xs.take j).any (prc ⟨c1, c2, c3, c4⟩) = true := hd.out.symm
            rw [if_pos rfl] at HN
            rw [hd', Bool.true_or] at ha
            have hf := Lib.hid (insR_any (y := ⟨y1, y2, y3, y4⟩) hd')
            have hln3 : (insR ⟨c1, c2, c3, c4⟩ (xs.take j)).length = j + 1 := by rw [insR_len, hln]
            go_wp2_with fail
            have Hs := Lib.hid (show wr.drew.cell? ⟨b, p + k * 4, none⟩ = some (.int .i64 c1) ∧ wr.drew.cell? ⟨b, p + k * 4 + 1, none⟩ = some (.int .i64 c2) ∧ wr.drew.cell? ⟨b, p + k * 4 + 2, none⟩ = some (.int .i64 c3) ∧ wr.drew.cell? ⟨b, p + k * 4 + 3, none⟩ = some (.string c4) ∧ wr.drew.cell? ⟨b', p' + j * 4, none⟩ = some (.int .i64 y1) ∧ wr.drew.cell? ⟨b', p' + j * 4 + 1, none⟩ = some (.int .i64 y2) ∧ wr.drew.cell? ⟨b', p' + j * 4 + 2, none⟩ = some (.int .i64 y3) ∧ wr.drew.cell? ⟨b', p' + j * 4 + 3, none⟩ = some (.string y4) ∧ Below wr.heap.size wr wr.drew from ⟨q0, q1, q2, q3, r0, r1, r2, r3, below_dn (Below.refl _ _) 1⟩)
            refine wp_region_held_drew (S := fun u => u.cell? ⟨b, p + k * 4, none⟩ = some (.int .i64 c1) ∧ u.cell? ⟨b, p + k * 4 + 1, none⟩ = some (.int .i64 c2) ∧ u.cell? ⟨b, p + k * 4 + 2, none⟩ = some (.int .i64 c3) ∧ u.cell? ⟨b, p + k * 4 + 3, none⟩ = some (.string c4) ∧ u.cell? ⟨b', p' + j * 4, none⟩ = some (.int .i64 y1) ∧ u.cell? ⟨b', p' + j * 4 + 1, none⟩ = some (.int .i64 y2) ∧ u.cell? ⟨b', p' + j * 4 + 2, none⟩ = some (.int .i64 y3) ∧ u.cell? ⟨b', p' + j * 4 + 3, none⟩ = some (.string y4) ∧ Below wr.heap.size wr u) (by kernel_rfl) Hs.out (fun hHeld => ?_)
            refine wpAnyH_take (i := 0) (oi := { dst := some 20, op := _, type := _, pos := _, after := _, guard := _ }) (v := ?v2_0) rfl (by kernel_rfl) (by kernel_rfl) (by kernel_rfl) (fun _ _ _ h => h) (Or.inl ⟨by rfl, ?hy2_0⟩) hHeld ?_
            case hy2_0 => (intro w hSw; (try dsimp only at hSw); go_simp; try with_reducible rfl)
            simp only [Act.put, List.setIfInBounds_toArray, List.set_cons_zero, List.set_cons_succ]
            refine wpAnyH_take (i := 1) (oi := { dst := some 21, op := _, type := _, pos := _, after := _, guard := _ }) (v := ?v2_1) rfl (by kernel_rfl) (by kernel_rfl) (by kernel_rfl) (fun _ _ _ h => h) (Or.inl ⟨by rfl, ?hy2_1⟩) hHeld ?_
            case hy2_1 => (intro w hSw; (try dsimp only at hSw); go_simp; try with_reducible rfl)
            simp only [Act.put, List.setIfInBounds_toArray, List.set_cons_zero, List.set_cons_succ]
            refine wpAnyH_take (i := 2) (oi := { dst := some 22, op := _, type := _, pos := _, after := _, guard := _ }) (v := ?v2_2) rfl (by kernel_rfl) (by kernel_rfl) (by kernel_rfl) (fun _ _ _ h => h) (Or.inl ⟨by rfl, ?hy2_2⟩) hHeld ?_
            case hy2_2 => (intro w hSw; (try dsimp only at hSw); go_simp; try with_reducible rfl)
            simp only [Act.put, List.setIfInBounds_toArray, List.set_cons_zero, List.set_cons_succ]
            refine wpAnyH_take (i := 3) (oi := { dst := some 23, op := _, type := _, pos := _, after := _, guard := _ }) (v := undef) rfl (by kernel_rfl) (by kernel_rfl) (by kernel_rfl) (fun _ _ _ h => h) (Or.inr ⟨by rfl, rfl⟩) hHeld ?_
            simp only [Act.put, List.setIfInBounds_toArray, List.set_cons_zero, List.set_cons_succ]
            refine wpAnyH_take (i := 4) (oi := { dst := some 24, op := _, type := _, pos := _, after := _, guard := _ }) (v := undef) rfl (by kernel_rfl) (by kernel_rfl) (by kernel_rfl) (fun _ _ _ h => h) (Or.inr ⟨by rfl, rfl⟩) hHeld ?_
            simp only [Act.put, List.setIfInBounds_toArray, List.set_cons_zero, List.set_cons_succ]
            refine wpAnyH_take (i := 5) (oi := { dst := some 25, op := _, type := _, pos := _, after := _, guard := _ }) (v := undef) rfl (by kernel_rfl) (by kernel_rfl) (by kernel_rfl) (fun _ _ _ h => h) (Or.inr ⟨by rfl, rfl⟩) hHeld ?_
            simp only [Act.put, List.setIfInBounds_toArray, List.set_cons_zero, List.set_cons_succ]
            refine wpAnyH_take (i := 6) (oi := { dst := some 26, op := _, type := _, pos := _, after := _, guard := _ }) (v := undef) rfl (by kernel_rfl) (by kernel_rfl) (by kernel_rfl) (fun _ _ _ h => h) (Or.inr ⟨by rfl, rfl⟩) hHeld ?_
            simp only [Act.put, List.setIfInBounds_toArray, List.set_cons_zero, List.set_cons_succ]
            refine wpAnyH_take (i := 7) (oi := { dst := some 27, op := _, type := _, pos := _, after := _, guard := _ }) (v := undef) rfl (by kernel_rfl) (by kernel_rfl) (by kernel_rfl) (fun _ _ _ h => h) (Or.inr ⟨by rfl, rfl⟩) hHeld ?_
            simp only [Act.put, List.setIfInBounds_toArray, List.set_cons_zero, List.set_cons_succ]
            refine wpAnyH_take (i := 8) (oi := { dst := some 28, op := _, type := _, pos := _, after := _, guard := _ }) (v := undef) rfl (by kernel_rfl) (by kernel_rfl) (by kernel_rfl) (fun _ _ _ h => h) (Or.inr ⟨by rfl, rfl⟩) hHeld ?_
            simp only [Act.put, List.setIfInBounds_toArray, List.set_cons_zero, List.set_cons_succ]
            refine wpAnyH_take (i := 9) (oi := { dst := some 29, op := _, type := _, pos := _, after := _, guard := _ }) (v := undef) rfl (by kernel_rfl) (by kernel_rfl) (by kernel_rfl) (fun _ _ _ h => h) (Or.inr ⟨by rfl, rfl⟩) hHeld ?_
            simp only [Act.put, List.setIfInBounds_toArray, List.set_cons_zero, List.set_cons_succ]
            refine wpAnyH_take (i := 10) (oi := { dst := some 30, op := _, type := _, pos := _, after := _, guard := _ }) (v := undef) rfl (by kernel_rfl) (by kernel_rfl) (by kernel_rfl) (fun _ _ _ h => h) (Or.inr ⟨by rfl, rfl⟩) hHeld ?_
            simp only [Act.put, List.setIfInBounds_toArray, List.set_cons_zero, List.set_cons_succ]
            refine wpAnyH_take (i := 11) (oi := { dst := some 31, op := _, type := _, pos := _, after := _, guard := _ }) (v := undef) rfl (by kernel_rfl) (by kernel_rfl) (by kernel_rfl) (fun _ _ _ h => h) (Or.inr ⟨by rfl, rfl⟩) hHeld ?_
            simp only [Act.put, List.setIfInBounds_toArray, List.set_cons_zero, List.set_cons_succ]
            refine wpAnyH_take (i := 12) (oi := { dst := some 32, op := _, type := _, pos := _, after := _, guard := _ }) (v := ?v2_12) rfl (by kernel_rfl) (by kernel_rfl) (by kernel_rfl) (fun _ _ _ h => h) (Or.inl ⟨by rfl, ?hy2_12⟩) hHeld ?_
            case hy2_12 => (intro w hSw; (try dsimp only at hSw); go_simp; try with_reducible rfl)
            simp only [Act.put, List.setIfInBounds_toArray, List.set_cons_zero, List.set_cons_succ]
            refine wpAnyH_done (by kernel_rfl) ?_ _
            have B1 : Hid (Below wr.heap.size wr wr.drew) := Lib.hid (below_dn (Below.refl wr.heap.size wr) 1)
            have HB1 := Lib.hid (below_on HB0.out B1.out)
            have hz1' := Lib.hid HB1.out.size
            have HN1 := Lib.hid (HN.out.on B1.out)
            have D0 := Lib.hid (HI'.out.on HB1.out)
            clear q0 q1 q2 q3 r0 r1 r2 r3 Hs
            obtain ⟨w1, hw1⟩ : ∃ w1 : World, w1 = wr.drew := ⟨_, rfl⟩
            try rw [← hw1]
            rw [← hw1] at B1 HB1 hz1' HN1 D0
            clear hw1
            obtain ⟨r0, r1, r2, r3⟩ := D0.out
            go_wp2_with (at_builtin; refine wpList_append_own _ rfl _ _ 29 rfl w0.heap.size 39 i0 (cdv zcd) 4 40 Try.underlying29 hi hz0 hz1 hz2 rfl (by decide) _ _ _ rfl (HN1.out.al _) ⟨w1.heap.size, 0, none⟩ 1 1 [.int .i64 y1, .int .i64 y2, .int .i64 y3, .string y4] rfl rfl (cell_four_new _ _ _ _ _ _) (by simp [Value.oneCell']) (by unfold maxLen; omega) (by omega) (by have := hz1'.out; simp; omega) ?_; intro vaA waA hown' hgrow _; obtain ⟨hv2, hb2⟩ := HN1.out.app (c := ⟨y1, y2, y3, y4⟩) HB1.out hz1'.out hown' hgrow; have HVA := Lib.hid hv2; have HBA := Lib.hid hb2; have hzA := Lib.hid hb2.size; clear hown' hgrow hv2 hb2)
            go_roundw
            case rel => exact ⟨j + 1, true, by omega, by go_num, rfl, Lib.hid ha.symm, HBA.out, by rw [if_pos rfl, ht.out, hf.out]; exact HVA.out⟩
            case measure => simp [intOf]; omega
        · obtain rfl : j = xs.length := by omega
          rw [List.take_length] at hd HN
          have HBo := Lib.hid (below_on HB.out HB0.out)
          obtain ⟨q0, q1, q2, q3⟩ := HI.out.on HB0.out
          cases d
          · have hn := Lib.hid (insR_none hd.out.symm)
            rw [if_neg (by decide)] at HN
            obtain ⟨c1, c2, c3, c4⟩ := c
            go_wp2_with (at_builtin; refine wpList_append_own _ rfl _ _ 29 rfl w0.heap.size 39 i0 (cdv zcd) 4 40 Try.underlying29 hi hz0 hz1 hz2 rfl (by decide) _ _ _ rfl (HN.out.al _) ⟨wr.heap.size, 0, none⟩ 1 1 [.int .i64 c1, .int .i64 c2, .int .i64 c3, .string c4] rfl rfl (cell_four_new _ _ _ _ _ _) (by simp [Value.oneCell']) (by unfold maxLen; omega) (by omega) (by have := hz.out; simp; omega) ?_; intro vaA waA hown' hgrow _; obtain ⟨hv2, hb2⟩ := HN.out.app (c := ⟨c1, c2, c3, c4⟩) HB0.out hz.out hown' hgrow; have HVA := Lib.hid hv2; have HBA := Lib.hid hb2; have hzA := Lib.hid hb2.size; clear hown' hgrow hv2 hb2)
            have HBp := Lib.hid (below_on HB.out HBA.out)
            go_roundw
            case rel => exact ⟨k + 1, by omega, by go_num, HBp.out, by rw [hmap.out, hn.out]; exact HVA.out.lower hW0.out⟩
            case measure => simp [intOf]; omega
          · rw [if_pos rfl] at HN
            go_wp2_with fail
            go_roundw
            case rel => exact ⟨k + 1, by omega, by go_num, HBo.out, by rw [hmap.out]; exact HN.out.lower hW0.out⟩
            case measure => simp [intOf]; omega
    · obtain rfl : k = l.length := by omega
      go_wp2_with fail
      go_ret
      exact ⟨_, rfl, by have := HV.out; rwa [List.take_length] at this, HB.out⟩
end Go.Proofs.Ytnofmlkjagdklaa

namespace Go.Proofs.Ytnofmlkjagdklaa
open Go.RowKit

/-- A slice of candidates, handed back. -/
def RetC (W : World) (l : List Cd) (e : Ending) (w' : World) : Prop := ∃ v, e = .returned v ∧ CsAt w' v l ∧ Below W.heap.size W w'
/-- A literal of three. -/
theorem cs_three {w : World} {b t : Nat} {x y z : Cd} (h : w.heap[b]? = some (.cells #[.int .i64 x.k, .int .i64 x.i, .int .i64 x.r, .string x.id, .int .i64 y.k, .int .i64 y.i, .int .i64 y.r, .string y.id, .int .i64 z.k, .int .i64 z.i, .int .i64 z.r, .string z.id] t (0, 0))) :
    CsAt w (.slice (some ⟨b, 0, none⟩) 3 3) [x, y, z] := by
  have c := fun j => cell_of_row w b j _ _ _ h
  refine ⟨_, 3, rfl, Nat.le_refl _, by unfold maxLen; omega, fun i d hd => ⟨b, 0, rfl, ?_⟩⟩
  match i, hd with
  | 0, hd => obtain rfl : x = d := by simpa using hd
             exact ⟨(c 0).trans rfl, (c 1).trans rfl, (c 2).trans rfl, (c 3).trans rfl⟩
  | 1, hd => obtain rfl : y = d := by simpa using hd
             exact ⟨(c 4).trans rfl, (c 5).trans rfl, (c 6).trans rfl, (c 7).trans rfl⟩
  | 2, hd => obtain rfl : z = d := by simpa using hd
             exact ⟨(c 8).trans rfl, (c 9).trans rfl, (c 10).trans rfl, (c 11).trans rfl⟩
  | n + 3, hd => simp at hd
theorem eq_cd (c : Cd) (u : World) : (binOp .eql 32 (cdv c) (cdv c)).run Try.prog u = .ok (.bool true) u := by simp [go_sem]
/-- A row of four cells. -/
theorem cd_row {w : World} {b t : Nat} {x : Cd} (h : w.heap[b]? = some (.cells #[.int .i64 x.k, .int .i64 x.i, .int .i64 x.r, .string x.id] t (0, 0))) : CdAt w b 0 x := by
  have c := fun j => cell_of_row w b j _ _ _ h
  exact ⟨(c 0).trans rfl, (c 1).trans rfl, (c 2).trans rfl, (c 3).trans rfl⟩
end Go.Proofs.Ytnofmlkjagdklaa

namespace Go.Proofs.Ytnofmlkjagdklaa
open Go.RowKit

/-- What a walk reads of a slice whose address is known. -/
theorem CsAt.at {w : World} {g q n cap : Nat} {l : List Cd} (h : CsAt w (.slice (some ⟨g, q, none⟩) n cap) l) {i : Nat} {c : Cd} (hc : l[i]? = some c) : CdAt w g (q + i * 4) c := by
  obtain ⟨A, cap', e, _, _, h3⟩ := h
  obtain ⟨b, o, e2, h4⟩ := h3 i c hc
  rw [e2] at e
  cases e
  exact h4
end Go.Proofs.Ytnofmlkjagdklaa

namespace Go.Proofs.Ytnofmlkjagdklaa
open Go.ChangeShapes Go.WideShapes Go.RowKit Go.Joins Go.Deep

section
variable {H : Type} {enc : TypeId × Value → H} {P : Program} {w : World} {base : Nat} {spare : Nat → Bool} {held : Bool}
theorem trod_cd {t ti ts fuel : Nat} {f0 f1 f2 f3 : Field} {cs : List Value} {x : DataW H × List MemPlace} (hs : P.underlying t = some (.struct #[f0, f1, f2, f3])) (hone : oneCellFields P #[f0, f1, f2, f3] = true) (hC : P.cellsOf t = 4) (hi : P.underlying ti = some (.int .i64)) (hst : P.underlying ts = some .string)
    (h0 : f0.type = ti) (h1 : f1.type = ti) (h2 : f2.type = ti) (h3 : f3.type = ts) (h : DataW.trod enc P w base spare held fuel t cs = some x) : ∃ c : Cd, cs = c.vals.toList := by
  obtain ⟨xs, n, _, _, hlen, hxl, hg⟩ := DataW.trod_struct hs h
  obtain ⟨c0, c1, c2, c3, rfl⟩ := list4 (hlen.trans hC)
  have key : ∀ (j : Nat) (f : Field) (v : Value), #[f0, f1, f2, f3][j]? = some f → ([c0, c1, c2, c3].drop j).take 1 = [v] → ∃ y, DataW.trod enc P w base spare held n f.type [v] = some y := by
    intro j f v hj hd
    have e := hg j f hj
    obtain ⟨o1, o2⟩ := hone_of hone j f hj
    rw [o1, o2, hd] at e
    have hjl : j < xs.length := by
      have := (Array.getElem?_eq_some_iff.1 hj).1
      omega
    exact ⟨_, e.trans (List.getElem?_eq_getElem hjl)⟩
  obtain ⟨y0, e0⟩ := key 0 f0 c0 rfl rfl
  obtain ⟨y1, e1⟩ := key 1 f1 c1 rfl rfl
  obtain ⟨y2, e2⟩ := key 2 f2 c2 rfl rfl
  obtain ⟨y3, e3⟩ := key 3 f3 c3 rfl rfl
  rw [h0] at e0
  rw [h1] at e1
  rw [h2] at e2
  rw [h3] at e3
  obtain ⟨k, rfl, _⟩ := one_int hi e0 rfl
  obtain ⟨i, rfl, _⟩ := one_int hi e1 rfl
  obtain ⟨r, rfl, _⟩ := one_int hi e2 rfl
  obtain ⟨s, es, _, _⟩ := DataW.trod_string hst e3
  obtain rfl : c3 = .string s := by simpa using es
  exact ⟨⟨k, i, r, s⟩, rfl⟩
theorem trod_cds {t e fuel : Nat} {cs : List Value} {x : DataW H × List MemPlace} (ht : P.underlying t = some (.slice e)) (hC : P.cellsOf e = 4)
    (hI : ∀ (n : Nat) (cs' : List Value) (y : DataW H × List MemPlace), DataW.trod enc P w base spare held n e cs' = some y → ∃ c : Cd, cs' = c.vals.toList) (h : DataW.trod enc P w base spare held fuel t cs = some x) :
    ∃ (v : Value) (l : List Cd), cs = [v] ∧ CsAt w v l := by
  rcases open_slice ht h with ⟨rfl, _⟩ | ⟨a, len, cap, m, n, D, Pl, rfl, hb, hl, hm, hmm, _, hall⟩
  · exact ⟨_, [], rfl, ⟨none, 0, rfl, Nat.le_refl _, Nat.zero_le _, fun i t hi => by simp at hi⟩⟩
  · have hle : len ≤ m := by rw [hmm]; split <;> omega
    have one : ∀ i, i < len → ∃ c : Cd, ∀ j, j < 4 → w.cell? ((a.add (i * 4)).add j) = c.vals[j]? := by
      intro i hi
      obtain ⟨cs', h1, h2⟩ := hall i (by omega)
      rw [hC] at h1
      obtain ⟨z, e1⟩ := hI _ _ _ h2
      obtain ⟨_, _, h4⟩ := World.cells?_some h1
      exact ⟨z, fun j hj => by rw [h4 j hj, e1]; simp⟩
    have each : ∀ i, ∃ c : Cd, i < len → ∀ j, j < 4 → w.cell? ((a.add (i * 4)).add j) = c.vals[j]? := fun i => by
      by_cases hi : i < len
      · obtain ⟨z, hz⟩ := one i hi
        exact ⟨z, fun _ => hz⟩
      · exact ⟨zcd, fun h => absurd h hi⟩
    obtain ⟨f, hf⟩ : ∃ f : Nat → Cd, ∀ i, i < len → ∀ j, j < 4 → w.cell? ((a.add (i * 4)).add j) = (f i).vals[j]? := ⟨fun i => (each i).choose, fun i => (each i).choose_spec⟩
    refine ⟨_, (List.range len).map f, rfl, ⟨some a, cap, by simp, by simpa using hl, hm, fun i t hi => ?_⟩⟩
    have hil : i < len := by
      have := (List.getElem?_eq_some_iff.1 hi).1
      simpa using this
    have ht : t = f i := by
      rw [List.getElem?_map, List.getElem?_range hil] at hi
      exact (Option.some.inj hi).symm
    have hs : a.spot = none := by
      have h0 := hf 0 (by omega) 0 (by decide)
      exact cell_spot (v := .int .i64 (f 0).k) h0
    obtain ⟨ab, ao, asp⟩ := a
    obtain rfl : asp = none := hs
    have hcell := fun j hj => hf i hil j hj
    have c0 := hcell 0 (by decide)
    have c1 := hcell 1 (by decide)
    have c2 := hcell 2 (by decide)
    have c3 := hcell 3 (by decide)
    rw [add_none, add_none] at c0 c1 c2 c3
    subst ht
    exact ⟨ab, ao, rfl, ⟨c0, c1, c2, c3⟩⟩
end
section
variable {H : Type} {enc : TypeId × Value → H} {w : World} {base : Nat} {spare : Nat → Bool} {held : Bool}
set_option maxRecDepth 100000 in
theorem trod_cand (n : Nat) (cs' : List Value) (y : DataW H × List MemPlace) (h : DataW.trod enc Try.prog w base spare held n 39 cs' = some y) : ∃ c : Cd, cs' = c.vals.toList :=
  trod_cd Try.underlying39 (by kernel_rfl) (by kernel_rfl) Try.underlying3 Try.underlying9 rfl rfl rfl rfl h
set_option maxRecDepth 100000 in
theorem open_cand {r : Reach} {b0 : Nat} {v : Value} {d : DataW H} {p : List MemPlace} (hv : Value.okWide Try.prog w r b0 39 v) (h : DataW.Trod enc Try.prog w base spare held 39 v d p) : ∃ c : Cd, v = cdv c := by
  obtain ⟨cs, rfl, _⟩ := okWide_struct Try.underlying39 hv
  obtain ⟨n, h⟩ := h
  obtain ⟨c, e⟩ := trod_cand n _ _ h
  exact ⟨c, by rw [show cs = c.vals from Array.toList_inj.1 e]⟩
set_option maxRecDepth 100000 in
theorem open_cands {r : Reach} {b0 : Nat} {v : Value} {d : DataW H} {p : List MemPlace} (hv : Value.okWide Try.prog w r b0 29 v) (h : DataW.Trod enc Try.prog w base spare held 29 v d p) : ∃ l, CsAt w v l := by
  obtain ⟨a, len, cap, rfl⟩ := okWide_slice Try.underlying29 hv
  obtain ⟨n, h⟩ := h
  obtain ⟨v', l, e, h1⟩ := trod_cds Try.underlying29 (by kernel_rfl) trod_cand h
  obtain rfl : .slice a len cap = v' := by simpa [Value.cells] using e
  exact ⟨l, h1⟩
end
end Go.Proofs.Ytnofmlkjagdklaa

namespace Go.Proofs.Ytnofmlkjagdklaa
open Go.RowKit

theorem p20pr_any (a b : Cd) (W : World) : Calls Try.prog 104 #[cdv a, cdv b] W fun e w' => e = .returned (.bool (prc a b)) ∧ Below W.heap.size W w' := by
  obtain ⟨k, i, r, d⟩ := a
  obtain ⟨k', i', r', d'⟩ := b
  cases h1 : (r != r')
  · obtain rfl : r = r' := bne_eq_false_iff_eq.1 h1
    cases h2 : (k != k')
    · obtain rfl : k = k' := bne_eq_false_iff_eq.1 h2
      have e : prc ⟨k, i, r, d⟩ ⟨k, i', r, d'⟩ = decide (i < i') := by
        rw [Bool.eq_iff_iff, prc_iff, decide_eq_true_iff]
        dsimp only; omega
      rw [e]
      go_enter Try.func104, Try.ntmps104
      go_wp2
      go_ret
      exact ⟨rfl, ((Below.refl _ _).alloc (Nat.le_refl _) _).alloc (by simp) _⟩
    · have e : prc ⟨k, i, r, d⟩ ⟨k', i', r, d'⟩ = decide (k < k') := by
        have := bne_iff_ne.1 h2
        rw [Bool.eq_iff_iff, prc_iff, decide_eq_true_iff]
        dsimp only; omega
      rw [e]
      go_enter Try.func104, Try.ntmps104
      go_wp2
      go_ret
      exact ⟨rfl, ((Below.refl _ _).alloc (Nat.le_refl _) _).alloc (by simp) _⟩
  · have e : prc ⟨k, i, r, d⟩ ⟨k', i', r', d'⟩ = decide (r < r') := by
      have := bne_iff_ne.1 h1
      rw [Bool.eq_iff_iff, prc_iff, decide_eq_true_iff]
      dsimp only; omega
    rw [e]
    go_enter Try.func104, Try.ntmps104
    go_wp2
    go_ret
    exact ⟨rfl, ((Below.refl _ _).alloc (Nat.le_refl _) _).alloc (by simp) _⟩
/-- The elements in the order s. -/
def pmL (l : List Cd) (s : Nat → Nat) : List Cd := (List.range l.length).map fun i => l.getD (s i) zcd
theorem pmL_len (l : List Cd) (s : Nat → Nat) : (pmL l s).length = l.length := by unfold pmL; simp
theorem pmL_at {l : List Cd} {s : Nat → Nat} {i : Nat} (h : i < l.length) : (pmL l s)[i]? = some (l.getD (s i) zcd) := by
  unfold pmL
  rw [List.getElem?_map, List.getElem?_range h]; rfl
theorem pmL_id (l : List Cd) : pmL l (fun i => i) = l := by
  apply List.ext_getElem?
  intro i
  by_cases h : i < l.length
  · rw [pmL_at h, List.getElem?_eq_getElem h, List.getD_eq_getElem?_getD, List.getElem?_eq_getElem h]; rfl
  · rw [List.getElem?_eq_none (by rw [pmL_len]; omega), List.getElem?_eq_none (by omega)]
theorem pmL_swp {l : List Cd} {s : Nat → Nat} {i j : Nat} (hi : i < l.length) (hj : j < l.length) : ((pmL l s).set i (l.getD (s j) zcd)).set j (l.getD (s i) zcd) = pmL l (swp s i j) := by
  apply List.ext_getElem?
  intro q
  rw [List.getElem?_set, List.getElem?_set, List.length_set, pmL_len]
  by_cases hq : q < l.length
  · rw [show (pmL l (swp s i j))[q]? = some (l.getD (swp s i j q) zcd) from pmL_at hq, show (pmL l s)[q]? = some (l.getD (s q) zcd) from pmL_at hq]
    unfold swp
    by_cases h1 : j = q
    · subst h1
      rw [if_pos rfl, if_pos hj]
      by_cases h2 : j = i
      · subst h2; rw [if_pos rfl]
      · rw [if_neg h2, if_pos rfl]
    · rw [if_neg h1]
      by_cases h2 : i = q
      · subst h2
        rw [if_pos rfl, if_pos hi, if_pos rfl]
      · rw [if_neg h2, if_neg (fun e => h2 e.symm), if_neg (fun e => h1 e.symm)]
  · rw [if_neg (show ¬ j = q by omega), if_neg (show ¬ i = q by omega), List.getElem?_eq_none (by rw [pmL_len]; omega), List.getElem?_eq_none (by rw [pmL_len]; omega)]
theorem flat4_set : ∀ (l : List Cd) (i : Nat) (c : Cd), i < l.length → flat4 (l.set i c) = ((((flat4 l).set (i * 4) (.int .i64 c.k)).set (i * 4 + 1) (.int .i64 c.i)).set (i * 4 + 2) (.int .i64 c.r)).set (i * 4 + 3) (.string c.id)
  | [], i, c, h => by simp at h
  | x :: xs, 0, c, _ => rfl
  | x :: xs, i + 1, c, h => by
    rw [List.set_cons_succ, show (i + 1) * 4 = i * 4 + 1 + 1 + 1 + 1 by omega]
    show _ :: _ :: _ :: _ :: flat4 (xs.set i c) = _
    rw [flat4_set xs i c (by simpa using h)]
    rfl
/-- The state of the sort: the block of the call's own holds the elements in the order s; what was is as it was. -/
def StP (W : World) (B g cap : Nat) (l : List Cd) (s : Nat → Nat) (u : World) : Prop := CdsAt 32 B (.slice (some ⟨g, 0, none⟩) l.length cap) (pmL l s) u ∧ Below B W u ∧ B ≤ u.heap.size
theorem StP.on {W : World} {B g cap : Nat} {l : List Cd} {s : Nat → Nat} {u u' : World} (h : StP W B g cap l s u) (hb : Below u.heap.size u u') : StP W B g cap l s u' :=
  ⟨h.1.on hb, h.2.1.trans (hb.mono h.2.2), Nat.le_trans h.2.2 hb.size⟩
theorem p20len (l : List Cd) (g cap : Nat) (u : World) : Calls Try.prog 101 #[.slice (some ⟨g, 0, none⟩) l.length cap] u fun e w' => e = .returned (.int .i64 l.length) ∧ u = w' := by
  go_enter Try.func101, Try.ntmps101
  go_wp2
  go_ret
  exact ⟨rfl, rfl⟩
theorem StP.cd {W : World} {B g cap : Nat} {l : List Cd} {s : Nat → Nat} {u : World} (h : StP W B g cap l s u) {i : Nat} (hi : i < l.length) : CdAt u g (i * 4) (l.getD (s i) zcd) := by
  obtain ⟨A, c, e, _, _, h3⟩ := h.1.cs
  obtain ⟨b, o, e1, e2⟩ := h3 i _ (pmL_at hi)
  obtain ⟨rfl, -, -⟩ : some (⟨g, 0, none⟩ : Addr) = A ∧ l.length = (pmL l s).length ∧ cap = c := by simpa using e
  obtain ⟨rfl, rfl⟩ : g = b ∧ 0 = o := by simpa using e1
  rwa [Nat.zero_add] at e2
set_option maxHeartbeats 1000000 in
set_option maxRecDepth 100000 in
/-- Less of two places of a slice, wherever it lies; what S says of the world stays. -/
theorem p20lessG (g o cap n : Nat) (i j : Nat) (c y : Cd) (S : World → Prop) (hS : ∀ u u', S u → Below u.heap.size u u' → S u') (u : World) (hi : i < n) (hj : j < n) (ci : CdAt u g (o + i * 4) c) (cj : CdAt u g (o + j * 4) y) (h : S u) :
    Calls Try.prog 102 #[.slice (some ⟨g, o, none⟩) n cap, .int .i64 i, .int .i64 j] u fun e w' => e = .returned (.bool (prc c y)) ∧ S w' := by
  have HP := Lib.hid (fun u => p20pr_any c y u)
  obtain ⟨c1, c2, c3, c4⟩ := c
  obtain ⟨y1, y2, y3, y4⟩ := y
  generalize hp : prc ⟨c1, c2, c3, c4⟩ ⟨y1, y2, y3, y4⟩ = r at *
  clear hp
  obtain ⟨q0, q1, q2, q3⟩ := ci
  obtain ⟨r0, r1, r2, r3⟩ := cj
  have SH := Lib.hid h
  have HSS := Lib.hid hS
  clear h hS
  go_enter Try.func102, Try.ntmps102
  go_wp2_with fail
  have Hs : Hid ((u.drew.cell? ⟨g, o + i * 4, none⟩ = some (.int .i64 c1) ∧ u.drew.cell? ⟨g, o + i * 4 + 1, none⟩ = some (.int .i64 c2) ∧ u.drew.cell? ⟨g, o + i * 4 + 2, none⟩ = some (.int .i64 c3) ∧ u.drew.cell? ⟨g, o + i * 4 + 3, none⟩ = some (.string c4)) ∧ (u.drew.cell? ⟨g, o + j * 4, none⟩ = some (.int .i64 y1) ∧ u.drew.cell? ⟨g, o + j * 4 + 1, none⟩ = some (.int .i64 y2) ∧ u.drew.cell? ⟨g, o + j * 4 + 2, none⟩ = some (.int .i64 y3) ∧ u.drew.cell? ⟨g, o + j * 4 + 3, none⟩ = some (.string y4)) ∧ S u.drew) := Lib.hid ⟨⟨q0, q1, q2, q3⟩, ⟨r0, r1, r2, r3⟩, HSS.out _ _ SH.out (below_dn (Below.refl _ _) 1)⟩
  have XP := Lib.hid (fun (u : World) (hu : (u.cell? ⟨g, o + i * 4, none⟩ = some (.int .i64 c1) ∧ u.cell? ⟨g, o + i * 4 + 1, none⟩ = some (.int .i64 c2) ∧ u.cell? ⟨g, o + i * 4 + 2, none⟩ = some (.int .i64 c3) ∧ u.cell? ⟨g, o + i * 4 + 3, none⟩ = some (.string c4)) ∧ (u.cell? ⟨g, o + j * 4, none⟩ = some (.int .i64 y1) ∧ u.cell? ⟨g, o + j * 4 + 1, none⟩ = some (.int .i64 y2) ∧ u.cell? ⟨g, o + j * 4 + 2, none⟩ = some (.int .i64 y3) ∧ u.cell? ⟨g, o + j * 4 + 3, none⟩ = some (.string y4)) ∧ S u) => (HP.out u).mono (R' := fun e w' => e = .returned (.bool r) ∧ (w'.cell? ⟨g, o + i * 4, none⟩ = some (.int .i64 c1) ∧ w'.cell? ⟨g, o + i * 4 + 1, none⟩ = some (.int .i64 c2) ∧ w'.cell? ⟨g, o + i * 4 + 2, none⟩ = some (.int .i64 c3) ∧ w'.cell? ⟨g, o + i * 4 + 3, none⟩ = some (.string c4)) ∧ (w'.cell? ⟨g, o + j * 4, none⟩ = some (.int .i64 y1) ∧ w'.cell? ⟨g, o + j * 4 + 1, none⟩ = some (.int .i64 y2) ∧ w'.cell? ⟨g, o + j * 4 + 2, none⟩ = some (.int .i64 y3) ∧ w'.cell? ⟨g, o + j * 4 + 3, none⟩ = some (.string y4)) ∧ S w') (fun e w' ⟨he, hb⟩ => ⟨he, ⟨⟨cell_below hu.1.1 hb, cell_below hu.1.2.1 hb, cell_below hu.1.2.2.1 hb, cell_below hu.1.2.2.2 hb⟩, ⟨cell_below hu.2.1.1 hb, cell_below hu.2.1.2.1 hb, cell_below hu.2.1.2.2.1 hb, cell_below hu.2.1.2.2.2 hb⟩, HSS.out _ _ hu.2.2 hb⟩⟩))
  refine wp_region_held_drew (S := fun u => (u.cell? ⟨g, o + i * 4, none⟩ = some (.int .i64 c1) ∧ u.cell? ⟨g, o + i * 4 + 1, none⟩ = some (.int .i64 c2) ∧ u.cell? ⟨g, o + i * 4 + 2, none⟩ = some (.int .i64 c3) ∧ u.cell? ⟨g, o + i * 4 + 3, none⟩ = some (.string c4)) ∧ (u.cell? ⟨g, o + j * 4, none⟩ = some (.int .i64 y1) ∧ u.cell? ⟨g, o + j * 4 + 1, none⟩ = some (.int .i64 y2) ∧ u.cell? ⟨g, o + j * 4 + 2, none⟩ = some (.int .i64 y3) ∧ u.cell? ⟨g, o + j * 4 + 3, none⟩ = some (.string y4)) ∧ S u) (by kernel_rfl) Hs.out (fun hHeld => ?_)
  refine wpAnyH_take (i := 0) (oi := { dst := some 7, op := _, type := _, pos := _, after := _, guard := _ }) (v := ?v1_0) rfl (by kernel_rfl) (by kernel_rfl) (by kernel_rfl) (fun _ _ _ h => h) (Or.inl ⟨by rfl, ?hy1_0⟩) hHeld ?_
  case hy1_0 => (intro w hSw; (try dsimp only at hSw); go_simp; try with_reducible rfl)
  simp only [Act.put, List.setIfInBounds_toArray, List.set_cons_zero, List.set_cons_succ]
  refine wpAnyH_take (i := 1) (oi := { dst := some 8, op := _, type := _, pos := _, after := _, guard := _ }) (v := ?v1_1) rfl (by kernel_rfl) (by kernel_rfl) (by kernel_rfl) (fun _ _ _ h => h) (Or.inl ⟨by rfl, ?hy1_1⟩) hHeld ?_
  case hy1_1 => (intro w hSw; (try dsimp only at hSw); go_simp; try with_reducible rfl)
  simp only [Act.put, List.setIfInBounds_toArray, List.set_cons_zero, List.set_cons_succ]
  refine wpAnyH_take (i := 2) (oi := { dst := some 9, op := _, type := _, pos := _, after := _, guard := _ }) (v := ?v1_2) rfl (by kernel_rfl) (by kernel_rfl) (by kernel_rfl) (fun _ _ _ h => h) (Or.inl ⟨by rfl, ?hy1_2⟩) hHeld ?_
  case hy1_2 => (intro w hSw; (try dsimp only at hSw); go_simp; try with_reducible rfl)
  simp only [Act.put, List.setIfInBounds_toArray, List.set_cons_zero, List.set_cons_succ]
  refine wpAnyH_take (i := 3) (oi := { dst := some 10, op := _, type := _, pos := _, after := _, guard := _ }) (v := ?v1_3) rfl (by kernel_rfl) (by kernel_rfl) (by kernel_rfl) (fun _ _ _ h => h) (Or.inl ⟨by rfl, ?hy1_3⟩) hHeld ?_
  case hy1_3 => (intro w hSw; (try dsimp only at hSw); go_simp; try with_reducible rfl)
  simp only [Act.put, List.setIfInBounds_toArray, List.set_cons_zero, List.set_cons_succ]
  refine wpAnyH_take (i := 4) (oi := { dst := some 11, op := _, type := _, pos := _, after := _, guard := _ }) (v := ?v1_4) rfl (by kernel_rfl) (by kernel_rfl) (by kernel_rfl) (fun _ _ _ h => h) (Or.inl ⟨by rfl, ?hy1_4⟩) hHeld ?_
  case hy1_4 => (intro w hSw; (try dsimp only at hSw); go_simp; try with_reducible rfl)
  simp only [Act.put, List.setIfInBounds_toArray, List.set_cons_zero, List.set_cons_succ]
  refine wpAnyH_take (i := 5) (oi := { dst := some 12, op := _, type := _, pos := _, after := _, guard := _ }) (v := ?v1_5) rfl (by kernel_rfl) (by kernel_rfl) (by kernel_rfl) (fun _ _ _ h => h) (Or.inl ⟨by rfl, ?hy1_5⟩) hHeld ?_
  case hy1_5 => (intro w hSw; (try dsimp only at hSw); go_simp; try with_reducible rfl)
  simp only [Act.put, List.setIfInBounds_toArray, List.set_cons_zero, List.set_cons_succ]
  refine wpAnyH_take (i := 6) (oi := { dst := some 13, op := _, type := _, pos := _, after := _, guard := _ }) (v := ?v1_6) rfl (by kernel_rfl) (by kernel_rfl) (by kernel_rfl) (fun _ _ _ h => h) (Or.inl ⟨by rfl, ?hy1_6⟩) hHeld ?_
  case hy1_6 => (intro w hSw; (try dsimp only at hSw); go_simp; try with_reducible rfl)
  simp only [Act.put, List.setIfInBounds_toArray, List.set_cons_zero, List.set_cons_succ]
  refine wpAnyH_take (i := 7) (oi := { dst := some 14, op := _, type := _, pos := _, after := _, guard := _ }) (v := ?v1_7) rfl (by kernel_rfl) (by kernel_rfl) (by kernel_rfl) (fun _ _ _ h => h) (Or.inl ⟨by rfl, ?hy1_7⟩) hHeld ?_
  case hy1_7 => (intro w hSw; (try dsimp only at hSw); go_simp; try with_reducible rfl)
  simp only [Act.put, List.setIfInBounds_toArray, List.set_cons_zero, List.set_cons_succ]
  refine wpAnyH_ready (rs := [8]) (by kernel_rfl) (by simp) ?_
  refine AllReadyH.cons (o := { dst := some 15, op := _, type := _, pos := _, after := _, guard := _ }) rfl (fun K hK => ?_) AllReadyH.nil
  go_simp
  go_at_call 104
  refine (XP.out _ (by assumption)).mono ?_
  rintro e1 w1 ⟨rfl, hs1⟩
  refine hK.out _ _ hs1 (fun hHeld => ?_)
  clear hK K
  refine wpAnyH_take (i := 9) (oi := { dst := some 6, op := _, type := _, pos := _, after := _, guard := _ }) (v := ?v1_9) rfl (by kernel_rfl) (by kernel_rfl) (by kernel_rfl) (fun _ _ _ h => h) (Or.inl ⟨by rfl, ?hy1_9⟩) hHeld ?_
  case hy1_9 => (intro w hSw; (try dsimp only at hSw); go_simp; try with_reducible rfl)
  simp only [Act.put, List.setIfInBounds_toArray, List.set_cons_zero, List.set_cons_succ]
  refine wpAnyH_done (by kernel_rfl) ?_ _
  have S1 := Lib.hid hs1.2.2
  clear hs1 Hs XP
  go_wp2_with fail
  go_ret
  exact ⟨rfl, S1.out⟩
theorem p20less (W : World) (B g cap : Nat) (l : List Cd) (s : Nat → Nat) (i j : Nat) (u : World) (hi : i < l.length) (hj : j < l.length) (h : StP W B g cap l s u) :
    Calls Try.prog 102 #[.slice (some ⟨g, 0, none⟩) l.length cap, .int .i64 i, .int .i64 j] u fun e w' => e = .returned (.bool (ltl l (s i) (s j))) ∧ StP W B g cap l s w' :=
  p20lessG g 0 cap l.length i j _ _ (StP W B g cap l s) (fun _ _ h hb => h.on hb) u hi hj (by rw [Nat.zero_add]; exact h.cd hi) (by rw [Nat.zero_add]; exact h.cd hj) h
theorem cell_same {w : World} {g a b : Nat} {x z : Value} (ha : w.cell? ⟨g, a, none⟩ = some z) (hb : w.cell? ⟨g, b, none⟩ = some x) : (w.setCell ⟨g, a, none⟩ x).cell? ⟨g, b, none⟩ = some x := by
  by_cases h : a = b
  · subst h
    exact World.cell?_setCell_same _ _ _ ha
  · rw [World.cell?_setCell_other _ _ _ _ (by simp)]; exact hb
theorem cell_oth {w : World} {g a b : Nat} {x z : Value} (h : a ≠ b) (hb : w.cell? ⟨g, b, none⟩ = some x) : (w.setCell ⟨g, a, none⟩ z).cell? ⟨g, b, none⟩ = some x := by
  rw [World.cell?_setCell_other _ _ _ _ (by simp)]; exact hb
/-- Four cells written at a place that the four at another place hold already: these are as they were. -/
theorem four_same {w : World} {g i j : Nat} {x0 x1 x2 x3 z0 z1 z2 z3 : Value} (a0 : w.cell? ⟨g, i * 4, none⟩ = some z0) (a1 : w.cell? ⟨g, i * 4 + 1, none⟩ = some z1) (a2 : w.cell? ⟨g, i * 4 + 2, none⟩ = some z2) (a3 : w.cell? ⟨g, i * 4 + 3, none⟩ = some z3)
    (b0 : w.cell? ⟨g, j * 4, none⟩ = some x0) (b1 : w.cell? ⟨g, j * 4 + 1, none⟩ = some x1) (b2 : w.cell? ⟨g, j * 4 + 2, none⟩ = some x2) (b3 : w.cell? ⟨g, j * 4 + 3, none⟩ = some x3) :
    let u := (((w.setCell ⟨g, i * 4, none⟩ x0).setCell ⟨g, i * 4 + 1, none⟩ x1).setCell ⟨g, i * 4 + 2, none⟩ x2).setCell ⟨g, i * 4 + 3, none⟩ x3
    u.cell? ⟨g, j * 4, none⟩ = some x0 ∧ u.cell? ⟨g, j * 4 + 1, none⟩ = some x1 ∧ u.cell? ⟨g, j * 4 + 2, none⟩ = some x2 ∧ u.cell? ⟨g, j * 4 + 3, none⟩ = some x3 := by
  refine ⟨?_, ?_, ?_, ?_⟩
  · exact cell_oth (by omega) (cell_oth (by omega) (cell_oth (by omega) (cell_same a0 b0)))
  · exact cell_oth (by omega) (cell_oth (by omega) (cell_same (cell_oth (by omega) a1) (cell_oth (by omega) b1)))
  · exact cell_oth (by omega) (cell_same (cell_oth (by omega) (cell_oth (by omega) a2)) (cell_oth (by omega) (cell_oth (by omega) b2)))
  · exact cell_same (cell_oth (by omega) (cell_oth (by omega) (cell_oth (by omega) a3))) (cell_oth (by omega) (cell_oth (by omega) (cell_oth (by omega) b3)))
theorem StP.fz {W : World} {B g cap : Nat} {l : List Cd} {s : Nat → Nat} {u : World} (h : StP W B g cap l s u) (j : Nat) : u.frozen? ⟨g, j, none⟩ = false := by
  have h' := h.1
  rw [CdsAt, pmL_len] at h'
  exact World.ownsRow.frozenAt h' j
set_option maxHeartbeats 1000000 in
set_option maxRecDepth 100000 in
theorem p20swap (W : World) (B g cap : Nat) (l : List Cd) (s : Nat → Nat) (i j : Nat) (u : World) (hi : i < l.length) (hj : j < l.length) (h : StP W B g cap l s u) :
    Calls Try.prog 103 #[.slice (some ⟨g, 0, none⟩) l.length cap, .int .i64 i, .int .i64 j] u fun e w' => e = .returned (.tuple #[]) ∧ StP W B g cap l (swp s i j) w' := by
  have ci := h.cd hi
  have cj := h.cd hj
  have hsw := Lib.hid (pmL_swp (s := s) hi hj)
  generalize l.getD (s i) zcd = c at *
  generalize l.getD (s j) zcd = y at *
  obtain ⟨c1, c2, c3, c4⟩ := c
  obtain ⟨y1, y2, y3, y4⟩ := y
  obtain ⟨q0, q1, q2, q3⟩ := ci
  obtain ⟨r0, r1, r2, r3⟩ := cj
  have fi0 := h.fz (i * 4)
  have fi1 := h.fz (i * 4 + 1)
  have fi2 := h.fz (i * 4 + 2)
  have fi3 := h.fz (i * 4 + 3)
  have fj0 := h.fz (j * 4)
  have fj1 := h.fz (j * 4 + 1)
  have fj2 := h.fz (j * 4 + 2)
  have fj3 := h.fz (j * 4 + 3)
  obtain ⟨g0, g1, g2, g3⟩ := four_same q0 q1 q2 q3 r0 r1 r2 r3
  have d0 : ((((u.setCell ⟨g, i * 4, none⟩ (.int .i64 y1)).setCell ⟨g, i * 4 + 1, none⟩ (.int .i64 y2)).setCell ⟨g, i * 4 + 2, none⟩ (.int .i64 y3)).setCell ⟨g, i * 4 + 3, none⟩ (.string y4)).drew.cell? ⟨g, j * 4, none⟩ = some (.int .i64 y1) := g0
  have d1 : ((((u.setCell ⟨g, i * 4, none⟩ (.int .i64 y1)).setCell ⟨g, i * 4 + 1, none⟩ (.int .i64 y2)).setCell ⟨g, i * 4 + 2, none⟩ (.int .i64 y3)).setCell ⟨g, i * 4 + 3, none⟩ (.string y4)).drew.cell? ⟨g, j * 4 + 1, none⟩ = some (.int .i64 y2) := g1
  have d2 : ((((u.setCell ⟨g, i * 4, none⟩ (.int .i64 y1)).setCell ⟨g, i * 4 + 1, none⟩ (.int .i64 y2)).setCell ⟨g, i * 4 + 2, none⟩ (.int .i64 y3)).setCell ⟨g, i * 4 + 3, none⟩ (.string y4)).drew.cell? ⟨g, j * 4 + 2, none⟩ = some (.int .i64 y3) := g2
  have d3 : ((((u.setCell ⟨g, i * 4, none⟩ (.int .i64 y1)).setCell ⟨g, i * 4 + 1, none⟩ (.int .i64 y2)).setCell ⟨g, i * 4 + 2, none⟩ (.int .i64 y3)).setCell ⟨g, i * 4 + 3, none⟩ (.string y4)).drew.cell? ⟨g, j * 4 + 3, none⟩ = some (.string y4) := g3
  have SH := Lib.hid h
  clear h
  dsimp only at *
  go_enter Try.func103, Try.ntmps103
  go_wp2_with fail
  go_region
  go_end0
  refine ⟨rfl, ?_⟩
  have K := SH.out.1
  rw [CdsAt, pmL_len] at K
  have K1 := (World.ownsRow.stored K (i * 4) (.int .i64 y1)).1
  have K2 := (World.ownsRow.stored K1 (i * 4 + 1) (.int .i64 y2)).1
  have K3 := (World.ownsRow.stored K2 (i * 4 + 2) (.int .i64 y3)).1
  have K4 := (World.ownsRow.stored K3 (i * 4 + 3) (.string y4)).1
  have L1 := (World.ownsRow.stored K4 (j * 4) (.int .i64 c1)).1
  have L2 := (World.ownsRow.stored L1 (j * 4 + 1) (.int .i64 c2)).1
  have L3 := (World.ownsRow.stored L2 (j * 4 + 2) (.int .i64 c3)).1
  have L4 := (World.ownsRow.stored L3 (j * 4 + 3) (.string c4)).1
  have hBg : B ≤ g := (World.ownsRow.lt K g rfl).1
  have e : flat4 (pmL l (swp s i j)) = _ := congrArg flat4 hsw.out.symm
  rw [flat4_set _ j _ (by rw [List.length_set, pmL_len]; exact hj), flat4_set _ i _ (by rw [pmL_len]; exact hi)] at e
  refine ⟨?_, ?_, ?_⟩
  · rw [CdsAt, pmL_len, e]; exact World.ownsRow.drew L4
  · exact below_dn ((((((((SH.out.2.1.setCell (p := ⟨g, i * 4, none⟩) hBg _).setCell (p := ⟨g, i * 4 + 1, none⟩) hBg _).setCell (p := ⟨g, i * 4 + 2, none⟩) hBg _).setCell (p := ⟨g, i * 4 + 3, none⟩) hBg _).setCell (p := ⟨g, j * 4, none⟩) hBg _).setCell (p := ⟨g, j * 4 + 1, none⟩) hBg _).setCell (p := ⟨g, j * 4 + 2, none⟩) hBg _).setCell (p := ⟨g, j * 4 + 3, none⟩) hBg _) 1
  · have := SH.out.2.2; simpa using this
theorem p20si (W : World) (B g cap : Nat) (l : List Cd) (hl : l.length ≤ 1000) : SI l.length (ltl l) 82 (.slice (some ⟨g, 0, none⟩) l.length cap) 102 103 (fun s u => StP W B g cap l s u) where
  bd := by omega
  sw := ltl_sw l
  mL := fun j u => by kernel_rfl
  mS := fun j u => by kernel_rfl
  eL := fun a u => by kernel_rfl
  eS := fun a u => by kernel_rfl
  L := fun s i j u hi hj h => p20less W B g cap l s i j u hi hj h
  S := fun s i j u hi hj h => p20swap W B g cap l s i j u hi hj h
theorem p20stable (W : World) (B g cap : Nat) (l : List Cd) (hl : l.length ≤ 1000) (u : World) (h : StP W B g cap l (fun i => i) u) : Calls Try.prog 44 #[.iface 82 (.slice (some ⟨g, 0, none⟩) l.length cap)] u fun e w' => e = .returned (.tuple #[]) ∧ CdsAt 32 B (.slice (some ⟨g, 0, none⟩) l.length cap) (srtR l) w' ∧ Below B W w' := by
  refine (sort_Stable (p20si W B g cap l hl) 101 u h (fun j u => by kernel_rfl) (fun a u => by kernel_rfl) (fun u hu => (p20len l g cap u).mono fun e w' ⟨he, hw⟩ => ⟨he, hw ▸ hu⟩)).mono ?_
  rintro e w' ⟨rfl, t, ht, hg, hs⟩
  refine ⟨rfl, ?_, ht.2.1⟩
  have e : pmL l t = srtR l := by
    apply List.ext_getElem?
    intro q
    by_cases hq : q < l.length
    · rw [pmL_at hq, srtR_at hg hs hq]
    · rw [List.getElem?_eq_none (by rw [pmL_len]; omega), List.getElem?_eq_none (by rw [srtR_len]; omega)]
  rw [← e]; exact ht.1
theorem own_in4 {t : TypeId} {B : Nat} {v : Value} {n : Nat} {cs : List Value} {w : World} (h : w.ownsRow B t 4 v n cs) (h0 : v ≠ .slice none 0 0) : ∃ g cap, v = .slice (some ⟨g, 0, none⟩) n cap ∧ B ≤ g ∧ g < w.heap.size := by
  rcases h.2 with ⟨rfl, hn⟩ | ⟨g, cap, cur, rfl, hb, hg, hnc, hcm, hcs, htake⟩
  · exact absurd rfl h0
  · exact ⟨g, cap, rfl, hb, (Array.getElem?_eq_some_iff.1 hg).1⟩
theorem CsAt.news {W : World} {l : List Cd} {cap b o : Nat} (h : CsAt W (.slice (some ⟨b, o, none⟩) l.length cap) l) : ∀ j u, (flat4 l)[j]? = some u → W.cell? ((⟨b, o, none⟩ : Addr).add j) = some u := by
  obtain ⟨A', cap', e, _, _, h3⟩ := h
  obtain ⟨rfl, -, rfl⟩ : some (⟨b, o, none⟩ : Addr) = A' ∧ l.length = l.length ∧ cap = cap' := by simpa using e
  intro j u hj
  have hlen := (List.getElem?_eq_some_iff.1 hj).1
  rw [flat4_len] at hlen
  obtain ⟨c, hc⟩ : ∃ c, l[j / 4]? = some c := ⟨_, List.getElem?_eq_getElem (by omega)⟩
  obtain ⟨b', o', e1, hcd⟩ := h3 (j / 4) c hc
  obtain ⟨rfl, rfl⟩ : b = b' ∧ o = o' := by simpa using e1
  obtain ⟨f0, f1, f2, f3⟩ := flat4_at l (j / 4) c hc
  have hadd : (⟨b, o, none⟩ : Addr).add j = ⟨b, o + j, none⟩ := by unfold Addr.add; split <;> simp_all
  rw [hadd]
  have hm : j = j / 4 * 4 ∨ j = j / 4 * 4 + 1 ∨ j = j / 4 * 4 + 2 ∨ j = j / 4 * 4 + 3 := by omega
  rcases hm with hm | hm | hm | hm
  · rw [hm, f0] at hj; rw [← hj, hm, ← hm]; rw [show o + j = o + j / 4 * 4 by omega]; exact hcd.c0
  · rw [hm, f1] at hj; rw [← hj]; rw [show o + j = o + j / 4 * 4 + 1 by omega]; exact hcd.c1
  · rw [hm, f2] at hj; rw [← hj]; rw [show o + j = o + j / 4 * 4 + 2 by omega]; exact hcd.c2
  · rw [hm, f3] at hj; rw [← hj]; rw [show o + j = o + j / 4 * 4 + 3 by omega]; exact hcd.c3
set_option maxRecDepth 100000 in
theorem p20so_some (l : List Cd) (b o c : Nat) (W : World) (hl : l.length ≤ 1000) (h0 : 0 < l.length) (h : CsAt W (.slice (some ⟨b, o, none⟩) l.length c) l) : Calls Try.prog 31 #[.slice (some ⟨b, o, none⟩) l.length c] W (RetC W (srtR l)) := by
  obtain ⟨i0, hi, hz0, hz1, hz2⟩ := info_parts infoCd
  have BA := Lib.hid ((Below.refl W.heap.size W).alloc (Nat.le_refl _) (.cells #[] 32))
  have HN := Lib.hid (h.on BA.out).news
  have HM := Lib.hid (World.ownsRow_made (base := W.heap.size) (e := 32) (size := 4) W #[] 0 (Nat.le_refl _) (Nat.zero_le _) rfl)
  have H1 := Lib.hid (flat4_one l)
  have HLn := Lib.hid (flat4_len l)
  clear h
  go_enter Try.func31, Try.ntmps31
  go_wp2_with (at_builtin; refine wpList_append_own _ rfl _ _ 37 rfl W.heap.size 32 i0 (cdv zcd) 4 40 Try.underlying37 hi hz0 hz1 hz2 rfl (by decide) (.slice (some ⟨W.heap.size, 0, none⟩) 0 0) 0 [] rfl HM.out ⟨b, o, none⟩ l.length c (flat4 l) rfl HLn.out HN.out H1.out (by unfold maxLen; omega) (by omega) (by simp) ?_; intro v' w1 hown hgrow hnn; rw [Nat.zero_add, List.nil_append] at hown; obtain ⟨g, cap, rfl, hg1, hg2⟩ := own_in4 hown (fun e => by have := (hnn.1 e).1; cases this); have B1 := Lib.hid (BA.out.grown hgrow (by simp) (fun k e => by cases e; exact Nat.le_refl _)); have V1 := Lib.hid hown; clear hown hgrow hnn)
  refine (p20stable W W.heap.size g cap l hl w1 ⟨by rw [pmL_id]; exact V1.out, B1.out, B1.out.size⟩).mono ?_
  rintro e w2 ⟨rfl, hd, hb⟩
  have V2 := Lib.hid hd
  have B2 := Lib.hid hb
  clear hd hb
  go_wp2_with fail
  go_ret
  exact ⟨_, rfl, by have := V2.out.cs; exact this, B2.out⟩
theorem run_app_none {P : Program} {w : World} (t ty e : TypeId) (i : TypeInfo) (ht : P.underlying t = some (.slice e)) (hi : P.info? e = some i) (g cap c : Nat) :
    (Builtin.append_ #[t, t] ty #[.slice (some ⟨g, 0, none⟩) 0 cap, .slice none 0 c]).run P w = .ok (.slice (some ⟨g, 0, none⟩) 0 cap) w := by
  simp [Builtin.append_, run_underlying ht, sizeOf, typeInfo, hi, Builtin.lenOf, Builtin.firstCells, storeCells]
/-- Nothing appended to an empty list of the call's own. -/
theorem list_app_none {P : Program} {w : World} {ops : Array Oper} {rest : List Oper} {o : Oper} {a : Act} {Q : Exit → Act → World → Prop} (hgd : o.guard = none) (s x : Operand) (t : TypeId)
    (ho : o.op = .call { callee := .builtin .append, args := #[s, x], argTypes := #[t, t] })
    (e : TypeId) (i : TypeInfo) (ht : P.underlying t = some (.slice e)) (hi : P.info? e = some i) (g cap c : Nat) (hs : a.eval s = .slice (some ⟨g, 0, none⟩) 0 cap) (hx : a.eval x = .slice none 0 c)
    (h : wpList P ops Q rest (a.put o.dst (.slice (some ⟨g, 0, none⟩) 0 cap)) w) : wpList P ops Q (o :: rest) a w := by
  refine wpList_plain hgd fun K hK => ?_
  have hrun := run_app_none (P := P) (w := w) t o.type e i ht hi g cap c
  unfold Oper.wp
  simp [execOp, ho, resolve, invoke, builtin, hs, hx, hrun, Result.andThen]
  exact hK _ _ h
theorem p20so_nil (c : Nat) (W : World) : Calls Try.prog 31 #[.slice none 0 c] W (RetC W (srtR [])) := by
  obtain ⟨i0, hi, hz0, hz1, hz2⟩ := info_parts infoCd
  have BA := Lib.hid ((Below.refl W.heap.size W).alloc (Nat.le_refl _) (.cells #[] 32))
  have HM := Lib.hid (World.ownsRow_made (base := W.heap.size) (e := 32) (size := 4) W #[] 0 (Nat.le_refl _) (Nat.zero_le _) rfl)
  go_enter Try.func31, Try.ntmps31
  go_wp2_with (at_builtin; refine list_app_none rfl _ _ 37 rfl 32 i0 Try.underlying37 hi W.heap.size 0 c rfl rfl ?_)
  refine (p20stable W W.heap.size W.heap.size 0 [] (Nat.zero_le _) _ ⟨HM.out, BA.out, BA.out.size⟩).mono ?_
  rintro e w2 ⟨rfl, hd, hb⟩
  have V2 := Lib.hid hd
  have B2 := Lib.hid hb
  clear hd hb
  go_wp2_with fail
  go_ret
  exact ⟨_, rfl, by have := V2.out.cs; exact this, B2.out⟩
theorem p20so_emp (ad : Addr) (c : Nat) (W : World) : Calls Try.prog 31 #[.slice (some ad) 0 c] W (RetC W (srtR [])) := by
  obtain ⟨i0, hi, hz0, hz1, hz2⟩ := info_parts infoCd
  have BA := Lib.hid ((Below.refl W.heap.size W).alloc (Nat.le_refl _) (.cells #[] 32))
  have HM := Lib.hid (World.ownsRow_made (base := W.heap.size) (e := 32) (size := 4) W #[] 0 (Nat.le_refl _) (Nat.zero_le _) rfl)
  go_enter Try.func31, Try.ntmps31
  go_wp2_with (at_builtin; refine wpList_append_own _ rfl _ _ 37 rfl W.heap.size 32 i0 (cdv zcd) 4 40 Try.underlying37 hi hz0 hz1 hz2 rfl (by decide) (.slice (some ⟨W.heap.size, 0, none⟩) 0 0) 0 [] rfl HM.out ad 0 c [] rfl rfl (fun j u h => by simp at h) (fun u h => by simp at h) (by decide) (by omega) (by simp) ?_; intro v' w1 hown hgrow hnn; rw [Nat.zero_add, List.nil_append] at hown; obtain ⟨g, cap, rfl, hg1, hg2⟩ := own_in4 hown (fun e => by have := (hnn.1 e).1; cases this); have B1 := Lib.hid (BA.out.grown hgrow (by simp) (fun k e => by cases e; exact Nat.le_refl _)); have V1 := Lib.hid hown; clear hown hgrow hnn)
  refine (p20stable W W.heap.size g cap [] (Nat.zero_le _) w1 ⟨V1.out, B1.out, B1.out.size⟩).mono ?_
  rintro e w2 ⟨rfl, hd, hb⟩
  have V2 := Lib.hid hd
  have B2 := Lib.hid hb
  clear hd hb
  go_wp2_with fail
  go_ret
  exact ⟨_, rfl, by have := V2.out.cs; exact this, B2.out⟩
theorem p20so_any (v : Value) (l : List Cd) (W : World) (hl : l.length ≤ 1000) (h : CsAt W v l) : Calls Try.prog 31 #[v] W (RetC W (srtR l)) := by
  rcases Nat.eq_zero_or_pos l.length with h0 | h0
  · obtain rfl := List.eq_nil_of_length_eq_zero h0
    obtain ⟨A, c, rfl, _⟩ := h
    cases A with
    | none => exact p20so_nil c W
    | some ad => exact p20so_emp ad c W
  · have h' := h
    obtain ⟨A, c, rfl, _, _, h3⟩ := h
    obtain ⟨b, o, rfl, _⟩ := h3 0 _ (List.getElem?_eq_getElem h0)
    exact p20so_some l b o c W hl h0 h'
theorem CsAt.cd {W : World} {l : List Cd} {c b o : Nat} (h : CsAt W (.slice (some ⟨b, o, none⟩) l.length c) l) {i : Nat} (hi : i < l.length) : CdAt W b (o + i * 4) (l.getD i zcd) := by
  obtain ⟨A, c', e, _, _, h3⟩ := h
  obtain ⟨b', o', e1, e2⟩ := h3 i (l.getD i zcd) (by rw [List.getD_eq_getElem?_getD, List.getElem?_eq_getElem hi]; rfl)
  obtain ⟨rfl, -, -⟩ : some (⟨b, o, none⟩ : Addr) = A ∧ l.length = l.length ∧ c = c' := by simpa using e
  obtain ⟨rfl, rfl⟩ : b = b' ∧ o = o' := by simpa using e1
  exact e2
end Go.Proofs.Ytnofmlkjagdklaa
