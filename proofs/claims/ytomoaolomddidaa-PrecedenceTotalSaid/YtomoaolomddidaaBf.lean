/- Candidates in memory: four cells each (Kind, Index, Rank, ID); a slice of them, whoever made it; one of the call's own. The law's forward and back. -/
import Derived.Test.YtomoaolomddidaaKa
import Derived.Test.YtomoaolomddidaaRows
import Derived.IntWalk
import Derived.Test.YtomoaolomddidaaKr
import Derived.Test.YtomoaolomddidaaKn
import Derived.LoopTactic
import Derived.Deep.RegionHeld3
import Derived.Deep.AppendLies
import Derived.OwnWalk
import Derived.Maps.AppendAt
namespace Go.Proofs.Ytomoaolomddidaa
open Go.RowKit

structure Cd where
  k : Int
  i : Int
  r : Int
  id : ByteArray
abbrev Cd.vals (c : Cd) : Array Value := #[.int .i64 c.k, .int .i64 c.i, .int .i64 c.r, .string c.id]
abbrev cdv (c : Cd) : Value := .agg c.vals
def zcd : Cd := ⟨0, 0, 0, ⟨#[]⟩⟩
def flat4 : List Cd → List Value
  | [] => []
  | c :: cs => .int .i64 c.k :: .int .i64 c.i :: .int .i64 c.r :: .string c.id :: flat4 cs
theorem flat4_app : ∀ xs ys : List Cd, flat4 (xs ++ ys) = flat4 xs ++ flat4 ys
  | [], _ => rfl
  | x :: xs, ys => by simp [flat4, flat4_app xs ys]
theorem flat4_len : ∀ xs : List Cd, (flat4 xs).length = xs.length * 4
  | [] => rfl
  | x :: xs => by simp [flat4, flat4_len xs]; omega
theorem flat4_one : ∀ l : List Cd, ∀ u ∈ flat4 l, u.oneCell' = true
  | [], u, h => by cases h
  | c :: cs, u, h => by
    simp only [flat4, List.mem_cons] at h
    rcases h with rfl | rfl | rfl | rfl | h
    · rfl
    · rfl
    · rfl
    · rfl
    · exact flat4_one cs u h
/-- A candidate lies in memory from a place on. -/
structure CdAt (W : World) (b p : Nat) (c : Cd) : Prop where
  c0 : W.cell? ⟨b, p, none⟩ = some (.int .i64 c.k)
  c1 : W.cell? ⟨b, p + 1, none⟩ = some (.int .i64 c.i)
  c2 : W.cell? ⟨b, p + 2, none⟩ = some (.int .i64 c.r)
  c3 : W.cell? ⟨b, p + 3, none⟩ = some (.string c.id)
theorem CdAt.on {W W' : World} {b p : Nat} {c : Cd} (h : CdAt W b p c) (hb : Below W.heap.size W W') : CdAt W' b p c :=
  ⟨cell_below h.c0 hb, cell_below h.c1 hb, cell_below h.c2 hb, cell_below h.c3 hb⟩
theorem CdAt.lt {W : World} {b p : Nat} {c : Cd} (h : CdAt W b p c) : b < W.heap.size := World.block_lt_of_cell? W _ h.c0
/-- A slice of candidates, whoever made it. -/
def CsAt (W : World) (v : Value) (l : List Cd) : Prop :=
  ∃ (A : Option Addr) (cap : Nat), v = .slice A l.length cap ∧ l.length ≤ cap ∧ cap ≤ maxLen ∧ ∀ (i : Nat) (c : Cd), l[i]? = some c → ∃ b o, A = some ⟨b, o, none⟩ ∧ CdAt W b (o + i * 4) c
theorem CsAt.on {W W' : World} {v : Value} {l : List Cd} (h : CsAt W v l) (hb : Below W.heap.size W W') : CsAt W' v l := by
  obtain ⟨A, cap, hv, h1, h2, h3⟩ := h
  refine ⟨A, cap, hv, h1, h2, fun i c hc => ?_⟩
  obtain ⟨b, o, e1, e2⟩ := h3 i c hc
  exact ⟨b, o, e1, e2.on hb⟩
/-- One of the call's own, of element type t. -/
def CdsAt (t : TypeId) (B : Nat) (v : Value) (l : List Cd) (w : World) : Prop := w.ownsRow B t 4 v l.length (flat4 l)
theorem CdsAt.on {t B : Nat} {v : Value} {xs : List Cd} {w w' : World} (h : CdsAt t B v xs w) (hb : Below w.heap.size w w') : CdsAt t B v xs w' :=
  World.ownsRow.kept h (grown_of_below hb none) (by cases hv : v.ownBlock <;> simp)
theorem CdsAt.al {t B : Nat} {v : Value} {xs : List Cd} {w : World} (h : CdsAt t B v xs w) (o : Obj) : CdsAt t B v xs (w.alloc o) := h.on ((Below.refl _ _).alloc (Nat.le_refl _) o)
theorem CdsAt.emp (t B : Nat) (w : World) : CdsAt t B (.slice none 0 0) [] w := World.ownsRow_nil w B _ 4
theorem CdsAt.lower {t B B' : Nat} {v : Value} {xs : List Cd} {w : World} (h : CdsAt t B v xs w) (hB : B' ≤ B) : CdsAt t B' v xs w := by
  refine ⟨h.1, ?_⟩
  rcases h.2 with hn | ⟨g, cap, cur, e, hb, rest⟩
  · exact .inl hn
  · exact .inr ⟨g, cap, cur, e, Nat.le_trans hB hb, rest⟩
theorem CdsAt.app {t B : Nat} {v v' : Value} {xs : List Cd} {c : Cd} {w w1 w2 : World} {o : Obj} (hv : CdsAt t B v xs w1) (hB : Below B w w1) (hs : B ≤ w1.heap.size)
    (hown : w2.ownsRow B t 4 v' (xs.length + 1) (flat4 xs ++ [.int .i64 c.k, .int .i64 c.i, .int .i64 c.r, .string c.id])) (hg : (w1.alloc o).grownBy w2 v.ownBlock) : CdsAt t B v' (xs ++ [c]) w2 ∧ Below B w w2 := by
  refine ⟨?_, (hB.alloc hs _).grown hg (by simp; omega) (fun k e => (World.ownsRow.lt hv k e).1)⟩
  rw [CdsAt, List.length_append, flat4_app]
  exact hown
theorem flat4_at : ∀ (l : List Cd) (i : Nat) (c : Cd), l[i]? = some c → (flat4 l)[i * 4]? = some (.int .i64 c.k) ∧ (flat4 l)[i * 4 + 1]? = some (.int .i64 c.i) ∧ (flat4 l)[i * 4 + 2]? = some (.int .i64 c.r) ∧ (flat4 l)[i * 4 + 3]? = some (.string c.id)
  | [], i, x, h => by simp at h
  | p :: ps, 0, x, h => by
    simp at h; subst h; exact ⟨rfl, rfl, rfl, rfl⟩
  | p :: ps, i + 1, x, h => by
    have := flat4_at ps i x (by simpa using h)
    rw [show (i + 1) * 4 = i * 4 + 1 + 1 + 1 + 1 by omega]
    simpa [flat4] using this
theorem CdsAt.cs {t B : Nat} {v : Value} {l : List Cd} {w : World} (h : CdsAt t B v l w) : CsAt w v l := by
  rcases h.2 with ⟨rfl, hn⟩ | ⟨g, cap, cur, rfl, hb, hg, hnc, hcm, hcs, htake⟩
  · obtain rfl := List.eq_nil_of_length_eq_zero hn
    exact ⟨none, 0, rfl, Nat.le_refl _, Nat.zero_le _, fun i c hc => by simp at hc⟩
  · have hadd : ∀ j, (⟨g, 0, none⟩ : Addr).add j = ⟨g, j, none⟩ := fun j => by unfold Addr.add; split <;> simp_all
    refine ⟨_, cap, rfl, hnc, hcm, fun i c hi => ⟨g, 0, rfl, ?_⟩⟩
    obtain ⟨q0, q1, q2, q3⟩ := flat4_at l i c hi
    rw [Nat.zero_add]
    have f := fun j u hj => World.ownsRow.cells h (g := g) rfl j u hj
    have g0 := f _ _ q0
    have g1 := f _ _ q1
    have g2 := f _ _ q2
    have g3 := f _ _ q3
    rw [hadd] at g0 g1 g2 g3
    exact ⟨g0, g1, g2, g3⟩
theorem cell_four_new (w : World) (x y z u : Value) (t : TypeId) : ∀ j q, [x, y, z, u][j]? = some q → (w.alloc (.cells #[x, y, z, u] t)).cell? ((⟨w.heap.size, 0, none⟩ : Addr).add j) = some q := by
  intro j q h
  rw [show (⟨w.heap.size, 0, none⟩ : Addr).add j = ⟨w.heap.size, j, none⟩ by unfold Addr.add; split <;> simp_all, cell_of_row _ _ j _ _ _ (heap_alloc_new w (.cells #[x, y, z, u] t))]
  rw [← Array.getElem?_toList]; exact h
/-- A slice of candidates that a call of memory of its own hands back. -/
def RetCs (t : TypeId) (W : World) (l : List Cd) (e : Ending) (w' : World) : Prop := ∃ v, e = .returned v ∧ CdsAt t W.heap.size v l w' ∧ Below W.heap.size W w'
theorem infoCd : (Try.prog.info? 29).map (fun i => (i.zero, i.size, i.bytes)) = some (some (cdv zcd), 4, 40) := by kernel_rfl
theorem infoCr : (Try.prog.info? 24).map (fun i => (i.zero, i.size, i.bytes)) = some (some (cdv zcd), 4, 40) := by kernel_rfl
theorem take_succ_cd {l : List Cd} {k : Nat} {c : Cd} (h : l[k]? = some c) : l.take (k + 1) = l.take k ++ [c] := by rw [List.take_add_one, h]; rfl
set_option maxHeartbeats 1000000 in
set_option maxRecDepth 100000 in
theorem fwd_any (v : Value) (l : List Cd) (W : World) (hl : l.length ≤ 1000) (h : CsAt W v l) : Calls Try.prog 7 #[v] W (RetCs 29 W l) := by
  obtain ⟨i0, hi, hz0, hz1, hz2⟩ := info_parts infoCd
  obtain ⟨A, cap, rfl, h1, h2, h3⟩ := h
  have Q := Lib.hid h3
  clear h3
  go_enter Try.func7, Try.ntmps7
  go_wp2_with fail
  go_loopw [3, 4] (fun v i wr => ∃ k : Nat, k ≤ l.length ∧ i = .int .i64 k ∧ Below W.heap.size W wr ∧ CdsAt 29 W.heap.size v (l.take k) wr) (fun _ i _ => l.length - (intOf i).toNat)
  case atStart => exact ⟨0, Nat.zero_le _, rfl, Below.refl _ _, CdsAt.emp _ _ _⟩
  case round =>
    obtain ⟨k, hk, rfl, hb, hv⟩ := hrel
    have HB := Lib.hid hb
    have HV := Lib.hid hv
    clear hb hv
    by_cases hlt : k < l.length
    · obtain ⟨c, hc⟩ : ∃ c, l[k]? = some c := ⟨_, List.getElem?_eq_getElem hlt⟩
      obtain ⟨b, p, hA, hit⟩ := Q.out k c hc
      subst hA
      have hmap := Lib.hid (take_succ_cd hc)
      have hle : (l.take k).length = k := by rw [List.length_take]; omega
      have hit0 := hit
      obtain ⟨q0, q1, q2, q3⟩ := hit.on HB.out
      have hsz := Lib.hid HB.out.size
      obtain ⟨c1, c2, c3, c4⟩ := c
      have hbW : b < W.heap.size := hit0.lt
      clear hit hit0 hc
      have hszv : W.heap.size ≤ wr.heap.size := hsz.out
      have HVk : Hid (wr.ownsRow W.heap.size 29 4 u3 k (flat4 (l.take k))) := Lib.hid (by have := HV.out; rwa [CdsAt, hle] at this)
      have ag : u3.ownBlock ≠ some b := fun e => absurd (World.ownsRow.lt HV.out b e).1 (by omega)
      go_wp2_with fail
      go_region_held3 (fun w' => w'.cell? ⟨b, p + k * 4, none⟩ = some (.int .i64 c1) ∧ w'.cell? ⟨b, p + k * 4 + 1, none⟩ = some (.int .i64 c2) ∧ w'.cell? ⟨b, p + k * 4 + 2, none⟩ = some (.int .i64 c3) ∧ w'.cell? ⟨b, p + k * 4 + 3, none⟩ = some (.string c4))
        (first
          | go_keep
          | (go_split_ands
             refine ⟨?_, ?_, ?_, ?_⟩
             · (rw [hgrow.cell_far _ (by simp; omega) (Ne.symm ag)]; assumption)
             · (rw [hgrow.cell_far _ (by simp; omega) (Ne.symm ag)]; assumption)
             · (rw [hgrow.cell_far _ (by simp; omega) (Ne.symm ag)]; assumption)
             · (rw [hgrow.cell_far _ (by simp; omega) (Ne.symm ag)]; assumption)))
        ((refine step_append_lies _ (by rfl) _ _ _ (by rfl) W.heap.size 29 i0 _ 4 40 Try.underlying26 hi hz0 hz1 hz2 rfl (by omega) u3 k (flat4 (l.take k)) (by rfl) ((World.ownsRow.kept HVk.out (grown_of_below ((Below.refl _ _).alloc (Nat.le_refl _) _) none) (by cases hv : u3.ownBlock <;> simp)).drew)
            ⟨wr.heap.size, 0, none⟩ 1 1 [.int .i64 c1, .int .i64 c2, .int .i64 c3, .string c4] (by rfl) (by rfl) (World.news_of_block (cs := #[.int .i64 c1, .int .i64 c2, .int .i64 c3, .string c4]) (t := 29) (fr := (0, 0)) (heap_alloc_new wr _)) (by simp [Value.oneCell'])
            (by omega) (by unfold maxLen; omega) (by omega) (by have := hsz.out; simp; omega) (wr.heap.size + 1) (by simp) ?_; intro gg cap2 w1 hown1 hgrow hat hlt2))
      have hb2 := (below_dn (HB.out.alloc hsz.out (Obj.cells #[.int .i64 c1, .int .i64 c2, .int .i64 c3, .string c4] 29)) 1).grown hgrow (by have := hsz.out; simp; omega) (fun k e => (World.ownsRow.lt HV.out k e).1)
      have HB2 := Lib.hid hb2
      have HV2 : Hid (CdsAt 29 W.heap.size _ (l.take k ++ [⟨c1, c2, c3, c4⟩]) w1) := Lib.hid (by rw [CdsAt, List.length_append, flat4_app, hle]; exact hown1)
      clear hb2 hown1 hgrow hat
      go_wp2_with fail
      go_roundw
      case rel => exact ⟨k + 1, by omega, by go_num, HB2.out, by rw [hmap.out]; exact HV2.out⟩
      case measure => simp [intOf]; omega
    · obtain rfl : k = l.length := by omega
      go_wp2_with fail
      go_ret
      exact ⟨_, rfl, by have := HV.out; rwa [List.take_length] at this, HB.out⟩
set_option maxHeartbeats 1000000 in
set_option maxRecDepth 100000 in
theorem bck_any (v : Value) (l : List Cd) (W : World) (hl : l.length ≤ 1000) (h : CsAt W v l) : Calls Try.prog 13 #[v] W (RetCs 24 W l) := by
  obtain ⟨i0, hi, hz0, hz1, hz2⟩ := info_parts infoCr
  obtain ⟨A, cap, rfl, h1, h2, h3⟩ := h
  have Q := Lib.hid h3
  clear h3
  go_enter Try.func13, Try.ntmps13
  go_wp2_with fail
  go_loopw [3, 4] (fun v i wr => ∃ k : Nat, k ≤ l.length ∧ i = .int .i64 k ∧ Below W.heap.size W wr ∧ CdsAt 24 W.heap.size v (l.take k) wr) (fun _ i _ => l.length - (intOf i).toNat)
  case atStart => exact ⟨0, Nat.zero_le _, rfl, Below.refl _ _, CdsAt.emp _ _ _⟩
  case round =>
    obtain ⟨k, hk, rfl, hb, hv⟩ := hrel
    have HB := Lib.hid hb
    have HV := Lib.hid hv
    clear hb hv
    by_cases hlt : k < l.length
    · obtain ⟨c, hc⟩ : ∃ c, l[k]? = some c := ⟨_, List.getElem?_eq_getElem hlt⟩
      obtain ⟨b, p, hA, hit⟩ := Q.out k c hc
      subst hA
      have hmap := Lib.hid (take_succ_cd hc)
      have hle : (l.take k).length = k := by rw [List.length_take]; omega
      have hit0 := hit
      obtain ⟨q0, q1, q2, q3⟩ := hit.on HB.out
      have hsz := Lib.hid HB.out.size
      obtain ⟨c1, c2, c3, c4⟩ := c
      have hbW : b < W.heap.size := hit0.lt
      clear hit hit0 hc
      have hszv : W.heap.size ≤ wr.heap.size := hsz.out
      have HVk : Hid (wr.ownsRow W.heap.size 24 4 u3 k (flat4 (l.take k))) := Lib.hid (by have := HV.out; rwa [CdsAt, hle] at this)
      have ag : u3.ownBlock ≠ some b := fun e => absurd (World.ownsRow.lt HV.out b e).1 (by omega)
      go_wp2_with fail
      go_region_held3 (fun w' => w'.cell? ⟨b, p + k * 4, none⟩ = some (.int .i64 c1) ∧ w'.cell? ⟨b, p + k * 4 + 1, none⟩ = some (.int .i64 c2) ∧ w'.cell? ⟨b, p + k * 4 + 2, none⟩ = some (.int .i64 c3) ∧ w'.cell? ⟨b, p + k * 4 + 3, none⟩ = some (.string c4))
        (first
          | go_keep
          | (go_split_ands
             refine ⟨?_, ?_, ?_, ?_⟩
             · (rw [hgrow.cell_far _ (by simp; omega) (Ne.symm ag)]; assumption)
             · (rw [hgrow.cell_far _ (by simp; omega) (Ne.symm ag)]; assumption)
             · (rw [hgrow.cell_far _ (by simp; omega) (Ne.symm ag)]; assumption)
             · (rw [hgrow.cell_far _ (by simp; omega) (Ne.symm ag)]; assumption)))
        ((refine step_append_lies _ (by rfl) _ _ _ (by rfl) W.heap.size 24 i0 _ 4 40 Try.underlying22 hi hz0 hz1 hz2 rfl (by omega) u3 k (flat4 (l.take k)) (by rfl) ((World.ownsRow.kept HVk.out (grown_of_below ((Below.refl _ _).alloc (Nat.le_refl _) _) none) (by cases hv : u3.ownBlock <;> simp)).drew)
            ⟨wr.heap.size, 0, none⟩ 1 1 [.int .i64 c1, .int .i64 c2, .int .i64 c3, .string c4] (by rfl) (by rfl) (World.news_of_block (cs := #[.int .i64 c1, .int .i64 c2, .int .i64 c3, .string c4]) (t := 24) (fr := (0, 0)) (heap_alloc_new wr _)) (by simp [Value.oneCell'])
            (by omega) (by unfold maxLen; omega) (by omega) (by have := hsz.out; simp; omega) (wr.heap.size + 1) (by simp) ?_; intro gg cap2 w1 hown1 hgrow hat hlt2))
      have hb2 := (below_dn (HB.out.alloc hsz.out (Obj.cells #[.int .i64 c1, .int .i64 c2, .int .i64 c3, .string c4] 24)) 1).grown hgrow (by have := hsz.out; simp; omega) (fun k e => (World.ownsRow.lt HV.out k e).1)
      have HB2 := Lib.hid hb2
      have HV2 : Hid (CdsAt 24 W.heap.size _ (l.take k ++ [⟨c1, c2, c3, c4⟩]) w1) := Lib.hid (by rw [CdsAt, List.length_append, flat4_app, hle]; exact hown1)
      clear hb2 hown1 hgrow hat
      go_wp2_with fail
      go_roundw
      case rel => exact ⟨k + 1, by omega, by go_num, HB2.out, by rw [hmap.out]; exact HV2.out⟩
      case measure => simp [intOf]; omega
    · obtain rfl : k = l.length := by omega
      go_wp2_with fail
      go_ret
      exact ⟨_, rfl, by have := HV.out; rwa [List.take_length] at this, HB.out⟩
end Go.Proofs.Ytomoaolomddidaa
