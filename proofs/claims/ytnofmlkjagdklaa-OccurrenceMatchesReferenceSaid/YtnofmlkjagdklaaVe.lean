/- What package occurrence must answer (OP); the law's awake of stage 21. -/
import Derived.Test.YtnofmlkjagdklaaVd
import Derived.Test.YtnofmlkjagdklaaK2
import Derived.Test.YtnofmlkjagdklaaKm
namespace Go.Proofs.Ytnofmlkjagdklaa
open Go.RowKit

/-- The lists behind displacing. -/
def dspC (c : Cat) (p : Cd) (xs : List Int) : List Int := if p.k = 2 ∧ polOf c p ≠ 3 then p.i :: xs else xs
def dspO (c : Cat) (p : Cd) (ys : List Int) : List Int := if p.k = 2 ∧ polOf c p = 3 then p.i :: ys else ys
/-- What package occurrence's functions must answer. -/
structure OP : Prop where
  rs : ∀ (c : Cat) (v vl : Value) (l : List Cd) (x : Cd) (rest : List Cd) (u : World), CatAt u v c → CsAt u vl l → c.fs.length ≤ 39 → Lok c l → srtR l = x :: rest → Calls Try.prog 11 #[v, vl] u (RetRes u x (polL c 2 rest) (polL c 3 rest) (polL c 1 rest))
  fr : ∀ (c : Cat) (v : Value) (p : Cd) (A1 A2 A3 : Option Addr) (n1 n2 n3 c1 c2 c3 : Nat) (u : World), CatAt u v c → Calls Try.prog 15 #[v, rsq p (.slice A1 n1 c1) (.slice A2 n2 c2) (.slice A3 n3 c3)] u fun e w' => e = .returned (.bool (decide (c.free < p.r))) ∧ Below u.heap.size u w'
  di : ∀ (c : Cat) (v : Value) (p : Cd) (x y z : Value) (xs ys zs : List Int) (u : World), CatAt u v c → SlF x xs u → SlF y ys u → SlF z zs u → c.fs.length ≤ 39 → xs.length ≤ 40 → ys.length ≤ 40 → zs.length ≤ 40 → (p.k = 1 ∨ p.k = 2) → (p.k = 2 → 0 ≤ p.i ∧ p.i < c.fs.length ∧ 1 ≤ polOf c p ∧ polOf c p ≤ 3) → Calls Try.prog 16 #[v, rsq p x y z] u (RetRes u zcd (dspC c p xs) (dspO c p ys) zs)
/-! the example -/
def c21x : Cat := ⟨2, [⟨⟨#[115]⟩, 9, 9, 1, 1, 1, 0, 0, 0⟩], [⟨⟨#[97]⟩, 1, 3, 1, 1, 1, 0, 0, 0⟩, ⟨⟨#[98]⟩, 3, 1, 1, 1, 1, 0, 0, 0⟩]⟩
def l21s : Cd := ⟨1, 0, 9, ⟨#[115]⟩⟩
def l21a : Cd := ⟨2, 0, 1, ⟨#[97]⟩⟩
def l21b : Cd := ⟨2, 1, 3, ⟨#[98]⟩⟩
theorem x21_ok : Lok c21x [l21s, l21a, l21b] := by
  refine ⟨by decide, by decide, fun x hx h => ?_, fun x hx => ?_, ?_⟩
  · simp only [List.mem_cons, List.not_mem_nil, or_false] at hx
    rcases hx with rfl | rfl | rfl
    · exact absurd h (by decide)
    · decide
    · decide
  · simp only [List.mem_cons, List.not_mem_nil, or_false] at hx
    rcases hx with rfl | rfl | rfl <;> decide
  · unfold Tot; decide
theorem x21_ok1 : Lok c21x [l21s] := by
  refine ⟨by decide, by decide, fun x hx h => ?_, fun x hx => ?_, List.pairwise_singleton _ _⟩
  · rw [List.mem_singleton] at hx; subst hx; exact absurd h (by decide)
  · rw [List.mem_singleton] at hx; subst hx; exact .inl rfl
theorem x21_srt : srtR [l21s, l21a, l21b] = [l21a, l21b, l21s] := rfl
theorem x21_cat {w : World} {b1 b2 t1 t2 : Nat} (h1 : w.heap[b1]? = some (.cells #[.string ⟨#[115]⟩, .int .i64 9, .int .i64 9, .int .i64 1, .int .i64 1, .int .i64 1, .int .i64 0, .int .i64 0, .int .i64 0] t1 (0, 0)))
    (h2 : w.heap[b2]? = some (.cells #[.string ⟨#[97]⟩, .int .i64 1, .int .i64 3, .int .i64 1, .int .i64 1, .int .i64 1, .int .i64 0, .int .i64 0, .int .i64 0, .string ⟨#[98]⟩, .int .i64 3, .int .i64 1, .int .i64 1, .int .i64 1, .int .i64 1, .int .i64 0, .int .i64 0, .int .i64 0] t2 (0, 0))) :
    CatAt w (.agg #[.int .i64 2, .slice (some ⟨b1, 0, none⟩) 1 1, .slice (some ⟨b2, 0, none⟩) 2 2]) c21x := by
  have hb1 := World.block_lt_of_cell? w _ (u := .string ⟨#[115]⟩) (by rw [cell_of_row w b1 0 _ _ _ h1]; rfl)
  have hb2 := World.block_lt_of_cell? w _ (u := .string ⟨#[97]⟩) (by rw [cell_of_row w b2 0 _ _ _ h2]; rfl)
  have nine : ∀ j : Nat, j < 9 → j = 0 ∨ j = 1 ∨ j = 2 ∨ j = 3 ∨ j = 4 ∨ j = 5 ∨ j = 6 ∨ j = 7 ∨ j = 8 := fun j hj => by omega
  refine ⟨⟨_, _, rfl, ⟨_, 1, rfl, Nat.le_refl _, by decide, fun i t hi => ?_⟩, ⟨_, 2, rfl, Nat.le_refl _, by decide, fun i t hi => ?_⟩⟩, by decide, fun t ht => ?_, fun t ht => ?_⟩
  · match i, hi with
    | 0, hi =>
      obtain rfl : (⟨⟨#[115]⟩, 9, 9, 1, 1, 1, 0, 0, 0⟩ : Itm) = t := by simpa [c21x] using hi
      exact ⟨b1, 0, rfl, hb1, itm_row h1 (0 + 0 * 9) _ (fun j hj => by rcases nine j hj with rfl | rfl | rfl | rfl | rfl | rfl | rfl | rfl | rfl <;> rfl)⟩
    | i + 1, hi => simp [c21x] at hi
  · match i, hi with
    | 0, hi =>
      obtain rfl : (⟨⟨#[97]⟩, 1, 3, 1, 1, 1, 0, 0, 0⟩ : Itm) = t := by simpa [c21x] using hi
      exact ⟨b2, 0, rfl, hb2, itm_row h2 (0 + 0 * 9) _ (fun j hj => by rcases nine j hj with rfl | rfl | rfl | rfl | rfl | rfl | rfl | rfl | rfl <;> rfl)⟩
    | 1, hi =>
      obtain rfl : (⟨⟨#[98]⟩, 3, 1, 1, 1, 1, 0, 0, 0⟩ : Itm) = t := by simpa [c21x] using hi
      exact ⟨b2, 0, rfl, hb2, itm_row h2 (0 + 1 * 9) _ (fun j hj => by rcases nine j hj with rfl | rfl | rfl | rfl | rfl | rfl | rfl | rfl | rfl <;> rfl)⟩
    | i + 2, hi => simp [c21x] at hi
  · simp only [c21x, List.mem_singleton] at ht
    subst ht
    exact ⟨by decide, by decide, by decide, by decide, by decide, by decide, by decide, by decide, by decide⟩
  · simp only [c21x, List.mem_cons, List.not_mem_nil, or_false] at ht
    rcases ht with rfl | rfl
    · exact ⟨by decide, by decide, by decide, by decide, by decide, by decide, by decide, by decide, by decide⟩
    · exact ⟨by decide, by decide, by decide, by decide, by decide, by decide, by decide, by decide, by decide⟩
theorem cs_fst {w : World} {A : Option Addr} {n cap : Nat} {x : Cd} {l : List Cd} (h : CsAt w (.slice A n cap) (x :: l)) : CsAt w (.slice A 1 cap) [x] := by
  obtain ⟨A', cap', e, h1, h2, h3⟩ := h
  obtain ⟨rfl, _, rfl⟩ : A = A' ∧ n = (x :: l).length ∧ cap = cap' := by simpa using e
  refine ⟨A, cap, rfl, by rw [List.length_cons] at h1; show 1 ≤ cap; omega, h2, fun i c hc => ?_⟩
  match i, hc with
  | 0, hc => obtain rfl : x = c := by simpa using hc
             exact h3 0 x rfl
  | i + 1, hc => simp at hc
theorem aw_keep {W w1 w2 w4 u : World} {Aa Ab Ac Da Db Dc : Option Addr} {ca cb cc ea eb ec : Nat} (h : (u.cell? ⟨w1.heap.size, 0, none⟩ = some (.int .i64 2) ∧ u.cell? ⟨w1.heap.size, 1, none⟩ = some (.int .i64 0) ∧ u.cell? ⟨w1.heap.size, 2, none⟩ = some (.int .i64 1) ∧ u.cell? ⟨w1.heap.size, 3, none⟩ = some (.string ⟨#[97]⟩) ∧ u.cell? ⟨w1.heap.size, 4, none⟩ = some (.slice Aa 0 ca) ∧ u.cell? ⟨w1.heap.size, 5, none⟩ = some (.slice Ab 0 cb) ∧ u.cell? ⟨w1.heap.size, 6, none⟩ = some (.slice Ac 1 cc) ∧ u.cell? ⟨w2.heap.size, 0, none⟩ = some (.int .i64 0) ∧ u.cell? ⟨w2.heap.size, 1, none⟩ = some (.int .i64 0) ∧ u.cell? ⟨w2.heap.size, 2, none⟩ = some (.int .i64 0) ∧ u.cell? ⟨w2.heap.size, 3, none⟩ = some (.string ⟨#[]⟩) ∧ u.cell? ⟨w2.heap.size, 4, none⟩ = some (.slice Da 0 ea) ∧ u.cell? ⟨w2.heap.size, 5, none⟩ = some (.slice Db 1 eb) ∧ u.cell? ⟨w2.heap.size, 6, none⟩ = some (.slice Dc 1 ec) ∧ u.cell? ⟨W.heap.size + 1 + 1 + 1, 0, none⟩ = some (.int .i64 2) ∧ u.cell? ⟨W.heap.size + 1 + 1 + 1, 1, none⟩ = some (.slice (some ⟨W.heap.size + 1, 0, none⟩) 1 1) ∧ u.cell? ⟨W.heap.size + 1 + 1 + 1, 2, none⟩ = some (.slice (some ⟨W.heap.size + 1 + 1, 0, none⟩) 2 2) ∧ u.cell? ⟨W.heap.size + 1 + 1 + 1 + 1, 4, none⟩ = some (.int .i64 2) ∧ u.cell? ⟨W.heap.size + 1 + 1 + 1 + 1, 5, none⟩ = some (.int .i64 0) ∧ u.cell? ⟨W.heap.size + 1 + 1 + 1 + 1, 6, none⟩ = some (.int .i64 1) ∧ u.cell? ⟨W.heap.size + 1 + 1 + 1 + 1, 7, none⟩ = some (.string ⟨#[97]⟩) ∧ Below w4.heap.size w4 u)) (o : Obj) : ((u.alloc o).cell? ⟨w1.heap.size, 0, none⟩ = some (.int .i64 2) ∧ (u.alloc o).cell? ⟨w1.heap.size, 1, none⟩ = some (.int .i64 0) ∧ (u.alloc o).cell? ⟨w1.heap.size, 2, none⟩ = some (.int .i64 1) ∧ (u.alloc o).cell? ⟨w1.heap.size, 3, none⟩ = some (.string ⟨#[97]⟩) ∧ (u.alloc o).cell? ⟨w1.heap.size, 4, none⟩ = some (.slice Aa 0 ca) ∧ (u.alloc o).cell? ⟨w1.heap.size, 5, none⟩ = some (.slice Ab 0 cb) ∧ (u.alloc o).cell? ⟨w1.heap.size, 6, none⟩ = some (.slice Ac 1 cc) ∧ (u.alloc o).cell? ⟨w2.heap.size, 0, none⟩ = some (.int .i64 0) ∧ (u.alloc o).cell? ⟨w2.heap.size, 1, none⟩ = some (.int .i64 0) ∧ (u.alloc o).cell? ⟨w2.heap.size, 2, none⟩ = some (.int .i64 0) ∧ (u.alloc o).cell? ⟨w2.heap.size, 3, none⟩ = some (.string ⟨#[]⟩) ∧ (u.alloc o).cell? ⟨w2.heap.size, 4, none⟩ = some (.slice Da 0 ea) ∧ (u.alloc o).cell? ⟨w2.heap.size, 5, none⟩ = some (.slice Db 1 eb) ∧ (u.alloc o).cell? ⟨w2.heap.size, 6, none⟩ = some (.slice Dc 1 ec) ∧ (u.alloc o).cell? ⟨W.heap.size + 1 + 1 + 1, 0, none⟩ = some (.int .i64 2) ∧ (u.alloc o).cell? ⟨W.heap.size + 1 + 1 + 1, 1, none⟩ = some (.slice (some ⟨W.heap.size + 1, 0, none⟩) 1 1) ∧ (u.alloc o).cell? ⟨W.heap.size + 1 + 1 + 1, 2, none⟩ = some (.slice (some ⟨W.heap.size + 1 + 1, 0, none⟩) 2 2) ∧ (u.alloc o).cell? ⟨W.heap.size + 1 + 1 + 1 + 1, 4, none⟩ = some (.int .i64 2) ∧ (u.alloc o).cell? ⟨W.heap.size + 1 + 1 + 1 + 1, 5, none⟩ = some (.int .i64 0) ∧ (u.alloc o).cell? ⟨W.heap.size + 1 + 1 + 1 + 1, 6, none⟩ = some (.int .i64 1) ∧ (u.alloc o).cell? ⟨W.heap.size + 1 + 1 + 1 + 1, 7, none⟩ = some (.string ⟨#[97]⟩) ∧ Below w4.heap.size w4 (u.alloc o)) :=
  have hal := (Below.refl u.heap.size u).alloc (Nat.le_refl _) o
  ⟨cell_below h.1 hal, cell_below h.2.1 hal, cell_below h.2.2.1 hal, cell_below h.2.2.2.1 hal, cell_below h.2.2.2.2.1 hal, cell_below h.2.2.2.2.2.1 hal, cell_below h.2.2.2.2.2.2.1 hal, cell_below h.2.2.2.2.2.2.2.1 hal, cell_below h.2.2.2.2.2.2.2.2.1 hal, cell_below h.2.2.2.2.2.2.2.2.2.1 hal, cell_below h.2.2.2.2.2.2.2.2.2.2.1 hal, cell_below h.2.2.2.2.2.2.2.2.2.2.2.1 hal, cell_below h.2.2.2.2.2.2.2.2.2.2.2.2.1 hal, cell_below h.2.2.2.2.2.2.2.2.2.2.2.2.2.1 hal, cell_below h.2.2.2.2.2.2.2.2.2.2.2.2.2.2.1 hal, cell_below h.2.2.2.2.2.2.2.2.2.2.2.2.2.2.2.1 hal, cell_below h.2.2.2.2.2.2.2.2.2.2.2.2.2.2.2.2.1 hal, cell_below h.2.2.2.2.2.2.2.2.2.2.2.2.2.2.2.2.2.1 hal, cell_below h.2.2.2.2.2.2.2.2.2.2.2.2.2.2.2.2.2.2.1 hal, cell_below h.2.2.2.2.2.2.2.2.2.2.2.2.2.2.2.2.2.2.2.1 hal, cell_below h.2.2.2.2.2.2.2.2.2.2.2.2.2.2.2.2.2.2.2.2.1 hal, below_on h.2.2.2.2.2.2.2.2.2.2.2.2.2.2.2.2.2.2.2.2.2 hal⟩
set_option maxRecDepth 100000 in
set_option maxHeartbeats 4000000 in
theorem c21awake_any (M : OP) (W : World) : Calls Try.prog 7 #[] W fun e w' => e = .returned (.bool true) ∧ Below W.heap.size W w' := by
  have QM := Lib.hid M
  clear M
  go_enter Try.func7, Try.ntmps7
  go_wp2_with fail
  generalize hU : ((((W.alloc (.cells #[.int .i64 1, .int .i64 1, .int .i64 1, .int .i64 0, .int .i64 0, .int .i64 0] 55)).alloc (.cells #[.string ⟨#[115]⟩, .int .i64 9, .int .i64 9, .int .i64 1, .int .i64 1, .int .i64 1, .int .i64 0, .int .i64 0, .int .i64 0] 57)).alloc (.cells #[.string ⟨#[97]⟩, .int .i64 1, .int .i64 3, .int .i64 1, .int .i64 1, .int .i64 1, .int .i64 0, .int .i64 0, .int .i64 0, .string ⟨#[98]⟩, .int .i64 3, .int .i64 1, .int .i64 1, .int .i64 1, .int .i64 1, .int .i64 0, .int .i64 0, .int .i64 0] 59)).alloc (.cells #[.int .i64 2, .slice (some ⟨W.heap.size + 1, 0, none⟩) 1 1, .slice (some ⟨W.heap.size + 1 + 1, 0, none⟩) 2 2] 25)).alloc (.cells #[.int .i64 1, .int .i64 0, .int .i64 9, .string ⟨#[115]⟩, .int .i64 2, .int .i64 0, .int .i64 1, .string ⟨#[97]⟩, .int .i64 2, .int .i64 1, .int .i64 3, .string ⟨#[98]⟩] 32) = U at *
  obtain ⟨r0, r1, r2, r3, r4, hB⟩ := five W (.cells #[.int .i64 1, .int .i64 1, .int .i64 1, .int .i64 0, .int .i64 0, .int .i64 0] 55) (.cells #[.string ⟨#[115]⟩, .int .i64 9, .int .i64 9, .int .i64 1, .int .i64 1, .int .i64 1, .int .i64 0, .int .i64 0, .int .i64 0] 57) (.cells #[.string ⟨#[97]⟩, .int .i64 1, .int .i64 3, .int .i64 1, .int .i64 1, .int .i64 1, .int .i64 0, .int .i64 0, .int .i64 0, .string ⟨#[98]⟩, .int .i64 3, .int .i64 1, .int .i64 1, .int .i64 1, .int .i64 1, .int .i64 0, .int .i64 0, .int .i64 0] 59) (.cells #[.int .i64 2, .slice (some ⟨W.heap.size + 1, 0, none⟩) 1 1, .slice (some ⟨W.heap.size + 1 + 1, 0, none⟩) 2 2] 25) (.cells #[.int .i64 1, .int .i64 0, .int .i64 9, .string ⟨#[115]⟩, .int .i64 2, .int .i64 0, .int .i64 1, .string ⟨#[97]⟩, .int .i64 2, .int .i64 1, .int .i64 3, .string ⟨#[98]⟩] 32) U hU
  have R1 := Lib.hid r1
  have R2 := Lib.hid r2
  have R3x := Lib.hid r3
  have R4 := Lib.hid r4
  have BU := Lib.hid hB
  clear r0 r1 r2 r3 r4 hB hU
  refine (QM.out.rs c21x _ _ _ l21a [l21b, l21s] _ (x21_cat R1.out R2.out) (cs_three (x := l21s) (y := l21a) (z := l21b) R4.out) (by decide) x21_ok x21_srt).mono ?_
  rintro e w1 ⟨a, b, d, rfl, hr3, hb1⟩
  rw [show polL c21x 2 [l21b, l21s] = [] from rfl, show polL c21x 3 [l21b, l21s] = [] from rfl, show polL c21x 1 [l21b, l21s] = [1] from rfl] at hr3
  obtain ⟨Aa, ca, rfl⟩ := ints_form hr3.fa
  obtain ⟨Ab, cb, rfl⟩ := ints_form hr3.fb
  obtain ⟨Ac, cc, rfl⟩ := ints_form hr3.fc
  dsimp only [l21a, List.length_nil, List.length_cons, Nat.zero_add]
  have hal1 := (Below.refl w1.heap.size w1).alloc (Nat.le_refl _) (.cells #[.int .i64 2, .int .i64 0, .int .i64 1, .string ⟨#[97]⟩, .slice Aa 0 ca, .slice Ab 0 cb, .slice Ac 1 cc] 35)
  have B1 := Lib.hid (below_on hb1 hal1)
  have HR := Lib.hid (hr3.on hal1)
  have RR := Lib.hid (heap_alloc_new w1 (.cells #[.int .i64 2, .int .i64 0, .int .i64 1, .string ⟨#[97]⟩, .slice Aa 0 ca, .slice Ab 0 cb, .slice Ac 1 cc] 35))
  clear hr3 hal1 hb1
  obtain ⟨d0, d1, d2, dg0, dg1, dg2, dz⟩ := row3 (row_on R3x.out B1.out)
  go_wp2_with fail
  generalize hX1 : w1.alloc (.cells #[.int .i64 2, .int .i64 0, .int .i64 1, .string ⟨#[97]⟩, .slice Aa 0 ca, .slice Ab 0 cb, .slice Ac 1 cc] 35) = X1 at *
  refine (QM.out.di c21x _ l21a _ _ _ [] [] [1] _ ((x21_cat R1.out R2.out).on B1.out) (SlI.sf HR.out.fa.get) (SlI.sf HR.out.fb.get) (SlI.sf HR.out.fc.get) (by decide) (by decide) (by decide) (by decide) (by decide) (by decide)).mono ?_
  rintro e w2 ⟨x, y, z, rfl, hd3, hb2⟩
  rw [show dspC c21x l21a [] = [] from rfl, show dspO c21x l21a [] = [0] from rfl] at hd3
  obtain ⟨Da, ea, rfl⟩ := ints_form hd3.fa
  obtain ⟨Db, eb, rfl⟩ := ints_form hd3.fb
  obtain ⟨Dc, ec, rfl⟩ := ints_form hd3.fc
  dsimp only [zcd, List.length_nil, List.length_cons, Nat.zero_add]
  have hal2 := (Below.refl w2.heap.size w2).alloc (Nat.le_refl _) (.cells #[.int .i64 0, .int .i64 0, .int .i64 0, .string ⟨#[]⟩, .slice Da 0 ea, .slice Db 1 eb, .slice Dc 1 ec] 35)
  have B2 := Lib.hid (below_on hb2 hal2)
  have B3 := Lib.hid (below_on B1.out B2.out)
  have HI := Lib.hid (HR.out.fc.on B2.out)
  have HO := Lib.hid (hd3.fb.on hal2)
  have DD := Lib.hid (heap_alloc_new w2 (.cells #[.int .i64 0, .int .i64 0, .int .i64 0, .string ⟨#[]⟩, .slice Da 0 ea, .slice Db 1 eb, .slice Dc 1 ec] 35))
  have RR2 := Lib.hid (row_on RR.out B2.out)
  have LL2 := Lib.hid (row_on R4.out B3.out)
  clear hd3 hal2 hb2 d0 d1 d2 dg0 dg1 dg2 dz
  go_wp2_with fail
  generalize hX2 : w2.alloc (.cells #[.int .i64 0, .int .i64 0, .int .i64 0, .string ⟨#[]⟩, .slice Da 0 ea, .slice Db 1 eb, .slice Dc 1 ec] 35) = w4 at *
  obtain ⟨d0, d1, d2, dg0, dg1, dg2, dz⟩ := row3 (row_on R3x.out B3.out)
  obtain ⟨p0, p1, p2, p3, p4, p5, p6, -, -, -, -, -, -, -, pz⟩ := row7 RR2.out
  obtain ⟨g0, g1, g2, g3, g4, g5, g6, -, -, -, -, -, -, -, gz⟩ := row7 DD.out
  have cc0 := fun j => cell_of_row w4 (W.heap.size + 1 + 1 + 1 + 1) j _ _ _ LL2.out
  have hE : ∀ w, (binOp .eql 32 (.agg #[.int .i64 2, .int .i64 0, .int .i64 1, .string ⟨#[97]⟩]) (.agg #[.int .i64 2, .int .i64 0, .int .i64 1, .string ⟨#[97]⟩])).run Try.prog w = .ok (.bool true) w := fun w => eq_cd l21a w
  have hE2 : ∀ w, (binOp .eql 32 (.agg #[.int .i64 0, .int .i64 0, .int .i64 0, .string ⟨#[]⟩]) (.agg #[.int .i64 0, .int .i64 0, .int .i64 0, .string ⟨#[]⟩])).run Try.prog w = .ok (.bool true) w := fun w => eq_cd zcd w
  have cat4 := Lib.hid ((x21_cat R1.out R2.out).on B3.out)
  have ls4 := Lib.hid ((cs_three (x := l21s) (y := l21a) (z := l21b) R4.out).on B3.out)
  have QF := Lib.hid (fun u (hu : Below w4.heap.size w4 u) => (QM.out.fr c21x _ l21a Aa Ab Ac 0 0 1 ca cb cc u (cat4.out.on hu)).mono (R' := fun e w' => e = .returned (.bool false) ∧ Below u.heap.size u w') (fun e w' ⟨he, hb⟩ => ⟨by rw [he]; rfl, hb⟩))
  have QG := Lib.hid (fun u Y1 Y2 Y3 k1 k2 k3 (hu : Below w4.heap.size w4 u) => (QM.out.fr c21x _ l21s Y1 Y2 Y3 0 0 0 k1 k2 k3 u (cat4.out.on hu)).mono (R' := fun e w' => e = .returned (.bool true) ∧ Below u.heap.size u w') (fun e w' ⟨he, hb⟩ => ⟨by rw [he]; rfl, hb⟩))
  have QR := Lib.hid (fun u (hu : Below w4.heap.size w4 u) => (QM.out.rs c21x _ _ [l21s] l21s [] u (cat4.out.on hu) (cs_fst (ls4.out.on hu)) (by decide) x21_ok1 rfl).mono (R' := fun e w' => ∃ (Y1 Y2 Y3 : Option Addr) (k1 k2 k3 : Nat), e = .returned (.agg #[.int .i64 1, .int .i64 0, .int .i64 9, .string ⟨#[115]⟩, .slice Y1 0 k1, .slice Y2 0 k2, .slice Y3 0 k3]) ∧ Below u.heap.size u w') (fun e w' ⟨a, b, d, he, hr, hb⟩ => by
    obtain ⟨Y1, k1, rfl⟩ := ints_form hr.fa
    obtain ⟨Y2, k2, rfl⟩ := ints_form hr.fb
    obtain ⟨Y3, k3, rfl⟩ := ints_form hr.fc
    exact ⟨Y1, Y2, Y3, k1, k2, k3, he, hb⟩))
  have Hs : Hid (w4.drew.cell? ⟨w1.heap.size, 0, none⟩ = some (.int .i64 2) ∧ w4.drew.cell? ⟨w1.heap.size, 1, none⟩ = some (.int .i64 0) ∧ w4.drew.cell? ⟨w1.heap.size, 2, none⟩ = some (.int .i64 1) ∧ w4.drew.cell? ⟨w1.heap.size, 3, none⟩ = some (.string ⟨#[97]⟩) ∧ w4.drew.cell? ⟨w1.heap.size, 4, none⟩ = some (.slice Aa 0 ca) ∧ w4.drew.cell? ⟨w1.heap.size, 5, none⟩ = some (.slice Ab 0 cb) ∧ w4.drew.cell? ⟨w1.heap.size, 6, none⟩ = some (.slice Ac 1 cc) ∧ w4.drew.cell? ⟨w2.heap.size, 0, none⟩ = some (.int .i64 0) ∧ w4.drew.cell? ⟨w2.heap.size, 1, none⟩ = some (.int .i64 0) ∧ w4.drew.cell? ⟨w2.heap.size, 2, none⟩ = some (.int .i64 0) ∧ w4.drew.cell? ⟨w2.heap.size, 3, none⟩ = some (.string ⟨#[]⟩) ∧ w4.drew.cell? ⟨w2.heap.size, 4, none⟩ = some (.slice Da 0 ea) ∧ w4.drew.cell? ⟨w2.heap.size, 5, none⟩ = some (.slice Db 1 eb) ∧ w4.drew.cell? ⟨w2.heap.size, 6, none⟩ = some (.slice Dc 1 ec) ∧ w4.drew.cell? ⟨W.heap.size + 1 + 1 + 1, 0, none⟩ = some (.int .i64 2) ∧ w4.drew.cell? ⟨W.heap.size + 1 + 1 + 1, 1, none⟩ = some (.slice (some ⟨W.heap.size + 1, 0, none⟩) 1 1) ∧ w4.drew.cell? ⟨W.heap.size + 1 + 1 + 1, 2, none⟩ = some (.slice (some ⟨W.heap.size + 1 + 1, 0, none⟩) 2 2) ∧ w4.drew.cell? ⟨W.heap.size + 1 + 1 + 1 + 1, 4, none⟩ = some (.int .i64 2) ∧ w4.drew.cell? ⟨W.heap.size + 1 + 1 + 1 + 1, 5, none⟩ = some (.int .i64 0) ∧ w4.drew.cell? ⟨W.heap.size + 1 + 1 + 1 + 1, 6, none⟩ = some (.int .i64 1) ∧ w4.drew.cell? ⟨W.heap.size + 1 + 1 + 1 + 1, 7, none⟩ = some (.string ⟨#[97]⟩) ∧ Below w4.heap.size w4 w4.drew) := Lib.hid ⟨p0, p1, p2, p3, p4, p5, p6, g0, g1, g2, g3, g4, g5, g6, d0, d1, d2, (cc0 4).trans rfl, (cc0 5).trans rfl, (cc0 6).trans rfl, (cc0 7).trans rfl, below_dn (Below.refl _ _) 1⟩
  clear cc0
  refine wp_region_held_drew (S := fun u => (u.cell? ⟨w1.heap.size, 0, none⟩ = some (.int .i64 2) ∧ u.cell? ⟨w1.heap.size, 1, none⟩ = some (.int .i64 0) ∧ u.cell? ⟨w1.heap.size, 2, none⟩ = some (.int .i64 1) ∧ u.cell? ⟨w1.heap.size, 3, none⟩ = some (.string ⟨#[97]⟩) ∧ u.cell? ⟨w1.heap.size, 4, none⟩ = some (.slice Aa 0 ca) ∧ u.cell? ⟨w1.heap.size, 5, none⟩ = some (.slice Ab 0 cb) ∧ u.cell? ⟨w1.heap.size, 6, none⟩ = some (.slice Ac 1 cc) ∧ u.cell? ⟨w2.heap.size, 0, none⟩ = some (.int .i64 0) ∧ u.cell? ⟨w2.heap.size, 1, none⟩ = some (.int .i64 0) ∧ u.cell? ⟨w2.heap.size, 2, none⟩ = some (.int .i64 0) ∧ u.cell? ⟨w2.heap.size, 3, none⟩ = some (.string ⟨#[]⟩) ∧ u.cell? ⟨w2.heap.size, 4, none⟩ = some (.slice Da 0 ea) ∧ u.cell? ⟨w2.heap.size, 5, none⟩ = some (.slice Db 1 eb) ∧ u.cell? ⟨w2.heap.size, 6, none⟩ = some (.slice Dc 1 ec) ∧ u.cell? ⟨W.heap.size + 1 + 1 + 1, 0, none⟩ = some (.int .i64 2) ∧ u.cell? ⟨W.heap.size + 1 + 1 + 1, 1, none⟩ = some (.slice (some ⟨W.heap.size + 1, 0, none⟩) 1 1) ∧ u.cell? ⟨W.heap.size + 1 + 1 + 1, 2, none⟩ = some (.slice (some ⟨W.heap.size + 1 + 1, 0, none⟩) 2 2) ∧ u.cell? ⟨W.heap.size + 1 + 1 + 1 + 1, 4, none⟩ = some (.int .i64 2) ∧ u.cell? ⟨W.heap.size + 1 + 1 + 1 + 1, 5, none⟩ = some (.int .i64 0) ∧ u.cell? ⟨W.heap.size + 1 + 1 + 1 + 1, 6, none⟩ = some (.int .i64 1) ∧ u.cell? ⟨W.heap.size + 1 + 1 + 1 + 1, 7, none⟩ = some (.string ⟨#[97]⟩) ∧ Below w4.heap.size w4 u)) (by kernel_rfl) Hs.out (fun hHeld => ?_)
  refine wpAnyH_take (i := 0) (oi := { dst := some 26, op := _, type := _, pos := _, after := _, guard := _ }) (v := ?v1_0) rfl (by kernel_rfl) (by kernel_rfl) (by kernel_rfl) (fun _ _ _ h => h) (Or.inl ⟨by rfl, ?hy1_0⟩) hHeld ?_
  case hy1_0 => (intro w hSw; (try dsimp only at hSw); go_simp; try with_reducible rfl)
  simp only [Act.put, List.setIfInBounds_toArray, List.set_cons_zero, List.set_cons_succ]
  refine wpAnyH_take (i := 1) (oi := { dst := some 27, op := _, type := _, pos := _, after := _, guard := _ }) (v := ?v1_1) rfl (by kernel_rfl) (by kernel_rfl) (by kernel_rfl) (fun _ _ _ h => h) (Or.inl ⟨by rfl, ?hy1_1⟩) hHeld ?_
  case hy1_1 => (intro w hSw; (try dsimp only at hSw); go_simp; try with_reducible rfl)
  simp only [Act.put, List.setIfInBounds_toArray, List.set_cons_zero, List.set_cons_succ]
  refine wpAnyH_take (i := 2) (oi := { dst := some 28, op := _, type := _, pos := _, after := _, guard := _ }) (v := ?v1_2) rfl (by kernel_rfl) (by kernel_rfl) (by kernel_rfl) (fun _ _ _ h => h) (Or.inl ⟨by rfl, ?hy1_2⟩) hHeld ?_
  case hy1_2 => (intro w hSw; (try dsimp only at hSw); go_simp; try with_reducible rfl)
  simp only [Act.put, List.setIfInBounds_toArray, List.set_cons_zero, List.set_cons_succ]
  refine wpAnyH_take (i := 3) (oi := { dst := some 29, op := _, type := _, pos := _, after := _, guard := _ }) (v := ?v1_3) rfl (by kernel_rfl) (by kernel_rfl) (by kernel_rfl) (fun _ _ _ h => h) (Or.inl ⟨by rfl, ?hy1_3⟩) hHeld ?_
  case hy1_3 => (intro w hSw; (try dsimp only at hSw); go_simp; try with_reducible rfl)
  simp only [Act.put, List.setIfInBounds_toArray, List.set_cons_zero, List.set_cons_succ]
  refine wpAnyH_take (i := 4) (oi := { dst := some 30, op := _, type := _, pos := _, after := _, guard := _ }) (v := ?v1_4) rfl (by kernel_rfl) (by kernel_rfl) (by kernel_rfl) (fun _ _ _ h => h) (Or.inl ⟨by rfl, ?hy1_4⟩) hHeld ?_
  case hy1_4 => (intro w hSw; (try dsimp only at hSw); go_simp; try with_reducible rfl)
  simp only [Act.put, List.setIfInBounds_toArray, List.set_cons_zero, List.set_cons_succ]
  refine wpAnyH_take (i := 5) (oi := { dst := some 31, op := _, type := _, pos := _, after := _, guard := _ }) (v := ?v1_5) rfl (by kernel_rfl) (by kernel_rfl) (by kernel_rfl) (fun _ _ _ h => h) (Or.inl ⟨by rfl, ?hy1_5⟩) hHeld ?_
  case hy1_5 => (intro w hSw; (try dsimp only at hSw); go_simp; try with_reducible rfl)
  simp only [Act.put, List.setIfInBounds_toArray, List.set_cons_zero, List.set_cons_succ]
  refine wpAnyH_take (i := 6) (oi := { dst := some 32, op := _, type := _, pos := _, after := _, guard := _ }) (v := ?v1_6) rfl (by kernel_rfl) (by kernel_rfl) (by kernel_rfl) (fun _ _ _ h => h) (Or.inl ⟨by rfl, ?hy1_6⟩) hHeld ?_
  case hy1_6 => (intro w hSw; (try dsimp only at hSw); go_simp; try with_reducible rfl)
  simp only [Act.put, List.setIfInBounds_toArray, List.set_cons_zero, List.set_cons_succ]
  refine wpAnyH_take (i := 7) (oi := { dst := some 33, op := _, type := _, pos := _, after := _, guard := _ }) (v := ?v1_7) rfl (by kernel_rfl) (by kernel_rfl) (by kernel_rfl) (fun _ _ _ h => h) (Or.inl ⟨by rfl, ?hy1_7⟩) hHeld ?_
  case hy1_7 => (intro w hSw; (try dsimp only at hSw); go_simp; try with_reducible rfl)
  simp only [Act.put, List.setIfInBounds_toArray, List.set_cons_zero, List.set_cons_succ]
  refine wpAnyH_take (i := 8) (oi := { dst := some 34, op := _, type := _, pos := _, after := _, guard := _ }) (v := ?v1_8) rfl (by kernel_rfl) (by kernel_rfl) (by kernel_rfl) (fun _ _ _ h => h) (Or.inl ⟨by rfl, ?hy1_8⟩) hHeld ?_
  case hy1_8 => (intro w hSw; (try dsimp only at hSw); go_simp; try with_reducible rfl)
  simp only [Act.put, List.setIfInBounds_toArray, List.set_cons_zero, List.set_cons_succ]
  refine wpAnyH_take (i := 9) (oi := { dst := some 35, op := _, type := _, pos := _, after := _, guard := _ }) (v := ?v1_9) rfl (by kernel_rfl) (by kernel_rfl) (by kernel_rfl) (fun _ _ _ h => h) (Or.inl ⟨by rfl, ?hy1_9⟩) hHeld ?_
  case hy1_9 => (intro w hSw; (try dsimp only at hSw); go_simp; try with_reducible rfl)
  simp only [Act.put, List.setIfInBounds_toArray, List.set_cons_zero, List.set_cons_succ]
  refine wpAnyH_take (i := 10) (oi := { dst := some 36, op := _, type := _, pos := _, after := _, guard := _ }) (v := ?v1_10) rfl (by kernel_rfl) (by kernel_rfl) (by kernel_rfl) (fun _ _ _ h => h) (Or.inl ⟨by rfl, ?hy1_10⟩) hHeld ?_
  case hy1_10 => (intro w hSw; (try dsimp only at hSw); go_simp; try with_reducible rfl)
  simp only [Act.put, List.setIfInBounds_toArray, List.set_cons_zero, List.set_cons_succ]
  refine wpAnyH_take (i := 11) (oi := { dst := some 37, op := _, type := _, pos := _, after := _, guard := _ }) (v := ?v1_11) rfl (by kernel_rfl) (by kernel_rfl) (by kernel_rfl) (fun _ _ _ h => h) (Or.inl ⟨by rfl, ?hy1_11⟩) hHeld ?_
  case hy1_11 => (intro w hSw; (try dsimp only at hSw); go_simp; try with_reducible rfl)
  simp only [Act.put, List.setIfInBounds_toArray, List.set_cons_zero, List.set_cons_succ]
  refine wpAnyH_take (i := 12) (oi := { dst := some 38, op := _, type := _, pos := _, after := _, guard := _ }) (v := ?v1_12) rfl (by kernel_rfl) (by kernel_rfl) (by kernel_rfl) (fun _ _ _ h => h) (Or.inl ⟨by rfl, ?hy1_12⟩) hHeld ?_
  case hy1_12 => (intro w hSw; (try dsimp only at hSw); go_simp; try with_reducible rfl)
  simp only [Act.put, List.setIfInBounds_toArray, List.set_cons_zero, List.set_cons_succ]
  refine wpAnyH_take (i := 13) (oi := { dst := some 39, op := _, type := _, pos := _, after := _, guard := _ }) (v := ?v1_13) rfl (by kernel_rfl) (by kernel_rfl) (by kernel_rfl) (fun _ _ _ h => h) (Or.inl ⟨by rfl, ?hy1_13⟩) hHeld ?_
  case hy1_13 => (intro w hSw; (try dsimp only at hSw); go_simp; try with_reducible rfl)
  simp only [Act.put, List.setIfInBounds_toArray, List.set_cons_zero, List.set_cons_succ]
  refine wpAnyH_take (i := 14) (oi := { dst := some 40, op := _, type := _, pos := _, after := _, guard := _ }) (v := ?v1_14) rfl (by kernel_rfl) (by kernel_rfl) (by kernel_rfl) (fun _ _ _ h => h) (Or.inl ⟨by rfl, ?hy1_14⟩) hHeld ?_
  case hy1_14 => (intro w hSw; (try dsimp only at hSw); go_simp; try with_reducible rfl)
  simp only [Act.put, List.setIfInBounds_toArray, List.set_cons_zero, List.set_cons_succ]
  refine wpAnyH_take (i := 15) (oi := { dst := some 41, op := _, type := _, pos := _, after := _, guard := _ }) (v := ?v1_15) rfl (by kernel_rfl) (by kernel_rfl) (by kernel_rfl) (fun _ _ _ h => h) (Or.inl ⟨by rfl, ?hy1_15⟩) hHeld ?_
  case hy1_15 => (intro w hSw; (try dsimp only at hSw); go_simp; try with_reducible rfl)
  simp only [Act.put, List.setIfInBounds_toArray, List.set_cons_zero, List.set_cons_succ]
  refine wpAnyH_take (i := 16) (oi := { dst := some 42, op := _, type := _, pos := _, after := _, guard := _ }) (v := ?v1_16) rfl (by kernel_rfl) (by kernel_rfl) (by kernel_rfl) (fun _ _ _ h => h) (Or.inl ⟨by rfl, ?hy1_16⟩) hHeld ?_
  case hy1_16 => (intro w hSw; (try dsimp only at hSw); go_simp; try with_reducible rfl)
  simp only [Act.put, List.setIfInBounds_toArray, List.set_cons_zero, List.set_cons_succ]
  refine wpAnyH_take (i := 17) (oi := { dst := some 43, op := _, type := _, pos := _, after := _, guard := _ }) (v := ?v1_17) rfl (by kernel_rfl) (by kernel_rfl) (by kernel_rfl) (fun _ _ _ h => h) (Or.inl ⟨by rfl, ?hy1_17⟩) hHeld ?_
  case hy1_17 => (intro w hSw; (try dsimp only at hSw); go_simp; try with_reducible rfl)
  simp only [Act.put, List.setIfInBounds_toArray, List.set_cons_zero, List.set_cons_succ]
  refine wpAnyH_take (i := 18) (oi := { dst := some 44, op := _, type := _, pos := _, after := _, guard := _ }) (v := ?v1_18) rfl (by kernel_rfl) (by kernel_rfl) (by kernel_rfl) (fun _ _ _ h => h) (Or.inl ⟨by rfl, ?hy1_18⟩) hHeld ?_
  case hy1_18 => (intro w hSw; (try dsimp only at hSw); go_simp; try with_reducible rfl)
  simp only [Act.put, List.setIfInBounds_toArray, List.set_cons_zero, List.set_cons_succ]
  refine wpAnyH_take (i := 19) (oi := { dst := some 45, op := _, type := _, pos := _, after := _, guard := _ }) (v := ?v1_19) rfl (by kernel_rfl) (by kernel_rfl) (by kernel_rfl) (fun _ _ _ h => h) (Or.inl ⟨by rfl, ?hy1_19⟩) hHeld ?_
  case hy1_19 => (intro w hSw; (try dsimp only at hSw); go_simp; try with_reducible rfl)
  simp only [Act.put, List.setIfInBounds_toArray, List.set_cons_zero, List.set_cons_succ]
  refine wpAnyH_take (i := 20) (oi := { dst := some 46, op := _, type := _, pos := _, after := _, guard := _ }) (v := ?v1_20) rfl (by kernel_rfl) (by kernel_rfl) (by kernel_rfl) (fun _ _ _ h => h) (Or.inl ⟨by rfl, ?hy1_20⟩) hHeld ?_
  case hy1_20 => (intro w hSw; (try dsimp only at hSw); go_simp; try with_reducible rfl)
  simp only [Act.put, List.setIfInBounds_toArray, List.set_cons_zero, List.set_cons_succ]
  refine wpAnyH_ready (rs := [21]) (by kernel_rfl) (by simp) ?_
  refine AllReadyH.cons (o := { dst := some 47, op := _, type := _, pos := _, after := _, guard := _ }) rfl (fun K hK => ?_) AllReadyH.nil
  go_simp
  refine hK.out _ _ (aw_keep hHeld _) (fun hHeld => ?_)
  clear hK K
  refine wpAnyH_ready (rs := [22]) (by kernel_rfl) (by simp) ?_
  refine AllReadyH.cons (o := { dst := some 48, op := _, type := _, pos := _, after := _, guard := _ }) rfl (fun K hK => ?_) AllReadyH.nil
  go_simp
  go_at_call 21
  refine (nums_yes _ _ [1] _ ((HI.out.on hHeld.2.2.2.2.2.2.2.2.2.2.2.2.2.2.2.2.2.2.2.2.2)) (IntsAt.made1 _ _)).mono ?_
  rintro e1 x1 ⟨rfl, hbn1⟩
  have hsn1 : (x1.cell? ⟨w1.heap.size, 0, none⟩ = some (.int .i64 2) ∧ x1.cell? ⟨w1.heap.size, 1, none⟩ = some (.int .i64 0) ∧ x1.cell? ⟨w1.heap.size, 2, none⟩ = some (.int .i64 1) ∧ x1.cell? ⟨w1.heap.size, 3, none⟩ = some (.string ⟨#[97]⟩) ∧ x1.cell? ⟨w1.heap.size, 4, none⟩ = some (.slice Aa 0 ca) ∧ x1.cell? ⟨w1.heap.size, 5, none⟩ = some (.slice Ab 0 cb) ∧ x1.cell? ⟨w1.heap.size, 6, none⟩ = some (.slice Ac 1 cc) ∧ x1.cell? ⟨w2.heap.size, 0, none⟩ = some (.int .i64 0) ∧ x1.cell? ⟨w2.heap.size, 1, none⟩ = some (.int .i64 0) ∧ x1.cell? ⟨w2.heap.size, 2, none⟩ = some (.int .i64 0) ∧ x1.cell? ⟨w2.heap.size, 3, none⟩ = some (.string ⟨#[]⟩) ∧ x1.cell? ⟨w2.heap.size, 4, none⟩ = some (.slice Da 0 ea) ∧ x1.cell? ⟨w2.heap.size, 5, none⟩ = some (.slice Db 1 eb) ∧ x1.cell? ⟨w2.heap.size, 6, none⟩ = some (.slice Dc 1 ec) ∧ x1.cell? ⟨W.heap.size + 1 + 1 + 1, 0, none⟩ = some (.int .i64 2) ∧ x1.cell? ⟨W.heap.size + 1 + 1 + 1, 1, none⟩ = some (.slice (some ⟨W.heap.size + 1, 0, none⟩) 1 1) ∧ x1.cell? ⟨W.heap.size + 1 + 1 + 1, 2, none⟩ = some (.slice (some ⟨W.heap.size + 1 + 1, 0, none⟩) 2 2) ∧ x1.cell? ⟨W.heap.size + 1 + 1 + 1 + 1, 4, none⟩ = some (.int .i64 2) ∧ x1.cell? ⟨W.heap.size + 1 + 1 + 1 + 1, 5, none⟩ = some (.int .i64 0) ∧ x1.cell? ⟨W.heap.size + 1 + 1 + 1 + 1, 6, none⟩ = some (.int .i64 1) ∧ x1.cell? ⟨W.heap.size + 1 + 1 + 1 + 1, 7, none⟩ = some (.string ⟨#[97]⟩) ∧ Below w4.heap.size w4 x1) := ⟨cell_below hHeld.1 hbn1, cell_below hHeld.2.1 hbn1, cell_below hHeld.2.2.1 hbn1, cell_below hHeld.2.2.2.1 hbn1, cell_below hHeld.2.2.2.2.1 hbn1, cell_below hHeld.2.2.2.2.2.1 hbn1, cell_below hHeld.2.2.2.2.2.2.1 hbn1, cell_below hHeld.2.2.2.2.2.2.2.1 hbn1, cell_below hHeld.2.2.2.2.2.2.2.2.1 hbn1, cell_below hHeld.2.2.2.2.2.2.2.2.2.1 hbn1, cell_below hHeld.2.2.2.2.2.2.2.2.2.2.1 hbn1, cell_below hHeld.2.2.2.2.2.2.2.2.2.2.2.1 hbn1, cell_below hHeld.2.2.2.2.2.2.2.2.2.2.2.2.1 hbn1, cell_below hHeld.2.2.2.2.2.2.2.2.2.2.2.2.2.1 hbn1, cell_below hHeld.2.2.2.2.2.2.2.2.2.2.2.2.2.2.1 hbn1, cell_below hHeld.2.2.2.2.2.2.2.2.2.2.2.2.2.2.2.1 hbn1, cell_below hHeld.2.2.2.2.2.2.2.2.2.2.2.2.2.2.2.2.1 hbn1, cell_below hHeld.2.2.2.2.2.2.2.2.2.2.2.2.2.2.2.2.2.1 hbn1, cell_below hHeld.2.2.2.2.2.2.2.2.2.2.2.2.2.2.2.2.2.2.1 hbn1, cell_below hHeld.2.2.2.2.2.2.2.2.2.2.2.2.2.2.2.2.2.2.2.1 hbn1, cell_below hHeld.2.2.2.2.2.2.2.2.2.2.2.2.2.2.2.2.2.2.2.2.1 hbn1, below_on hHeld.2.2.2.2.2.2.2.2.2.2.2.2.2.2.2.2.2.2.2.2.2 hbn1⟩
  refine hK.out _ _ hsn1 (fun hHeld => ?_)
  clear hK K
  refine wpAnyH_take (i := 23) (oi := { dst := some 49, op := _, type := _, pos := _, after := _, guard := _ }) (v := ?v1_23) rfl (by kernel_rfl) (by kernel_rfl) (by kernel_rfl) (fun _ _ _ h => h) (Or.inl ⟨by rfl, ?hy1_23⟩) hHeld ?_
  case hy1_23 => (intro w hSw; (try dsimp only at hSw); go_simp; try with_reducible rfl)
  simp only [Act.put, List.setIfInBounds_toArray, List.set_cons_zero, List.set_cons_succ]
  refine wpAnyH_take (i := 24) (oi := { dst := some 50, op := _, type := _, pos := _, after := _, guard := _ }) (v := ?v1_24) rfl (by kernel_rfl) (by kernel_rfl) (by kernel_rfl) (fun _ _ _ h => h) (Or.inl ⟨by rfl, ?hy1_24⟩) hHeld ?_
  case hy1_24 => (intro w hSw; (try dsimp only at hSw); go_simp; try with_reducible rfl)
  simp only [Act.put, List.setIfInBounds_toArray, List.set_cons_zero, List.set_cons_succ]
  refine wpAnyH_take (i := 25) (oi := { dst := some 51, op := _, type := _, pos := _, after := _, guard := _ }) (v := ?v1_25) rfl (by kernel_rfl) (by kernel_rfl) (by kernel_rfl) (fun _ _ _ h => h) (Or.inl ⟨by rfl, ?hy1_25⟩) hHeld ?_
  case hy1_25 => (intro w hSw; (try dsimp only at hSw); go_simp; try with_reducible rfl)
  simp only [Act.put, List.setIfInBounds_toArray, List.set_cons_zero, List.set_cons_succ]
  refine wpAnyH_take (i := 26) (oi := { dst := some 52, op := _, type := _, pos := _, after := _, guard := _ }) (v := ?v1_26) rfl (by kernel_rfl) (by kernel_rfl) (by kernel_rfl) (fun _ _ _ h => h) (Or.inl ⟨by rfl, ?hy1_26⟩) hHeld ?_
  case hy1_26 => (intro w hSw; (try dsimp only at hSw); go_simp; try with_reducible rfl)
  simp only [Act.put, List.setIfInBounds_toArray, List.set_cons_zero, List.set_cons_succ]
  refine wpAnyH_ready (rs := [27]) (by kernel_rfl) (by simp) ?_
  refine AllReadyH.cons (o := { dst := some 53, op := _, type := _, pos := _, after := _, guard := _ }) rfl (fun K hK => ?_) AllReadyH.nil
  go_simp
  go_at_call 15
  refine (QF.out _ hHeld.2.2.2.2.2.2.2.2.2.2.2.2.2.2.2.2.2.2.2.2.2).mono ?_
  rintro e2 x2 ⟨rfl, hb2⟩
  have hs2 : (x2.cell? ⟨w1.heap.size, 0, none⟩ = some (.int .i64 2) ∧ x2.cell? ⟨w1.heap.size, 1, none⟩ = some (.int .i64 0) ∧ x2.cell? ⟨w1.heap.size, 2, none⟩ = some (.int .i64 1) ∧ x2.cell? ⟨w1.heap.size, 3, none⟩ = some (.string ⟨#[97]⟩) ∧ x2.cell? ⟨w1.heap.size, 4, none⟩ = some (.slice Aa 0 ca) ∧ x2.cell? ⟨w1.heap.size, 5, none⟩ = some (.slice Ab 0 cb) ∧ x2.cell? ⟨w1.heap.size, 6, none⟩ = some (.slice Ac 1 cc) ∧ x2.cell? ⟨w2.heap.size, 0, none⟩ = some (.int .i64 0) ∧ x2.cell? ⟨w2.heap.size, 1, none⟩ = some (.int .i64 0) ∧ x2.cell? ⟨w2.heap.size, 2, none⟩ = some (.int .i64 0) ∧ x2.cell? ⟨w2.heap.size, 3, none⟩ = some (.string ⟨#[]⟩) ∧ x2.cell? ⟨w2.heap.size, 4, none⟩ = some (.slice Da 0 ea) ∧ x2.cell? ⟨w2.heap.size, 5, none⟩ = some (.slice Db 1 eb) ∧ x2.cell? ⟨w2.heap.size, 6, none⟩ = some (.slice Dc 1 ec) ∧ x2.cell? ⟨W.heap.size + 1 + 1 + 1, 0, none⟩ = some (.int .i64 2) ∧ x2.cell? ⟨W.heap.size + 1 + 1 + 1, 1, none⟩ = some (.slice (some ⟨W.heap.size + 1, 0, none⟩) 1 1) ∧ x2.cell? ⟨W.heap.size + 1 + 1 + 1, 2, none⟩ = some (.slice (some ⟨W.heap.size + 1 + 1, 0, none⟩) 2 2) ∧ x2.cell? ⟨W.heap.size + 1 + 1 + 1 + 1, 4, none⟩ = some (.int .i64 2) ∧ x2.cell? ⟨W.heap.size + 1 + 1 + 1 + 1, 5, none⟩ = some (.int .i64 0) ∧ x2.cell? ⟨W.heap.size + 1 + 1 + 1 + 1, 6, none⟩ = some (.int .i64 1) ∧ x2.cell? ⟨W.heap.size + 1 + 1 + 1 + 1, 7, none⟩ = some (.string ⟨#[97]⟩) ∧ Below w4.heap.size w4 x2) := ⟨cell_below hHeld.1 hb2, cell_below hHeld.2.1 hb2, cell_below hHeld.2.2.1 hb2, cell_below hHeld.2.2.2.1 hb2, cell_below hHeld.2.2.2.2.1 hb2, cell_below hHeld.2.2.2.2.2.1 hb2, cell_below hHeld.2.2.2.2.2.2.1 hb2, cell_below hHeld.2.2.2.2.2.2.2.1 hb2, cell_below hHeld.2.2.2.2.2.2.2.2.1 hb2, cell_below hHeld.2.2.2.2.2.2.2.2.2.1 hb2, cell_below hHeld.2.2.2.2.2.2.2.2.2.2.1 hb2, cell_below hHeld.2.2.2.2.2.2.2.2.2.2.2.1 hb2, cell_below hHeld.2.2.2.2.2.2.2.2.2.2.2.2.1 hb2, cell_below hHeld.2.2.2.2.2.2.2.2.2.2.2.2.2.1 hb2, cell_below hHeld.2.2.2.2.2.2.2.2.2.2.2.2.2.2.1 hb2, cell_below hHeld.2.2.2.2.2.2.2.2.2.2.2.2.2.2.2.1 hb2, cell_below hHeld.2.2.2.2.2.2.2.2.2.2.2.2.2.2.2.2.1 hb2, cell_below hHeld.2.2.2.2.2.2.2.2.2.2.2.2.2.2.2.2.2.1 hb2, cell_below hHeld.2.2.2.2.2.2.2.2.2.2.2.2.2.2.2.2.2.2.1 hb2, cell_below hHeld.2.2.2.2.2.2.2.2.2.2.2.2.2.2.2.2.2.2.2.1 hb2, cell_below hHeld.2.2.2.2.2.2.2.2.2.2.2.2.2.2.2.2.2.2.2.2.1 hb2, below_on hHeld.2.2.2.2.2.2.2.2.2.2.2.2.2.2.2.2.2.2.2.2.2 hb2⟩
  refine hK.out _ _ hs2 (fun hHeld => ?_)
  clear hK K
  refine wpAnyH_take (i := 28) (oi := { dst := some 54, op := _, type := _, pos := _, after := _, guard := _ }) (v := ?v1_28) rfl (by kernel_rfl) (by kernel_rfl) (by kernel_rfl) (fun _ _ _ h => h) (Or.inl ⟨by rfl, ?hy1_28⟩) hHeld ?_
  case hy1_28 => (intro w hSw; (try dsimp only at hSw); go_simp; try with_reducible rfl)
  simp only [Act.put, List.setIfInBounds_toArray, List.set_cons_zero, List.set_cons_succ]
  refine wpAnyH_take (i := 29) (oi := { dst := some 55, op := _, type := _, pos := _, after := _, guard := _ }) (v := ?v1_29) rfl (by kernel_rfl) (by kernel_rfl) (by kernel_rfl) (fun _ _ _ h => h) (Or.inl ⟨by rfl, ?hy1_29⟩) hHeld ?_
  case hy1_29 => (intro w hSw; (try dsimp only at hSw); go_simp; try with_reducible rfl)
  simp only [Act.put, List.setIfInBounds_toArray, List.set_cons_zero, List.set_cons_succ]
  refine wpAnyH_take (i := 30) (oi := { dst := some 56, op := _, type := _, pos := _, after := _, guard := _ }) (v := ?v1_30) rfl (by kernel_rfl) (by kernel_rfl) (by kernel_rfl) (fun _ _ _ h => h) (Or.inl ⟨by rfl, ?hy1_30⟩) hHeld ?_
  case hy1_30 => (intro w hSw; (try dsimp only at hSw); go_simp; try with_reducible rfl)
  simp only [Act.put, List.setIfInBounds_toArray, List.set_cons_zero, List.set_cons_succ]
  refine wpAnyH_take (i := 31) (oi := { dst := some 57, op := _, type := _, pos := _, after := _, guard := _ }) (v := ?v1_31) rfl (by kernel_rfl) (by kernel_rfl) (by kernel_rfl) (fun _ _ _ h => h) (Or.inl ⟨by rfl, ?hy1_31⟩) hHeld ?_
  case hy1_31 => (intro w hSw; (try dsimp only at hSw); go_simp; try with_reducible rfl)
  simp only [Act.put, List.setIfInBounds_toArray, List.set_cons_zero, List.set_cons_succ]
  refine wpAnyH_take (i := 32) (oi := { dst := some 58, op := _, type := _, pos := _, after := _, guard := _ }) (v := ?v1_32) rfl (by kernel_rfl) (by kernel_rfl) (by kernel_rfl) (fun _ _ _ h => h) (Or.inl ⟨by rfl, ?hy1_32⟩) hHeld ?_
  case hy1_32 => (intro w hSw; (try dsimp only at hSw); go_simp; try with_reducible rfl)
  simp only [Act.put, List.setIfInBounds_toArray, List.set_cons_zero, List.set_cons_succ]
  refine wpAnyH_take (i := 33) (oi := { dst := some 59, op := _, type := _, pos := _, after := _, guard := _ }) (v := ?v1_33) rfl (by kernel_rfl) (by kernel_rfl) (by kernel_rfl) (fun _ _ _ h => h) (Or.inl ⟨by rfl, ?hy1_33⟩) hHeld ?_
  case hy1_33 => (intro w hSw; (try dsimp only at hSw); go_simp; try with_reducible rfl)
  simp only [Act.put, List.setIfInBounds_toArray, List.set_cons_zero, List.set_cons_succ]
  refine wpAnyH_take (i := 34) (oi := { dst := some 60, op := _, type := _, pos := _, after := _, guard := _ }) (v := ?v1_34) rfl (by kernel_rfl) (by kernel_rfl) (by kernel_rfl) (fun _ _ _ h => h) (Or.inl ⟨by rfl, ?hy1_34⟩) hHeld ?_
  case hy1_34 => (intro w hSw; (try dsimp only at hSw); go_simp; try with_reducible rfl)
  simp only [Act.put, List.setIfInBounds_toArray, List.set_cons_zero, List.set_cons_succ]
  refine wpAnyH_ready (rs := [35]) (by kernel_rfl) (by simp) ?_
  refine AllReadyH.cons (o := { dst := some 61, op := _, type := _, pos := _, after := _, guard := _ }) rfl (fun K hK => ?_) AllReadyH.nil
  go_simp
  go_at_call 11
  refine (QR.out _ hHeld.2.2.2.2.2.2.2.2.2.2.2.2.2.2.2.2.2.2.2.2.2).mono ?_
  rintro e3 x3 ⟨Y1, Y2, Y3, k1, k2, k3, rfl, hb3⟩
  have hs3 : (x3.cell? ⟨w1.heap.size, 0, none⟩ = some (.int .i64 2) ∧ x3.cell? ⟨w1.heap.size, 1, none⟩ = some (.int .i64 0) ∧ x3.cell? ⟨w1.heap.size, 2, none⟩ = some (.int .i64 1) ∧ x3.cell? ⟨w1.heap.size, 3, none⟩ = some (.string ⟨#[97]⟩) ∧ x3.cell? ⟨w1.heap.size, 4, none⟩ = some (.slice Aa 0 ca) ∧ x3.cell? ⟨w1.heap.size, 5, none⟩ = some (.slice Ab 0 cb) ∧ x3.cell? ⟨w1.heap.size, 6, none⟩ = some (.slice Ac 1 cc) ∧ x3.cell? ⟨w2.heap.size, 0, none⟩ = some (.int .i64 0) ∧ x3.cell? ⟨w2.heap.size, 1, none⟩ = some (.int .i64 0) ∧ x3.cell? ⟨w2.heap.size, 2, none⟩ = some (.int .i64 0) ∧ x3.cell? ⟨w2.heap.size, 3, none⟩ = some (.string ⟨#[]⟩) ∧ x3.cell? ⟨w2.heap.size, 4, none⟩ = some (.slice Da 0 ea) ∧ x3.cell? ⟨w2.heap.size, 5, none⟩ = some (.slice Db 1 eb) ∧ x3.cell? ⟨w2.heap.size, 6, none⟩ = some (.slice Dc 1 ec) ∧ x3.cell? ⟨W.heap.size + 1 + 1 + 1, 0, none⟩ = some (.int .i64 2) ∧ x3.cell? ⟨W.heap.size + 1 + 1 + 1, 1, none⟩ = some (.slice (some ⟨W.heap.size + 1, 0, none⟩) 1 1) ∧ x3.cell? ⟨W.heap.size + 1 + 1 + 1, 2, none⟩ = some (.slice (some ⟨W.heap.size + 1 + 1, 0, none⟩) 2 2) ∧ x3.cell? ⟨W.heap.size + 1 + 1 + 1 + 1, 4, none⟩ = some (.int .i64 2) ∧ x3.cell? ⟨W.heap.size + 1 + 1 + 1 + 1, 5, none⟩ = some (.int .i64 0) ∧ x3.cell? ⟨W.heap.size + 1 + 1 + 1 + 1, 6, none⟩ = some (.int .i64 1) ∧ x3.cell? ⟨W.heap.size + 1 + 1 + 1 + 1, 7, none⟩ = some (.string ⟨#[97]⟩) ∧ Below w4.heap.size w4 x3) := ⟨cell_below hHeld.1 hb3, cell_below hHeld.2.1 hb3, cell_below hHeld.2.2.1 hb3, cell_below hHeld.2.2.2.1 hb3, cell_below hHeld.2.2.2.2.1 hb3, cell_below hHeld.2.2.2.2.2.1 hb3, cell_below hHeld.2.2.2.2.2.2.1 hb3, cell_below hHeld.2.2.2.2.2.2.2.1 hb3, cell_below hHeld.2.2.2.2.2.2.2.2.1 hb3, cell_below hHeld.2.2.2.2.2.2.2.2.2.1 hb3, cell_below hHeld.2.2.2.2.2.2.2.2.2.2.1 hb3, cell_below hHeld.2.2.2.2.2.2.2.2.2.2.2.1 hb3, cell_below hHeld.2.2.2.2.2.2.2.2.2.2.2.2.1 hb3, cell_below hHeld.2.2.2.2.2.2.2.2.2.2.2.2.2.1 hb3, cell_below hHeld.2.2.2.2.2.2.2.2.2.2.2.2.2.2.1 hb3, cell_below hHeld.2.2.2.2.2.2.2.2.2.2.2.2.2.2.2.1 hb3, cell_below hHeld.2.2.2.2.2.2.2.2.2.2.2.2.2.2.2.2.1 hb3, cell_below hHeld.2.2.2.2.2.2.2.2.2.2.2.2.2.2.2.2.2.1 hb3, cell_below hHeld.2.2.2.2.2.2.2.2.2.2.2.2.2.2.2.2.2.2.1 hb3, cell_below hHeld.2.2.2.2.2.2.2.2.2.2.2.2.2.2.2.2.2.2.2.1 hb3, cell_below hHeld.2.2.2.2.2.2.2.2.2.2.2.2.2.2.2.2.2.2.2.2.1 hb3, below_on hHeld.2.2.2.2.2.2.2.2.2.2.2.2.2.2.2.2.2.2.2.2.2 hb3⟩
  refine hK.out _ _ hs3 (fun hHeld => ?_)
  clear hK K
  refine wpAnyH_ready (rs := [36]) (by kernel_rfl) (by simp) ?_
  refine AllReadyH.cons (o := { dst := some 62, op := _, type := _, pos := _, after := _, guard := _ }) rfl (fun K hK => ?_) AllReadyH.nil
  go_simp
  go_at_call 15
  refine (QG.out _ Y1 Y2 Y3 k1 k2 k3 hHeld.2.2.2.2.2.2.2.2.2.2.2.2.2.2.2.2.2.2.2.2.2).mono ?_
  rintro e4 x4 ⟨rfl, hb4⟩
  have hs4 : (x4.cell? ⟨w1.heap.size, 0, none⟩ = some (.int .i64 2) ∧ x4.cell? ⟨w1.heap.size, 1, none⟩ = some (.int .i64 0) ∧ x4.cell? ⟨w1.heap.size, 2, none⟩ = some (.int .i64 1) ∧ x4.cell? ⟨w1.heap.size, 3, none⟩ = some (.string ⟨#[97]⟩) ∧ x4.cell? ⟨w1.heap.size, 4, none⟩ = some (.slice Aa 0 ca) ∧ x4.cell? ⟨w1.heap.size, 5, none⟩ = some (.slice Ab 0 cb) ∧ x4.cell? ⟨w1.heap.size, 6, none⟩ = some (.slice Ac 1 cc) ∧ x4.cell? ⟨w2.heap.size, 0, none⟩ = some (.int .i64 0) ∧ x4.cell? ⟨w2.heap.size, 1, none⟩ = some (.int .i64 0) ∧ x4.cell? ⟨w2.heap.size, 2, none⟩ = some (.int .i64 0) ∧ x4.cell? ⟨w2.heap.size, 3, none⟩ = some (.string ⟨#[]⟩) ∧ x4.cell? ⟨w2.heap.size, 4, none⟩ = some (.slice Da 0 ea) ∧ x4.cell? ⟨w2.heap.size, 5, none⟩ = some (.slice Db 1 eb) ∧ x4.cell? ⟨w2.heap.size, 6, none⟩ = some (.slice Dc 1 ec) ∧ x4.cell? ⟨W.heap.size + 1 + 1 + 1, 0, none⟩ = some (.int .i64 2) ∧ x4.cell? ⟨W.heap.size + 1 + 1 + 1, 1, none⟩ = some (.slice (some ⟨W.heap.size + 1, 0, none⟩) 1 1) ∧ x4.cell? ⟨W.heap.size + 1 + 1 + 1, 2, none⟩ = some (.slice (some ⟨W.heap.size + 1 + 1, 0, none⟩) 2 2) ∧ x4.cell? ⟨W.heap.size + 1 + 1 + 1 + 1, 4, none⟩ = some (.int .i64 2) ∧ x4.cell? ⟨W.heap.size + 1 + 1 + 1 + 1, 5, none⟩ = some (.int .i64 0) ∧ x4.cell? ⟨W.heap.size + 1 + 1 + 1 + 1, 6, none⟩ = some (.int .i64 1) ∧ x4.cell? ⟨W.heap.size + 1 + 1 + 1 + 1, 7, none⟩ = some (.string ⟨#[97]⟩) ∧ Below w4.heap.size w4 x4) := ⟨cell_below hHeld.1 hb4, cell_below hHeld.2.1 hb4, cell_below hHeld.2.2.1 hb4, cell_below hHeld.2.2.2.1 hb4, cell_below hHeld.2.2.2.2.1 hb4, cell_below hHeld.2.2.2.2.2.1 hb4, cell_below hHeld.2.2.2.2.2.2.1 hb4, cell_below hHeld.2.2.2.2.2.2.2.1 hb4, cell_below hHeld.2.2.2.2.2.2.2.2.1 hb4, cell_below hHeld.2.2.2.2.2.2.2.2.2.1 hb4, cell_below hHeld.2.2.2.2.2.2.2.2.2.2.1 hb4, cell_below hHeld.2.2.2.2.2.2.2.2.2.2.2.1 hb4, cell_below hHeld.2.2.2.2.2.2.2.2.2.2.2.2.1 hb4, cell_below hHeld.2.2.2.2.2.2.2.2.2.2.2.2.2.1 hb4, cell_below hHeld.2.2.2.2.2.2.2.2.2.2.2.2.2.2.1 hb4, cell_below hHeld.2.2.2.2.2.2.2.2.2.2.2.2.2.2.2.1 hb4, cell_below hHeld.2.2.2.2.2.2.2.2.2.2.2.2.2.2.2.2.1 hb4, cell_below hHeld.2.2.2.2.2.2.2.2.2.2.2.2.2.2.2.2.2.1 hb4, cell_below hHeld.2.2.2.2.2.2.2.2.2.2.2.2.2.2.2.2.2.2.1 hb4, cell_below hHeld.2.2.2.2.2.2.2.2.2.2.2.2.2.2.2.2.2.2.2.1 hb4, cell_below hHeld.2.2.2.2.2.2.2.2.2.2.2.2.2.2.2.2.2.2.2.2.1 hb4, below_on hHeld.2.2.2.2.2.2.2.2.2.2.2.2.2.2.2.2.2.2.2.2.2 hb4⟩
  refine hK.out _ _ hs4 (fun hHeld => ?_)
  clear hK K
  refine wpAnyH_take (i := 37) (oi := { dst := some 63, op := _, type := _, pos := _, after := _, guard := _ }) (v := ?v1_37) rfl (by kernel_rfl) (by kernel_rfl) (by kernel_rfl) (fun _ _ _ h => h) (Or.inl ⟨by rfl, ?hy1_37⟩) hHeld ?_
  case hy1_37 => (intro w hSw; (try dsimp only at hSw); go_simp; try with_reducible rfl)
  simp only [Act.put, List.setIfInBounds_toArray, List.set_cons_zero, List.set_cons_succ]
  refine wpAnyH_take (i := 38) (oi := { dst := some 64, op := _, type := _, pos := _, after := _, guard := _ }) (v := ?v1_38) rfl (by kernel_rfl) (by kernel_rfl) (by kernel_rfl) (fun _ _ _ h => h) (Or.inl ⟨by rfl, ?hy1_38⟩) hHeld ?_
  case hy1_38 => (intro w hSw; (try dsimp only at hSw); go_simp; try with_reducible rfl)
  simp only [Act.put, List.setIfInBounds_toArray, List.set_cons_zero, List.set_cons_succ]
  refine wpAnyH_take (i := 39) (oi := { dst := some 65, op := _, type := _, pos := _, after := _, guard := _ }) (v := ?v1_39) rfl (by kernel_rfl) (by kernel_rfl) (by kernel_rfl) (fun _ _ _ h => h) (Or.inl ⟨by rfl, ?hy1_39⟩) hHeld ?_
  case hy1_39 => (intro w hSw; (try dsimp only at hSw); go_simp; try with_reducible rfl)
  simp only [Act.put, List.setIfInBounds_toArray, List.set_cons_zero, List.set_cons_succ]
  refine wpAnyH_take (i := 40) (oi := { dst := some 66, op := _, type := _, pos := _, after := _, guard := _ }) (v := ?v1_40) rfl (by kernel_rfl) (by kernel_rfl) (by kernel_rfl) (fun _ _ _ h => h) (Or.inl ⟨by rfl, ?hy1_40⟩) hHeld ?_
  case hy1_40 => (intro w hSw; (try dsimp only at hSw); go_simp; try with_reducible rfl)
  simp only [Act.put, List.setIfInBounds_toArray, List.set_cons_zero, List.set_cons_succ]
  refine wpAnyH_take (i := 41) (oi := { dst := some 67, op := _, type := _, pos := _, after := _, guard := _ }) (v := ?v1_41) rfl (by kernel_rfl) (by kernel_rfl) (by kernel_rfl) (fun _ _ _ h => h) (Or.inl ⟨by rfl, ?hy1_41⟩) hHeld ?_
  case hy1_41 => (intro w hSw; (try dsimp only at hSw); go_simp; try with_reducible rfl)
  simp only [Act.put, List.setIfInBounds_toArray, List.set_cons_zero, List.set_cons_succ]
  refine wpAnyH_take (i := 42) (oi := { dst := some 68, op := _, type := _, pos := _, after := _, guard := _ }) (v := ?v1_42) rfl (by kernel_rfl) (by kernel_rfl) (by kernel_rfl) (fun _ _ _ h => h) (Or.inl ⟨by rfl, ?hy1_42⟩) hHeld ?_
  case hy1_42 => (intro w hSw; (try dsimp only at hSw); go_simp; try with_reducible rfl)
  simp only [Act.put, List.setIfInBounds_toArray, List.set_cons_zero, List.set_cons_succ]
  refine wpAnyH_take (i := 43) (oi := { dst := some 69, op := _, type := _, pos := _, after := _, guard := _ }) (v := ?v1_43) rfl (by kernel_rfl) (by kernel_rfl) (by kernel_rfl) (fun _ _ _ h => h) (Or.inl ⟨by rfl, ?hy1_43⟩) hHeld ?_
  case hy1_43 => (intro w hSw; (try dsimp only at hSw); go_simp; try with_reducible rfl)
  simp only [Act.put, List.setIfInBounds_toArray, List.set_cons_zero, List.set_cons_succ]
  refine wpAnyH_take (i := 44) (oi := { dst := some 70, op := _, type := _, pos := _, after := _, guard := _ }) (v := ?v1_44) rfl (by kernel_rfl) (by kernel_rfl) (by kernel_rfl) (fun _ _ _ h => h) (Or.inl ⟨by rfl, ?hy1_44⟩) hHeld ?_
  case hy1_44 => (intro w hSw; (try dsimp only at hSw); go_simp; try with_reducible rfl)
  simp only [Act.put, List.setIfInBounds_toArray, List.set_cons_zero, List.set_cons_succ]
  refine wpAnyH_take (i := 45) (oi := { dst := some 71, op := _, type := _, pos := _, after := _, guard := _ }) (v := ?v1_45) rfl (by kernel_rfl) (by kernel_rfl) (by kernel_rfl) (fun _ _ _ h => h) (Or.inl ⟨by rfl, ?hy1_45⟩) hHeld ?_
  case hy1_45 => (intro w hSw; (try dsimp only at hSw); go_simp; try with_reducible rfl)
  simp only [Act.put, List.setIfInBounds_toArray, List.set_cons_zero, List.set_cons_succ]
  refine wpAnyH_take (i := 46) (oi := { dst := some 72, op := _, type := _, pos := _, after := _, guard := _ }) (v := ?v1_46) rfl (by kernel_rfl) (by kernel_rfl) (by kernel_rfl) (fun _ _ _ h => h) (Or.inl ⟨by rfl, ?hy1_46⟩) hHeld ?_
  case hy1_46 => (intro w hSw; (try dsimp only at hSw); go_simp; try with_reducible rfl)
  simp only [Act.put, List.setIfInBounds_toArray, List.set_cons_zero, List.set_cons_succ]
  refine wpAnyH_ready (rs := [47]) (by kernel_rfl) (by simp) ?_
  refine AllReadyH.cons (o := { dst := some 73, op := _, type := _, pos := _, after := _, guard := _ }) rfl (fun K hK => ?_) AllReadyH.nil
  go_simp
  refine hK.out _ _ (aw_keep hHeld _) (fun hHeld => ?_)
  clear hK K
  refine wpAnyH_ready (rs := [48]) (by kernel_rfl) (by simp) ?_
  refine AllReadyH.cons (o := { dst := some 74, op := _, type := _, pos := _, after := _, guard := _ }) rfl (fun K hK => ?_) AllReadyH.nil
  go_simp
  go_at_call 21
  refine (nums_yes _ _ [0] _ ((HO.out.on hHeld.2.2.2.2.2.2.2.2.2.2.2.2.2.2.2.2.2.2.2.2.2)) (IntsAt.made1 _ _)).mono ?_
  rintro e5 x5 ⟨rfl, hbn5⟩
  have hsn5 : (x5.cell? ⟨w1.heap.size, 0, none⟩ = some (.int .i64 2) ∧ x5.cell? ⟨w1.heap.size, 1, none⟩ = some (.int .i64 0) ∧ x5.cell? ⟨w1.heap.size, 2, none⟩ = some (.int .i64 1) ∧ x5.cell? ⟨w1.heap.size, 3, none⟩ = some (.string ⟨#[97]⟩) ∧ x5.cell? ⟨w1.heap.size, 4, none⟩ = some (.slice Aa 0 ca) ∧ x5.cell? ⟨w1.heap.size, 5, none⟩ = some (.slice Ab 0 cb) ∧ x5.cell? ⟨w1.heap.size, 6, none⟩ = some (.slice Ac 1 cc) ∧ x5.cell? ⟨w2.heap.size, 0, none⟩ = some (.int .i64 0) ∧ x5.cell? ⟨w2.heap.size, 1, none⟩ = some (.int .i64 0) ∧ x5.cell? ⟨w2.heap.size, 2, none⟩ = some (.int .i64 0) ∧ x5.cell? ⟨w2.heap.size, 3, none⟩ = some (.string ⟨#[]⟩) ∧ x5.cell? ⟨w2.heap.size, 4, none⟩ = some (.slice Da 0 ea) ∧ x5.cell? ⟨w2.heap.size, 5, none⟩ = some (.slice Db 1 eb) ∧ x5.cell? ⟨w2.heap.size, 6, none⟩ = some (.slice Dc 1 ec) ∧ x5.cell? ⟨W.heap.size + 1 + 1 + 1, 0, none⟩ = some (.int .i64 2) ∧ x5.cell? ⟨W.heap.size + 1 + 1 + 1, 1, none⟩ = some (.slice (some ⟨W.heap.size + 1, 0, none⟩) 1 1) ∧ x5.cell? ⟨W.heap.size + 1 + 1 + 1, 2, none⟩ = some (.slice (some ⟨W.heap.size + 1 + 1, 0, none⟩) 2 2) ∧ x5.cell? ⟨W.heap.size + 1 + 1 + 1 + 1, 4, none⟩ = some (.int .i64 2) ∧ x5.cell? ⟨W.heap.size + 1 + 1 + 1 + 1, 5, none⟩ = some (.int .i64 0) ∧ x5.cell? ⟨W.heap.size + 1 + 1 + 1 + 1, 6, none⟩ = some (.int .i64 1) ∧ x5.cell? ⟨W.heap.size + 1 + 1 + 1 + 1, 7, none⟩ = some (.string ⟨#[97]⟩) ∧ Below w4.heap.size w4 x5) := ⟨cell_below hHeld.1 hbn5, cell_below hHeld.2.1 hbn5, cell_below hHeld.2.2.1 hbn5, cell_below hHeld.2.2.2.1 hbn5, cell_below hHeld.2.2.2.2.1 hbn5, cell_below hHeld.2.2.2.2.2.1 hbn5, cell_below hHeld.2.2.2.2.2.2.1 hbn5, cell_below hHeld.2.2.2.2.2.2.2.1 hbn5, cell_below hHeld.2.2.2.2.2.2.2.2.1 hbn5, cell_below hHeld.2.2.2.2.2.2.2.2.2.1 hbn5, cell_below hHeld.2.2.2.2.2.2.2.2.2.2.1 hbn5, cell_below hHeld.2.2.2.2.2.2.2.2.2.2.2.1 hbn5, cell_below hHeld.2.2.2.2.2.2.2.2.2.2.2.2.1 hbn5, cell_below hHeld.2.2.2.2.2.2.2.2.2.2.2.2.2.1 hbn5, cell_below hHeld.2.2.2.2.2.2.2.2.2.2.2.2.2.2.1 hbn5, cell_below hHeld.2.2.2.2.2.2.2.2.2.2.2.2.2.2.2.1 hbn5, cell_below hHeld.2.2.2.2.2.2.2.2.2.2.2.2.2.2.2.2.1 hbn5, cell_below hHeld.2.2.2.2.2.2.2.2.2.2.2.2.2.2.2.2.2.1 hbn5, cell_below hHeld.2.2.2.2.2.2.2.2.2.2.2.2.2.2.2.2.2.2.1 hbn5, cell_below hHeld.2.2.2.2.2.2.2.2.2.2.2.2.2.2.2.2.2.2.2.1 hbn5, cell_below hHeld.2.2.2.2.2.2.2.2.2.2.2.2.2.2.2.2.2.2.2.2.1 hbn5, below_on hHeld.2.2.2.2.2.2.2.2.2.2.2.2.2.2.2.2.2.2.2.2.2 hbn5⟩
  refine hK.out _ _ hsn5 (fun hHeld => ?_)
  clear hK K
  refine wpAnyH_take (i := 49) (oi := { dst := some 75, op := _, type := _, pos := _, after := _, guard := _ }) (v := ?v1_49) rfl (by kernel_rfl) (by kernel_rfl) (by kernel_rfl) (fun _ _ _ h => h) (Or.inl ⟨by rfl, ?hy1_49⟩) hHeld ?_
  case hy1_49 => (intro w hSw; (try dsimp only at hSw); go_simp; try with_reducible rfl)
  simp only [Act.put, List.setIfInBounds_toArray, List.set_cons_zero, List.set_cons_succ]
  refine wpAnyH_take (i := 50) (oi := { dst := some 0, op := _, type := _, pos := _, after := _, guard := _ }) (v := ?v1_50) rfl (by kernel_rfl) (by kernel_rfl) (by kernel_rfl) (fun _ _ _ h => h) (Or.inl ⟨by rfl, ?hy1_50⟩) hHeld ?_
  case hy1_50 => (intro w hSw; (try dsimp only at hSw); go_simp; try with_reducible rfl)
  simp only [Act.put, List.setIfInBounds_toArray, List.set_cons_zero]
  refine wpAnyH_done (by kernel_rfl) ?_ _
  have HZ := Lib.hid (below_on BU.out (below_on B3.out hsn5.2.2.2.2.2.2.2.2.2.2.2.2.2.2.2.2.2.2.2.2.2))
  clear Hs
  go_wp2_with fail
  go_ret
  exact ⟨rfl, HZ.out⟩
end Go.Proofs.Ytnofmlkjagdklaa
