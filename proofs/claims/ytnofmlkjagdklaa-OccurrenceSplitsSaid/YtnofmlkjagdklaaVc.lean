/- Three lists of the call's own in a struct of seven cells; stage 21's reference: Resolve. -/
import Derived.Test.YtnofmlkjagdklaaVb
import Derived.Test.YtnofmlkjagdklaaK2
import Derived.Test.YtnofmlkjagdklaaKu
import Derived.OneCell
namespace Go.Proofs.Ytnofmlkjagdklaa
open Go.RowKit

theorem apart_symm {a b : Value} (h : ∀ k, a.ownBlock = some k → b.ownBlock ≠ some k) : ∀ k, b.ownBlock = some k → a.ownBlock ≠ some k := fun k e e' => h k e' e
/-- Three lists, no two in one block. -/
structure R3 (B : Nat) (a b c : Value) (xs ys zs : List Int) (w : World) : Prop where
  fa : IntsAt B a xs w
  fb : IntsAt B b ys w
  fc : IntsAt B c zs w
  ab : ∀ k, a.ownBlock = some k → b.ownBlock ≠ some k
  ac : ∀ k, a.ownBlock = some k → c.ownBlock ≠ some k
  bc : ∀ k, b.ownBlock = some k → c.ownBlock ≠ some k
theorem R3.emp (B : Nat) (w : World) : R3 B (.slice none 0 0) (.slice none 0 0) (.slice none 0 0) [] [] [] w :=
  ⟨IntsAt.nil _ _, IntsAt.nil _ _, IntsAt.nil _ _, fun k e => (by cases e), fun k e => (by cases e), fun k e => (by cases e)⟩
theorem R3.on {B : Nat} {a b c : Value} {xs ys zs : List Int} {w w' : World} (h : R3 B a b c xs ys zs w) (hb : Below w.heap.size w w') : R3 B a b c xs ys zs w' :=
  ⟨h.fa.on hb, h.fb.on hb, h.fc.on hb, h.ab, h.ac, h.bc⟩
theorem oth_kept {B : Nat} {v u : Value} {xs : List Int} {w1 w2 : World} {o : Obj} (hu : IntsAt B u xs w1) (hap : ∀ k, v.ownBlock = some k → u.ownBlock ≠ some k) (hg : (w1.alloc o).grownBy w2 v.ownBlock) : IntsAt B u xs w2 :=
  World.ownsRow.kept (hu.al o) hg (by
    cases e : u.ownBlock with
    | none => exact .inl rfl
    | some k => exact .inr fun e' => hap k e'.symm e)
theorem oth_apart {B n cap g : Nat} {v u : Value} {xs : List Int} {w1 : World} (hu : IntsAt B u xs w1) (hap : ∀ k, v.ownBlock = some k → u.ownBlock ≠ some k) (hat : v.ownBlock = some g ∨ g = w1.heap.size + 1) : ∀ k, (Value.slice (some ⟨g, 0, none⟩) n cap).ownBlock = some k → u.ownBlock ≠ some k := by
  intro k e
  obtain rfl : g = k := by simpa [Value.ownBlock] using e
  rcases hat with h | rfl
  · exact hap g h
  · intro e'
    have := (World.ownsRow.lt hu _ e').2
    omega
theorem setc_ints {B : Nat} {u : Value} {xs : List Int} {w : World} {a : Addr} (hu : IntsAt B u xs w) (ha : u.ownBlock ≠ some a.block) (x : Value) : IntsAt B u xs (w.setCell a x) := ownsRow_setCell_other hu ha x
theorem ints_form {B : Nat} {v : Value} {xs : List Int} {w : World} (h : IntsAt B v xs w) : ∃ A cap, v = .slice A xs.length cap := by
  rcases h.get with ⟨rfl, rfl⟩ | ⟨g, cap, e, _⟩
  · exact ⟨none, 0, rfl⟩
  · exact ⟨_, cap, e⟩

theorem r3_stepa {X wr w2 : World} {t b6 g cap : Nat} {p0 p1 p2 p3 a b c : Value} {xs ys zs : List Int} {k : Int} {o : Obj} (HB : Below b6 X wr) (hz : b6 + 1 ≤ wr.heap.size)
    (HR : wr.heap[b6]? = some (.cells #[p0, p1, p2, p3, a, b, c] t (0, 0))) (h : R3 (b6 + 1) a b c xs ys zs wr)
    (hown : w2.ownsRow (b6 + 1) 3 1 (.slice (some ⟨g, 0, none⟩) (xs.length + 1) cap) (xs.length + 1) (xs.map (Value.int .i64) ++ [.int .i64 k])) (hgrow : (wr.alloc o).grownBy w2 a.ownBlock) (hat : a.ownBlock = some g ∨ g = wr.heap.size + 1) :
    w2.heap[b6]? = some (.cells #[p0, p1, p2, p3, a, b, c] t (0, 0)) ∧ Below b6 X (w2.setCell ⟨b6, 4, none⟩ (.slice (some ⟨g, 0, none⟩) (xs.length + 1) cap)) ∧ (w2.setCell ⟨b6, 4, none⟩ (.slice (some ⟨g, 0, none⟩) (xs.length + 1) cap)).heap[b6]? = some (.cells #[p0, p1, p2, p3, (.slice (some ⟨g, 0, none⟩) (xs.length + 1) cap), b, c] t (0, 0)) ∧ R3 (b6 + 1) (.slice (some ⟨g, 0, none⟩) (xs.length + 1) cap) b c (xs ++ [k]) ys zs (w2.setCell ⟨b6, 4, none⟩ (.slice (some ⟨g, 0, none⟩) (xs.length + 1) cap)) := by
  have hne : some b6 ≠ a.ownBlock := fun e => absurd (World.ownsRow.lt h.fa b6 e.symm).1 (by omega)
  have hr : w2.heap[b6]? = some (.cells #[p0, p1, p2, p3, a, b, c] t (0, 0)) := (hgrow.block b6 (by simp; omega) hne).trans (row_al HR o)
  have hg : b6 + 1 ≤ g := (World.ownsRow.lt hown g rfl).1
  have hb2 : Below b6 X w2 := (HB.alloc (by omega) o).grown hgrow (by simp; omega) (fun j e => by have := (World.ownsRow.lt h.fa j e).1; omega)
  have hN : IntsAt (b6 + 1) (.slice (some ⟨g, 0, none⟩) (xs.length + 1) cap) (xs ++ [k]) w2 := by unfold IntsAt; rw [List.length_append, List.map_append]; exact hown
  have hgb : g ≠ b6 := by omega
  refine ⟨hr, hb2.setCell (p := ⟨b6, 4, none⟩) (Nat.le_refl _) _, heap_setCell_same _ b6 4 _ _ _ hr, ⟨?_, ?_, ?_, oth_apart h.fb h.ab hat, oth_apart h.fc h.ac hat, h.bc⟩⟩
  · exact setc_ints hN (by simp [Value.ownBlock]; omega) _
  · exact setc_ints (oth_kept h.fb h.ab hgrow) (by intro e; have := (World.ownsRow.lt h.fb b6 e).1; omega) _
  · exact setc_ints (oth_kept h.fc h.ac hgrow) (by intro e; have := (World.ownsRow.lt h.fc b6 e).1; omega) _
theorem r3_stepb {X wr w2 : World} {t b6 g cap : Nat} {p0 p1 p2 p3 a b c : Value} {xs ys zs : List Int} {k : Int} {o : Obj} (HB : Below b6 X wr) (hz : b6 + 1 ≤ wr.heap.size)
    (HR : wr.heap[b6]? = some (.cells #[p0, p1, p2, p3, a, b, c] t (0, 0))) (h : R3 (b6 + 1) a b c xs ys zs wr)
    (hown : w2.ownsRow (b6 + 1) 3 1 (.slice (some ⟨g, 0, none⟩) (ys.length + 1) cap) (ys.length + 1) (ys.map (Value.int .i64) ++ [.int .i64 k])) (hgrow : (wr.alloc o).grownBy w2 b.ownBlock) (hat : b.ownBlock = some g ∨ g = wr.heap.size + 1) :
    w2.heap[b6]? = some (.cells #[p0, p1, p2, p3, a, b, c] t (0, 0)) ∧ Below b6 X (w2.setCell ⟨b6, 5, none⟩ (.slice (some ⟨g, 0, none⟩) (ys.length + 1) cap)) ∧ (w2.setCell ⟨b6, 5, none⟩ (.slice (some ⟨g, 0, none⟩) (ys.length + 1) cap)).heap[b6]? = some (.cells #[p0, p1, p2, p3, a, (.slice (some ⟨g, 0, none⟩) (ys.length + 1) cap), c] t (0, 0)) ∧ R3 (b6 + 1) a (.slice (some ⟨g, 0, none⟩) (ys.length + 1) cap) c xs (ys ++ [k]) zs (w2.setCell ⟨b6, 5, none⟩ (.slice (some ⟨g, 0, none⟩) (ys.length + 1) cap)) := by
  have hne : some b6 ≠ b.ownBlock := fun e => absurd (World.ownsRow.lt h.fb b6 e.symm).1 (by omega)
  have hr : w2.heap[b6]? = some (.cells #[p0, p1, p2, p3, a, b, c] t (0, 0)) := (hgrow.block b6 (by simp; omega) hne).trans (row_al HR o)
  have hg : b6 + 1 ≤ g := (World.ownsRow.lt hown g rfl).1
  have hb2 : Below b6 X w2 := (HB.alloc (by omega) o).grown hgrow (by simp; omega) (fun j e => by have := (World.ownsRow.lt h.fb j e).1; omega)
  have hN : IntsAt (b6 + 1) (.slice (some ⟨g, 0, none⟩) (ys.length + 1) cap) (ys ++ [k]) w2 := by unfold IntsAt; rw [List.length_append, List.map_append]; exact hown
  have hgb : g ≠ b6 := by omega
  refine ⟨hr, hb2.setCell (p := ⟨b6, 5, none⟩) (Nat.le_refl _) _, heap_setCell_same _ b6 5 _ _ _ hr, ⟨?_, ?_, ?_, apart_symm (oth_apart h.fa (apart_symm h.ab) hat), h.ac, oth_apart h.fc h.bc hat⟩⟩
  · exact setc_ints (oth_kept h.fa (apart_symm h.ab) hgrow) (by intro e; have := (World.ownsRow.lt h.fa b6 e).1; omega) _
  · exact setc_ints hN (by simp [Value.ownBlock]; omega) _
  · exact setc_ints (oth_kept h.fc h.bc hgrow) (by intro e; have := (World.ownsRow.lt h.fc b6 e).1; omega) _
theorem r3_stepc {X wr w2 : World} {t b6 g cap : Nat} {p0 p1 p2 p3 a b c : Value} {xs ys zs : List Int} {k : Int} {o : Obj} (HB : Below b6 X wr) (hz : b6 + 1 ≤ wr.heap.size)
    (HR : wr.heap[b6]? = some (.cells #[p0, p1, p2, p3, a, b, c] t (0, 0))) (h : R3 (b6 + 1) a b c xs ys zs wr)
    (hown : w2.ownsRow (b6 + 1) 3 1 (.slice (some ⟨g, 0, none⟩) (zs.length + 1) cap) (zs.length + 1) (zs.map (Value.int .i64) ++ [.int .i64 k])) (hgrow : (wr.alloc o).grownBy w2 c.ownBlock) (hat : c.ownBlock = some g ∨ g = wr.heap.size + 1) :
    w2.heap[b6]? = some (.cells #[p0, p1, p2, p3, a, b, c] t (0, 0)) ∧ Below b6 X (w2.setCell ⟨b6, 6, none⟩ (.slice (some ⟨g, 0, none⟩) (zs.length + 1) cap)) ∧ (w2.setCell ⟨b6, 6, none⟩ (.slice (some ⟨g, 0, none⟩) (zs.length + 1) cap)).heap[b6]? = some (.cells #[p0, p1, p2, p3, a, b, (.slice (some ⟨g, 0, none⟩) (zs.length + 1) cap)] t (0, 0)) ∧ R3 (b6 + 1) a b (.slice (some ⟨g, 0, none⟩) (zs.length + 1) cap) xs ys (zs ++ [k]) (w2.setCell ⟨b6, 6, none⟩ (.slice (some ⟨g, 0, none⟩) (zs.length + 1) cap)) := by
  have hne : some b6 ≠ c.ownBlock := fun e => absurd (World.ownsRow.lt h.fc b6 e.symm).1 (by omega)
  have hr : w2.heap[b6]? = some (.cells #[p0, p1, p2, p3, a, b, c] t (0, 0)) := (hgrow.block b6 (by simp; omega) hne).trans (row_al HR o)
  have hg : b6 + 1 ≤ g := (World.ownsRow.lt hown g rfl).1
  have hb2 : Below b6 X w2 := (HB.alloc (by omega) o).grown hgrow (by simp; omega) (fun j e => by have := (World.ownsRow.lt h.fc j e).1; omega)
  have hN : IntsAt (b6 + 1) (.slice (some ⟨g, 0, none⟩) (zs.length + 1) cap) (zs ++ [k]) w2 := by unfold IntsAt; rw [List.length_append, List.map_append]; exact hown
  have hgb : g ≠ b6 := by omega
  refine ⟨hr, hb2.setCell (p := ⟨b6, 6, none⟩) (Nat.le_refl _) _, heap_setCell_same _ b6 6 _ _ _ hr, ⟨?_, ?_, ?_, h.ab, apart_symm (oth_apart h.fa (apart_symm h.ac) hat), apart_symm (oth_apart h.fb (apart_symm h.bc) hat)⟩⟩
  · exact setc_ints (oth_kept h.fa (apart_symm h.ac) hgrow) (by intro e; have := (World.ownsRow.lt h.fa b6 e).1; omega) _
  · exact setc_ints (oth_kept h.fb (apart_symm h.bc) hgrow) (by intro e; have := (World.ownsRow.lt h.fb b6 e).1; omega) _
  · exact setc_ints hN (by simp [Value.ownBlock]; omega) _
/-! Resolve -/
/-- A result as it comes back: the principal celebration and three lists of the call's own. -/
def RetRes (W : World) (p : Cd) (xs ys zs : List Int) (e : Ending) (w' : World) : Prop := ∃ a b c, e = .returned (.agg #[.int .i64 p.k, .int .i64 p.i, .int .i64 p.r, .string p.id, a, b, c]) ∧ R3 W.heap.size a b c xs ys zs w' ∧ Below W.heap.size W w'
theorem R3.lower {B B' : Nat} {a b c : Value} {xs ys zs : List Int} {w : World} (h : R3 B a b c xs ys zs w) (hB : B' ≤ B) : R3 B' a b c xs ys zs w := ⟨h.fa.lower hB, h.fb.lower hB, h.fc.lower hB, h.ab, h.ac, h.bc⟩
theorem polL_len {c : Cat} {p : Int} {s : List Cd} : (polL c p s).length ≤ s.length := by unfold polL; rw [List.length_map]; exact List.length_filter_le _ _
theorem r3_sets {B B' b : Nat} {x y z : Value} {xs ys zs : List Int} {w : World} (h : R3 B x y z xs ys zs w) (hb : b < B ∧ B' ≤ B) (v0 v1 v2 v3 v4 v5 v6 : Value) : R3 B' x y z xs ys zs (((((((w.setCell ⟨b, 0, none⟩ v0).setCell ⟨b, 1, none⟩ v1).setCell ⟨b, 2, none⟩ v2).setCell ⟨b, 3, none⟩ v3).setCell ⟨b, 4, none⟩ v4).setCell ⟨b, 5, none⟩ v5).setCell ⟨b, 6, none⟩ v6) := by
  have key : ∀ {u : Value} {us : List Int}, IntsAt B u us w → IntsAt B' u us (((((((w.setCell ⟨b, 0, none⟩ v0).setCell ⟨b, 1, none⟩ v1).setCell ⟨b, 2, none⟩ v2).setCell ⟨b, 3, none⟩ v3).setCell ⟨b, 4, none⟩ v4).setCell ⟨b, 5, none⟩ v5).setCell ⟨b, 6, none⟩ v6) := fun {u us} hu => by
    have hn : u.ownBlock ≠ some b := fun e => absurd (World.ownsRow.lt hu b e).1 (by omega)
    exact (setc_ints (setc_ints (setc_ints (setc_ints (setc_ints (setc_ints (setc_ints hu hn _) hn _) hn _) hn _) hn _) hn _) hn _).lower hb.2
  exact ⟨key h.fa, key h.fb, key h.fc, h.ab, h.ac, h.bc⟩
set_option maxHeartbeats 4000000 in
set_option maxRecDepth 100000 in
theorem r21rs_0 (v0 v1 : Value) (A2 : Option Addr) (c : Cat) (c2 : Nat) (vl : Value) (l : List Cd) (x : Cd) (rest : List Cd) (W : World) (hok : Lok c l) (hs : srtR l = x :: rest)
    (H2 : ∀ (i : Nat) (t : Itm), c.fs[i]? = some t → ∃ b o, A2 = some ⟨b, o, none⟩ ∧ b < W.heap.size ∧ ItmAt W b (o + i * 9) t)
    (HS : ∀ u, Below W.heap.size W u → Calls Try.prog 34 #[vl] u (RetCs 39 u (x :: rest))) :
    Calls Try.prog 13 #[.agg #[v0, v1, .slice A2 c.fs.length c2], vl] W (RetRes W x (polL c 2 rest) (polL c 3 rest) (polL c 1 rest)) := by
  obtain ⟨i0, hi0, hz0, hz1, hz2⟩ := info_parts infoInt
  have hfs : ∀ y ∈ rest, y.k = 2 → 0 ≤ y.i ∧ y.i < c.fs.length ∧ 1 ≤ polOf c y ∧ polOf c y ≤ 3 := fun y hy => hok.fs y ((srtR_perm l).mem_iff.1 (by rw [hs]; exact List.mem_cons_of_mem _ hy))
  have hrl : rest.length ≤ 40 := by have := srtR_len l; rw [hs, List.length_cons] at this; have := hok.le; omega
  have Q2 := Lib.hid H2
  have QS := Lib.hid HS
  have QF := Lib.hid hfs
  have B0 := Lib.hid (((Below.refl W.heap.size W).alloc (Nat.le_refl _) (.cells #[v0, v1, .slice A2 c.fs.length c2] 25)).alloc (by simp) (.cells #[.int .i64 0, .int .i64 0, .int .i64 0, .string ⟨#[]⟩, .slice none 0 0, .slice none 0 0, .slice none 0 0] 41))
  have R0 := Lib.hid (row_al (heap_alloc_new W (.cells #[v0, v1, .slice A2 c.fs.length c2] 25)) (.cells #[.int .i64 0, .int .i64 0, .int .i64 0, .string ⟨#[]⟩, .slice none 0 0, .slice none 0 0, .slice none 0 0] 41))
  have R1 := Lib.hid (heap_alloc_new (W.alloc (.cells #[v0, v1, .slice A2 c.fs.length c2] 25)) (.cells #[.int .i64 0, .int .i64 0, .int .i64 0, .string ⟨#[]⟩, .slice none 0 0, .slice none 0 0, .slice none 0 0] 41))
  rw [World.size_alloc] at R1
  have Z0 : ((W.alloc (.cells #[v0, v1, .slice A2 c.fs.length c2] 25)).alloc (.cells #[.int .i64 0, .int .i64 0, .int .i64 0, .string ⟨#[]⟩, .slice none 0 0, .slice none 0 0, .slice none 0 0] 41)).heap.size = W.heap.size + 2 := by simp
  clear H2 HS hfs hs hok
  go_enter Try.func13, Try.ntmps13
  go_wp2_with fail
  generalize hW1 : (W.alloc (.cells #[v0, v1, .slice A2 c.fs.length c2] 25)).alloc (.cells #[.int .i64 0, .int .i64 0, .int .i64 0, .string ⟨#[]⟩, .slice none 0 0, .slice none 0 0, .slice none 0 0] 41) = W1 at *
  refine (QS.out _ B0.out).mono ?_
  rintro e w1 ⟨vs, rfl, hvs, hb1⟩
  obtain ⟨As, cs, hAs, ls1, ls2, hcd⟩ := hvs.cs
  subst hAs
  obtain ⟨bs, os, rfl, hx0⟩ := hcd 0 x rfl
  have QC := Lib.hid hcd
  have HBs := Lib.hid hb1
  have R0b := Lib.hid (row_on R0.out hb1)
  have R1b := Lib.hid (row_on R1.out hb1)
  rw [List.length_cons] at ls1
  unfold maxLen at ls2
  clear hcd hvs hb1
  rw [Nat.zero_mul, Nat.add_zero] at hx0
  obtain ⟨x1, x2, x3, x4⟩ := x
  obtain ⟨p0, p1, p2, p3⟩ := hx0
  rw [List.length_cons]
  go_wp2_with fail
  have X7 := heap_alloc_new w1 (.cells #[.int .i64 x1, .int .i64 x2, .int .i64 x3, .string x4, .slice none 0 0, .slice none 0 0, .slice none 0 0] 41)
  have RX := Lib.hid X7
  have BX := Lib.hid ((Below.refl w1.heap.size w1).alloc (Nat.le_refl _) (.cells #[.int .i64 x1, .int .i64 x2, .int .i64 x3, .string x4, .slice none 0 0, .slice none 0 0, .slice none 0 0] 41))
  have ZX : (w1.alloc (.cells #[.int .i64 x1, .int .i64 x2, .int .i64 x3, .string x4, .slice none 0 0, .slice none 0 0, .slice none 0 0] 41)).heap.size = w1.heap.size + 1 := by simp
  have zw1 := HBs.out.size
  clear X7 p0 p1 p2 p3
  generalize hX : w1.alloc (.cells #[.int .i64 x1, .int .i64 x2, .int .i64 x3, .string x4, .slice none 0 0, .slice none 0 0, .slice none 0 0] 41) = X at *
  go_loopw [7] (fun jv wr => ∃ (m : Nat) (va vb vc : Value), m ≤ rest.length ∧ jv = .int .i64 ((m : Int) + 1) ∧ Below w1.heap.size X wr ∧ wr.heap[w1.heap.size]? = some (.cells #[.int .i64 x1, .int .i64 x2, .int .i64 x3, .string x4, va, vb, vc] 41 (0, 0)) ∧ R3 (w1.heap.size + 1) va vb vc (polL c 2 (rest.take m)) (polL c 3 (rest.take m)) (polL c 1 (rest.take m)) wr) (fun jv _ => rest.length + 1 - (intOf jv).toNat)
  case atStart => exact ⟨0, _, _, _, Nat.zero_le _, by go_num, Below.refl _ _, RX.out, R3.emp _ _⟩
  case round =>
    obtain ⟨m, va, vb, vc, hm, rfl, hb, hr6, hl⟩ := hrel
    have hz6 : w1.heap.size + 1 ≤ wr.heap.size := by have := hb.size; omega
    have HX := Lib.hid hb
    have HR6 := Lib.hid hr6
    have HL := Lib.hid hl
    have HB := Lib.hid (BX.out.trans hb)
    clear hb hr6 hl
    have HR0 := Lib.hid ((HB.out.block _ (by omega)).trans R0b.out : wr.heap[W.heap.size]? = _)
    have lx := polL_len (c := c) (p := 2) (s := rest.take m)
    have ly := polL_len (c := c) (p := 3) (s := rest.take m)
    have lz := polL_len (c := c) (p := 1) (s := rest.take m)
    rw [List.length_take] at lx ly lz
    by_cases hlt : m < rest.length
    · obtain ⟨y, hy⟩ : ∃ y, rest[m]? = some y := ⟨_, List.getElem?_eq_getElem hlt⟩
      obtain ⟨bs', os', e, hit⟩ := QC.out (m + 1) y (by rw [List.getElem?_cons_succ]; exact hy)
      obtain ⟨rfl, rfl⟩ : bs = bs' ∧ os = os' := by simpa using e
      have hitw := hit.on HB.out
      have ht1 := take_succ_cd hy
      have hfy := QF.out y (List.mem_of_getElem? hy)
      obtain ⟨y1, y2, y3, y4⟩ := y
      obtain ⟨c0, c1, c2', c3⟩ := hitw
      clear hit hy e
      by_cases hk2 : y1 = 2
      · subst hk2
        obtain ⟨q0, q1, q2, q3⟩ := hfy rfl
        obtain ⟨n, rfl⟩ : ∃ n : Nat, y2 = n := ⟨y2.toNat, by dsimp only at q0; omega⟩
        have hnl : n < c.fs.length := by dsimp only at q1; omega
        obtain ⟨t, htt⟩ : ∃ t, c.fs[n]? = some t := ⟨_, List.getElem?_eq_getElem hnl⟩
        obtain ⟨b2, o2, hA, hbl2, hit2⟩ := Q2.out n t htt
        subst hA
        have hpo : polOf c ⟨2, (n : Int), y3, y4⟩ = t.y := by
          unfold polOf
          rw [Int.toNat_natCast, List.getD_eq_getElem?_getD, htt]; rfl
        rw [hpo] at q2 q3
        have hpl : ∀ p : Int, isP c p ⟨2, (n : Int), y3, y4⟩ = decide (t.y = p) := fun p => by unfold isP; rw [hpo]; rfl
        have HI2 := Lib.hid (((hit2.on B0.out hbl2).on HBs.out (Nat.lt_of_lt_of_le hbl2 B0.out.size)).on (HB.out) (by have := B0.out.size; omega))
        obtain ⟨d1, d2, dy, e0, e1, e2, e3, e4, e5⟩ := t
        have hdy : dy = 1 ∨ dy = 2 ∨ dy = 3 := by dsimp only at q2 q3; omega
        obtain ⟨g0, g1, g2, -, -, -, -, -, -⟩ := HI2.out.nine
        obtain ⟨r0, r1, r2, -, -, -, rz⟩ := row3 HR0
        obtain ⟨s0, s1, s2, s3, s4, s5, s6, u0, u1, u2, u3, u4, u5, u6, sz⟩ := row7 HR6.out
        have wn : IntKind.i64.wrap ((m : Int) + 1) = (m : Int) + 1 := by rw [IntKind.wrap_i64]; omega
        clear hit2 htt q0 q1 q2 q3 hfy hpo HI2
        generalize hxd : polL c 2 (rest.take m) = xs at *
        generalize hyd : polL c 3 (rest.take m) = ys at *
        generalize hzd : polL c 1 (rest.take m) = zs at *
        rcases hdy with rfl | rfl | rfl
        · have EX := Lib.hid (show polL c 2 (rest.take (m + 1)) = xs by rw [ht1, polL_more, hxd, show isP c 2 (⟨2, (n : Int), y3, y4⟩ : Cd) = false by rw [hpl 2]; rfl]; rfl)
          have EY := Lib.hid (show polL c 3 (rest.take (m + 1)) = ys by rw [ht1, polL_more, hyd, show isP c 3 (⟨2, (n : Int), y3, y4⟩ : Cd) = false by rw [hpl 3]; rfl]; rfl)
          have EZ := Lib.hid (show polL c 1 (rest.take (m + 1)) = zs ++ [(n : Int)] by rw [ht1, polL_more, hzd, show isP c 1 (⟨2, (n : Int), y3, y4⟩ : Cd) = true by rw [hpl 1]; rfl]; rfl)
          clear hxd hyd hzd ht1 hpl
          go_wp2_with (at_builtin; refine wpList_append_lies _ rfl _ _ 33 rfl (w1.heap.size + 1) 3 i0 (.int .i64 0) 1 8 Try.underlying33 hi0 hz0 hz1 hz2 rfl (by decide) vc zs.length (zs.map (Value.int .i64)) rfl (HL.out.fc.al _) ⟨wr.heap.size, 0, none⟩ 1 1 [.int .i64 (n : Int)] rfl rfl (cell_one_new _ _ _) (by simp [Value.oneCell']) (by decide) (by unfold maxLen; omega) (by omega) (by simp; omega) (wr.heap.size + 1) (by simp) ?_; intro gg cap2 w2 hown' hgrow hat hlt2; have sst := r3_stepc HX.out hz6 HR6.out HL.out hown' hgrow hat; obtain ⟨st1, st2, st3, st4⟩ := sst; obtain ⟨t0, t1, t2, t3, t4, t5, t6, f0, f1, f2, f3, f4, f5, f6, tz⟩ := row7 st1; have ST2 := Lib.hid st2; have ST3 := Lib.hid st3; have ST4 := Lib.hid st4; clear hown' hgrow hat st1 st2 st3 st4)
          go_roundw
          case rel => exact ⟨m + 1, va, vb, _, by omega, by go_num, ST2.out, ST3.out, by rw [EX.out, EY.out, EZ.out]; exact ST4.out⟩
          case measure => simp [intOf]; omega
        · have EX := Lib.hid (show polL c 2 (rest.take (m + 1)) = xs ++ [(n : Int)] by rw [ht1, polL_more, hxd, show isP c 2 (⟨2, (n : Int), y3, y4⟩ : Cd) = true by rw [hpl 2]; rfl]; rfl)
          have EY := Lib.hid (show polL c 3 (rest.take (m + 1)) = ys by rw [ht1, polL_more, hyd, show isP c 3 (⟨2, (n : Int), y3, y4⟩ : Cd) = false by rw [hpl 3]; rfl]; rfl)
          have EZ := Lib.hid (show polL c 1 (rest.take (m + 1)) = zs by rw [ht1, polL_more, hzd, show isP c 1 (⟨2, (n : Int), y3, y4⟩ : Cd) = false by rw [hpl 1]; rfl]; rfl)
          clear hxd hyd hzd ht1 hpl
          go_wp2_with (at_builtin; refine wpList_append_lies _ rfl _ _ 33 rfl (w1.heap.size + 1) 3 i0 (.int .i64 0) 1 8 Try.underlying33 hi0 hz0 hz1 hz2 rfl (by decide) va xs.length (xs.map (Value.int .i64)) rfl (HL.out.fa.al _) ⟨wr.heap.size, 0, none⟩ 1 1 [.int .i64 (n : Int)] rfl rfl (cell_one_new _ _ _) (by simp [Value.oneCell']) (by decide) (by unfold maxLen; omega) (by omega) (by simp; omega) (wr.heap.size + 1) (by simp) ?_; intro gg cap2 w2 hown' hgrow hat hlt2; have sst := r3_stepa HX.out hz6 HR6.out HL.out hown' hgrow hat; obtain ⟨st1, st2, st3, st4⟩ := sst; obtain ⟨t0, t1, t2, t3, t4, t5, t6, f0, f1, f2, f3, f4, f5, f6, tz⟩ := row7 st1; have ST2 := Lib.hid st2; have ST3 := Lib.hid st3; have ST4 := Lib.hid st4; clear hown' hgrow hat st1 st2 st3 st4)
          go_roundw
          case rel => exact ⟨m + 1, _, vb, vc, by omega, by go_num, ST2.out, ST3.out, by rw [EX.out, EY.out, EZ.out]; exact ST4.out⟩
          case measure => simp [intOf]; omega
        · have EX := Lib.hid (show polL c 2 (rest.take (m + 1)) = xs by rw [ht1, polL_more, hxd, show isP c 2 (⟨2, (n : Int), y3, y4⟩ : Cd) = false by rw [hpl 2]; rfl]; rfl)
          have EY := Lib.hid (show polL c 3 (rest.take (m + 1)) = ys ++ [(n : Int)] by rw [ht1, polL_more, hyd, show isP c 3 (⟨2, (n : Int), y3, y4⟩ : Cd) = true by rw [hpl 3]; rfl]; rfl)
          have EZ := Lib.hid (show polL c 1 (rest.take (m + 1)) = zs by rw [ht1, polL_more, hzd, show isP c 1 (⟨2, (n : Int), y3, y4⟩ : Cd) = false by rw [hpl 1]; rfl]; rfl)
          clear hxd hyd hzd ht1 hpl
          go_wp2_with (at_builtin; refine wpList_append_lies _ rfl _ _ 33 rfl (w1.heap.size + 1) 3 i0 (.int .i64 0) 1 8 Try.underlying33 hi0 hz0 hz1 hz2 rfl (by decide) vb ys.length (ys.map (Value.int .i64)) rfl (HL.out.fb.al _) ⟨wr.heap.size, 0, none⟩ 1 1 [.int .i64 (n : Int)] rfl rfl (cell_one_new _ _ _) (by simp [Value.oneCell']) (by decide) (by unfold maxLen; omega) (by omega) (by simp; omega) (wr.heap.size + 1) (by simp) ?_; intro gg cap2 w2 hown' hgrow hat hlt2; have sst := r3_stepb HX.out hz6 HR6.out HL.out hown' hgrow hat; obtain ⟨st1, st2, st3, st4⟩ := sst; obtain ⟨t0, t1, t2, t3, t4, t5, t6, f0, f1, f2, f3, f4, f5, f6, tz⟩ := row7 st1; have ST2 := Lib.hid st2; have ST3 := Lib.hid st3; have ST4 := Lib.hid st4; clear hown' hgrow hat st1 st2 st3 st4)
          go_roundw
          case rel => exact ⟨m + 1, va, _, vc, by omega, by go_num, ST2.out, ST3.out, by rw [EX.out, EY.out, EZ.out]; exact ST4.out⟩
          case measure => simp [intOf]; omega
      · have hn2 : (y1 != 2) = true := bne_iff_ne.2 hk2
        have hnp : ∀ p : Int, isP c p ⟨y1, y2, y3, y4⟩ = false := fun p => by unfold isP; rw [decide_eq_false (show ¬ (y1 = 2) from hk2)]; rfl
        have EX : ∀ p : Int, polL c p (rest.take (m + 1)) = polL c p (rest.take m) := fun p => by rw [ht1, polL_more, hnp p]; rfl
        have EXh := Lib.hid EX
        clear EX hnp ht1 hk2 hfy
        go_wp2_with fail
        go_roundw
        case rel => exact ⟨m + 1, va, vb, vc, by omega, by go_num, HX.out, HR6.out, by rw [EXh.out, EXh.out, EXh.out]; exact HL.out⟩
        case measure => simp [intOf]; omega
    · obtain rfl : m = rest.length := by omega
      rw [List.take_length] at HL
      have HR1 := Lib.hid ((HB.out.block _ (by omega)).trans R1b.out : wr.heap[W.heap.size + 1]? = _)
      obtain ⟨t0, t1, t2, t3, t4, t5, t6, f0, f1, f2, f3, f4, f5, f6, tz⟩ := row7 HR1.out
      have HZ := Lib.hid (below_on (below_on B0.out HBs.out) HB.out)
      obtain ⟨Aa, ca, rfl⟩ := ints_form HL.out.fa
      obtain ⟨Ab, cb, rfl⟩ := ints_form HL.out.fb
      obtain ⟨Ac, cc, rfl⟩ := ints_form HL.out.fc
      clear lx ly lz
      generalize hxd : polL c 2 rest = xs at *
      generalize hyd : polL c 3 rest = ys at *
      generalize hzd : polL c 1 rest = zs at *
      obtain ⟨s0, s1, s2, s3, s4, s5, s6, u0, u1, u2, u3, u4, u5, u6, sz⟩ := row7 HR6.out
      go_wp2_with fail
      generalize hU : ((((((wr.setCell ⟨W.heap.size + 1, 0, none⟩ (.int .i64 x1)).setCell ⟨W.heap.size + 1, 1, none⟩ (.int .i64 x2)).setCell ⟨W.heap.size + 1, 2, none⟩ (.int .i64 x3)).setCell ⟨W.heap.size + 1, 3, none⟩ (.string x4)).setCell ⟨W.heap.size + 1, 4, none⟩ (.slice Aa xs.length ca)).setCell ⟨W.heap.size + 1, 5, none⟩ (.slice Ab ys.length cb)).setCell ⟨W.heap.size + 1, 6, none⟩ (.slice Ac zs.length cc) = U at *
      obtain ⟨k0, k1, k2, k3, k4, k5, k6, HU⟩ := seven_set _ _ _ _ _ _ _ HR1.out HZ.out (Nat.le_succ _) hU
      refine bodyPost_ret (v := .agg #[.int .i64 x1, .int .i64 x2, .int .i64 x3, .string x4, .slice Aa xs.length ca, .slice Ab ys.length cb, .slice Ac zs.length cc]) (by simp [results, Try.results13, go_sem, k0, k1, k2, k3, k4, k5, k6]) rfl ?_
      refine ⟨_, _, _, rfl, ?_, HU⟩
      have HL2 := HL.out
      rw [← hU]
      exact r3_sets HL2 (by omega) _ _ _ _ _ _ _
theorem r21rs_any (c : Cat) (v vl : Value) (l : List Cd) (x : Cd) (rest : List Cd) (W : World) (h : CatAt W v c) (hl : CsAt W vl l) (hok : Lok c l) (hs : srtR l = x :: rest) :
    Calls Try.prog 13 #[v, vl] W (RetRes W x (polL c 2 rest) (polL c 3 rest) (polL c 1 rest)) := by
  obtain ⟨⟨vs, vf, rfl, _, h2⟩, _, _, _⟩ := h
  obtain ⟨A2, c2, rfl, _, _, h2⟩ := h2
  exact r21rs_0 _ _ A2 c c2 vl l x rest W hok hs h2 (fun u hu => by
    have := r20so_any vl l u (by have := hok.le; omega) (hl.on hu)
    rwa [hs] at this)
end Go.Proofs.Ytnofmlkjagdklaa
