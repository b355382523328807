/- Package label's Days: the days of a common year that bear a label. -/
import Derived.Test.YtadapffmcdkfiaaDoorLi
namespace Go.Proofs.YtadapffmcdkfiaaDoor
open Go.RowKit Go.Shelf
attribute [local go_sem] Oper.semAt_some

def flat : List (Int × Int) → List Value
  | [] => []
  | x :: xs => .int .i64 x.1 :: .int .i64 x.2 :: flat xs
theorem flat_app : ∀ xs ys : List (Int × Int), flat (xs ++ ys) = flat xs ++ flat ys
  | [], _ => rfl
  | x :: xs, ys => by simp [flat, flat_app xs ys]
theorem flat_len : ∀ xs : List (Int × Int), (flat xs).length = xs.length * 2
  | [] => rfl
  | x :: xs => by simp [flat, flat_len xs]; omega
def PairsAt (B : Nat) (v : Value) (ps : List (Int × Int)) (w : World) : Prop := w.ownsRow B 32 2 v ps.length (flat ps)
theorem PairsAt.on {B : Nat} {v : Value} {xs : List (Int × Int)} {w w' : World} (h : PairsAt B v xs w) (hb : Below w.heap.size w w') : PairsAt B v xs w' :=
  World.ownsRow.kept h (grown_of_below hb none) (by cases hv : v.ownBlock <;> simp)
def RetPairs (xs : List (Int × Int)) (w : World) (e : Ending) (w' : World) : Prop := ∃ v, e = .returned v ∧ PairsAt w.heap.size v xs w' ∧ Below w.heap.size w w'
theorem infoPair : (Tryd.prog.info? 32).map (fun i => (i.zero, i.size, i.bytes)) = some (some (.agg #[.int .i64 0, .int .i64 0]), 2, 16) := by kernel_rfl
theorem cell_two_new (w : World) (x y : Value) (t : TypeId) : ∀ j u, [x, y][j]? = some u → (w.alloc (.cells #[x, y] t)).cell? ((⟨w.heap.size, 0, none⟩ : Addr).add j) = some u := by
  intro j u h
  rw [show (⟨w.heap.size, 0, none⟩ : Addr).add j = ⟨w.heap.size, j, none⟩ by unfold Addr.add; split <;> simp_all, cell_of_row _ _ j _ _ _ (heap_alloc_new w (.cells #[x, y] t))]
  rw [← Array.getElem?_toList]; exact h
theorem keeps_below {w w' : World} (hb : Below w.heap.size w w') : KeepsOthers w w' := KeepsOthers.of_grownBy (grown_of_below hb none) (fun j o ej _ => by cases ej)
theorem boxed_below {W W' : World} {B : Nat} {t : TypeId} {v : Value} (h : Boxed W B t v) (hb : Below W.heap.size W W') : Boxed W' B t v := h.kept (grown_of_below hb none) (by simp)

/-- What the round owes behind its append and its store into the box. -/
theorem days_app {W w1 w2 : World} {n₀ B : Nat} {t t' : TypeId} {v v' u : Value} {k : Nat} {xs ys : List Value} {tmp : Obj}
    (hb1 : Below W.heap.size W w1) (hv : Boxed W (B + 1) t v) (hte : t ≠ 32) (hte' : t' ≠ 32) (hrow : W.ownsRow n₀ 32 2 v k xs) (hn₀ : n₀ ≤ W.heap.size) (hB : n₀ ≤ B) (hu : Boxed W B t' u)
    (hown' : w2.ownsRow n₀ 32 2 v' (k + 1) ys) (hgrow : (w1.alloc tmp).grownBy w2 v.ownBlock) :
    Boxed w2 (B + 1) t v ∧ Boxed (w2.setCell ⟨B + 1, 0, none⟩ v') (B + 1) t v' ∧ (w2.setCell ⟨B + 1, 0, none⟩ v').ownsRow n₀ 32 2 v' (k + 1) ys ∧ KeepsOthers W (w2.setCell ⟨B + 1, 0, none⟩ v') ∧ Below n₀ W (w2.setCell ⟨B + 1, 0, none⟩ v') ∧ Boxed (w2.setCell ⟨B + 1, 0, none⟩ v') B t' u := by
  have hrow1 : w1.ownsRow n₀ 32 2 v k xs := World.ownsRow.kept hrow (grown_of_below hb1 none) (by cases hv : v.ownBlock <;> simp)
  obtain ⟨h1, h2, h3, h4, h5⟩ := (boxed_below hv hb1).appended hte hrow1 (Nat.le_trans hn₀ hb1.size) (by omega) hown' hgrow
  have hu2 : Boxed w2 B t' u := ((boxed_below hu hb1).alloc tmp).kept hgrow ((boxed_below hu hb1).not_row hte' hrow1)
  exact ⟨h1, h2, h3, (keeps_below hb1).trans h4, (hb1.mono hn₀).trans h5, hu2.other (by omega) _⟩

set_option maxRecDepth 100000 in
set_option maxHeartbeats 2000000 in
theorem days_any (l : Int) (w : World) (ht : LTab w) :
    Calls Tryd.prog 16 #[.int .i64 l] w (RetPairs (days l) w) := by
  obtain ⟨i0, hi, hz0, hz1, hz2⟩ := info_parts infoPair
  have HT := Lib.hid ht
  clear ht
  refine (callsIn_wide (n := 3)).1 ?_
  refine callsIn_of_wp_marks Tryd.func16 rfl trivial ?_ rfl
  simp only [Tryd.ntmps16, List.size_toArray, List.length_cons, List.length_nil, Nat.reduceAdd, Nat.reduceSub, Array.replicate_succ, Array.replicate_zero, List.push_toArray, List.append_toArray, List.nil_append, List.cons_append]
  gi_wp2_with (refine ⟨trivial, ?_⟩; gi_at_call 28; refine (callsIn_wide.2 (cy_any _)).mono ?_; rintro e w' ⟨rfl, rfl⟩)
  have bL := Boxed.new w 3 (.int .i64 l)
  have bO := Boxed.new (w.alloc (.cells #[.int .i64 l] 3)) 29 (.slice none 0 0)
  rw [World.size_alloc] at bO
  have bL2 := bL.alloc (.cells #[.slice none 0 0] 29)
  have hB0 : Below w.heap.size w ((w.alloc (.cells #[.int .i64 l] 3)).alloc (.cells #[.slice none 0 0] 29)) := ((Below.refl _ w).alloc (Nat.le_refl _) _).alloc (by simp) _
  refine wpIn_rangeFunc_ownG rfl (by omega) (gf := 31) (lb := #[]) rfl trivial (enters_of Tryd.func31 (by kernel_rfl) rfl)
    (cy_stops Fence.wide _ trivial rfl (by omega) w.heap.size _ (HT.out.on hB0)) belowK_t (belowK_b (by simp; omega)) (Below.refl _ _) (fun _ => rfl)
    (fun pre W => (∃ v, Boxed W (w.heap.size + 1) 29 v ∧ W.ownsRow w.heap.size 32 2 v (sel l pre).length (flat (sel l pre)) ∧ True) ∧ (Boxed W w.heap.size 3 (.int .i64 l) ∧ Below w.heap.size w W))
    (fun _ _ _ => False)
    (OwnFrom.and (Own.from (holdsRow_own w.heap.size (w.heap.size + 1) 29 32 2 (fun pre => (sel l pre).length) (fun pre => flat (sel l pre)) (fun _ _ => True)) _) (OwnFrom.and (Own.from (boxed_own w.heap.size 3 (fun _ => .int .i64 l)) _) (ownFrom_below (Nat.le_refl _) (by simp; omega))))
    (fun _ _ _ _ _ hs _ _ => hs)
    ⟨⟨_, bO, World.ownsRow_nil _ _ _ _, trivial⟩, bL2, hB0⟩
    (fun x => { tmps := #[.int .i64 l, .pointer (some ⟨w.heap.size, 0, none⟩), .slice none 0 0, .pointer (some ⟨w.heap.size + 1, 0, none⟩), .int .i64 x.1, .int .i64 x.2, .func (.func 31) #[] #[], .int .i64 x.1, .int .i64 x.2, undef, undef, undef, undef, undef, undef, undef, undef, undef, undef, undef], defers := [] }) ?assign ?body ?done ?stop
  case assign =>
    intro lp x W K hK
    gi_wp2
    exact hK
  case body =>
    rintro lp pre x W ⟨⟨v, hv, hrow, _⟩, hbl, hB⟩ hlt
    have hc := hbl.cell
    have hle := sel_le l pre
    cases hbr : bears x.1 x.2 l
    · have HR := Lib.hid (fun w ht => by have := lbears_any x.1 x.2 l w ht; rwa [hbr] at this : ∀ w, LTab w → Calls Tryd.prog 14 #[.int .i64 x.1, .int .i64 x.2, .int .i64 l] w fun e w' => e = .returned (.bool false) ∧ Below w.heap.size w w')
      have HP := Lib.hid (sel_miss l pre hbr)
      have HB := Lib.hid hB
      have HV := Lib.hid hv
      have HO := Lib.hid hrow
      have HL := Lib.hid hbl
      clear hbr hB hv hrow hbl
      gi_wp2_with (refine ⟨trivial, ?_⟩; gi_at_call 14; refine (CallsIn.inRound lp (callsIn_wide.2 (HR.out _ (HT.out.on HB.out)))).mono ?_; rintro e w1 ⟨rfl, hb1⟩)
      exact ⟨(keeps_below hb1).from _, hb1.mono HB.out.size, ⟨v, boxed_below HV.out hb1, by rw [HP.out]; exact World.ownsRow.kept HO.out (grown_of_below hb1 none) (by cases hv : v.ownBlock <;> simp), trivial⟩, boxed_below HL.out hb1, below_on HB.out hb1⟩
    · have HR := Lib.hid (fun w ht => by have := lbears_any x.1 x.2 l w ht; rwa [hbr] at this : ∀ w, LTab w → Calls Tryd.prog 14 #[.int .i64 x.1, .int .i64 x.2, .int .i64 l] w fun e w' => e = .returned (.bool true) ∧ Below w.heap.size w w')
      have HP := Lib.hid (sel_hit l pre hbr)
      have HB := Lib.hid hB
      have HV := Lib.hid hv
      have HO := Lib.hid hrow
      have HL := Lib.hid hbl
      clear hbr hB hv hrow hbl
      gi_wp2_with (first | (refine ⟨trivial, ?_⟩; gi_at_call 14; refine (CallsIn.inRound lp (callsIn_wide.2 (HR.out _ (HT.out.on HB.out)))).mono ?_; rintro e w1 ⟨rfl, hb1⟩; have hvc := (boxed_below HV.out hb1).cell) | (gi_at_builtin; refine wpListIn_append_own _ rfl _ _ 29 rfl w.heap.size 32 i0 (.agg #[.int .i64 0, .int .i64 0]) 2 16 Tryd.underlying29 hi hz0 hz1 hz2 rfl (by decide) _ _ _ rfl ((World.ownsRow.kept HO.out (grown_of_below hb1 none) (by cases hv : v.ownBlock <;> simp)).alloc _) ⟨w1.heap.size, 0, none⟩ 1 1 [.int .i64 x.1, .int .i64 x.2] rfl rfl (cell_two_new _ _ _ _) (by simp [Value.oneCell']) (by unfold maxLen; omega) (by omega) (by have := HB.out.size; have := hb1.size; simp; omega) ?_; intro v' w2 hown' hgrow _; obtain ⟨g', cap', rfl⟩ := ownsRow_succ hown'; obtain ⟨hv1, hv2, hr2, hk2, hb2, hl2⟩ := days_app hb1 HV.out (by decide) (by decide) HO.out HB.out.size (Nat.le_refl _) HL.out hown' hgrow; have hc1 := hv1.cell; have hf1 := hv1.frozen; have H1 := Lib.hid hv2; have H2 := Lib.hid hr2; have H3 := Lib.hid hk2; have H4 := Lib.hid hb2; have H5 := Lib.hid hl2; clear hv1 hv2 hr2 hk2 hb2 hl2 hown' hgrow))
      exact ⟨H3.out.from _, H4.out, ⟨_, H1.out, by rw [HP.out, List.length_append, flat_app]; exact H2.out, trivial⟩, H5.out, HB.out.trans H4.out⟩
  case done =>
    rintro D ys W hD rfl ⟨⟨v, hv, hrow, _⟩, hbl, hB⟩ hK
    have hc := hv.cell
    gi_wp2
    refine ⟨by simp, .inl ⟨_, _, rfl, run_takeDeferred hK, ?_⟩⟩
    exact ⟨_, results_tmp rfl _ _ _, v, rfl, ownsRow_putObj hrow _ hK rfl, hB.trans (belowK_b (w := w) (Nat.le_refl _) W D _ _ (by simp at hD; omega) hK rfl rfl)⟩
  case stop =>
    rintro D c pre W _ _ h _
    exact h.elim
end Go.Proofs.YtadapffmcdkfiaaDoor
