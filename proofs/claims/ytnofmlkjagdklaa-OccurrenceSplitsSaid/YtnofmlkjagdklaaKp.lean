/- What earlier stages proved: Pa Pb Pc Pd Pe. -/
import Derived.Test.YtnofmlkjagdklaaKc
import Derived.Test.YtnofmlkjagdklaaKe
import Derived.Test.YtnofmlkjagdklaaKl
import Derived.Test.YtnofmlkjagdklaaKr
import Derived.Test.YtnofmlkjagdklaaKm
import Derived.Deep.RegionHeld3
import Derived.WalkMore
import Derived.ScopeJumps
import Derived.LoopTactic
import Derived.OwnWalk
import Derived.Maps.AppendAt
namespace Go.Proofs.Ytnofmlkjagdklaa

/-- The month and the day that lie k days behind 21 March. -/
def marM (k : Int) : Int := if k ≤ 10 then 3 else 4
def marD (k : Int) : Int := if k ≤ 10 then 21 + k else k - 10
/-- How many days behind 21 March the first full moon of a year with label l is. -/
def off (l : Int) : Nat := (List.range 29).findIdx fun j => bears (marM (Int.ofNat j - 13)) (marD (Int.ofNat j - 13)) l
def offB (l : Int) : Bool := decide (off l ≤ 28) && bears (marM (Int.ofNat (off l) - 13)) (marD (Int.ofNat (off l) - 13)) l && (List.range 29).all fun j => !decide (j < off l) || !bears (marM (Int.ofNat j - 13)) (marD (Int.ofNat j - 13)) l
theorem off_all {l : Int} (l1 : 1 ≤ l) (l2 : l ≤ 31) : off l ≤ 28 ∧ bears (marM (off l - 13)) (marD (off l - 13)) l = true ∧ ∀ j : Nat, j < off l → bears (marM (j - 13)) (marD (j - 13)) l = false := by
  have := all_l offB (by kernel_rfl) l l1 l2
  unfold offB at this
  simp only [Bool.and_eq_true, decide_eq_true_eq] at this
  obtain ⟨⟨h1, h2⟩, h3⟩ := this
  refine ⟨h1, h2, fun j hj => ?_⟩
  have := all_lt 29 _ h3 j (by omega)
  simpa [hj] using this

theorem mar_vld (C : Cal) {y k : Int} (y1 : 1 ≤ y) (y2 : y ≤ 1000000000) (k1 : -20 ≤ k) (k2 : k ≤ 40) : C.vld y (marM k) (marD k) = true ∧ C.num y (marM k) (marD k) = C.num y 3 21 + k := by
  have a3 : dim (C.lp y) 3 = 31 := rfl
  have a4 : dim (C.lp y) 4 = 30 := rfl
  have b3 : cum (C.lp y) 3 = 59 + l01 (C.lp y) := by unfold cum; rw [if_neg (by omega)]; omega
  have b4 : cum (C.lp y) 4 = 90 + l01 (C.lp y) := by unfold cum; rw [if_neg (by omega)]; omega
  unfold marM marD
  split
  · exact ⟨C.vld_iff.2 ⟨y1, y2, by omega, by rw [a3]; omega⟩, by unfold Cal.num; omega⟩
  · exact ⟨C.vld_iff.2 ⟨y1, y2, by omega, by rw [a4]; omega⟩, by unfold Cal.num; rw [b3, b4]; omega⟩
/-- The number of 21 March. -/
def marN (c y : Int) : Int := (calOf c).num y 3 21
theorem mar_to {c y : Int} (hc : okC c = true) (y1 : 1 ≤ y) (y2 : y ≤ 1000000000) {k : Int} (k1 : -20 ≤ k) (k2 : k ≤ 40) : tE c y (marM k) (marD k) = 0 ∧ tN c y (marM k) (marD k) = marN c y + k := by
  obtain ⟨v, n⟩ := mar_vld (calOf c) y1 y2 k1 k2
  obtain ⟨a, b⟩ := tE_at hc v
  exact ⟨a, by rw [b, n]; rfl⟩
theorem mar_from {c y : Int} (hc : okC c = true) (y1 : 1 ≤ y) (y2 : y ≤ 1000000000) {k : Int} (k1 : -20 ≤ k) (k2 : k ≤ 40) :
    fE c (marN c y + k) = 0 ∧ fY c (marN c y + k) = y ∧ fM c (marN c y + k) = marM k ∧ fD c (marN c y + k) = marD k := by
  obtain ⟨v, n⟩ := mar_vld (calOf c) y1 y2 k1 k2
  exact fE_at hc v n
theorem marN_bd {c y : Int} (hc : okC c = true) (y1 : 1 ≤ y) (y2 : y ≤ 1000000000) : -1 ≤ marN c y ∧ marN c y ≤ 365249999998 := by
  have := mar_to hc y1 y2 (k := 0) (by omega) (by omega)
  have h := tN_bd c y (marM 0) (marD 0)
  rw [this.2] at h; omega

def pfM (l : Int) : Int := marM (off l)
def pfD (l : Int) : Int := marD (off l)
theorem lab_bd (c y : Int) : 1 ≤ lab c y ∧ lab c y ≤ 31 := by unfold lab; exact lbl_bd (by unfold epc; exact ep30_bd _)
theorem epE_okC {c y : Int} (h : epE c y = 0) : okC c = true := okC_iff.2 (epE_zero h).1

end Go.Proofs.Ytnofmlkjagdklaa

namespace Go.Proofs.Ytnofmlkjagdklaa
open Go.RowKit

/-- The tables of both calendars and of package label. -/
structure PT (w : World) : Prop where
  c : CTab w
  l : LTab w
theorem PT.on {w w' : World} (h : PT w) (hb : Below w.heap.size w w') : PT w' := ⟨h.c.on hb, h.l.on hb⟩
theorem PT.al {w : World} (h : PT w) (o : Obj) : PT (w.alloc o) := ⟨h.c.al o, h.l.al o⟩
/-- The tables read as laid, and what was in memory is as it was. -/
structure PSt (W w : World) : Prop where
  t : PT w
  b : Below W.heap.size W w
theorem PSt.start {W : World} (h : PT W) : PSt W W := ⟨h, Below.refl _ _⟩
theorem PSt.on {W w w' : World} (h : PSt W w) (hb : Below w.heap.size w w') : PSt W w' := ⟨h.t.on hb, below_on h.b hb⟩
theorem PSt.al {W w : World} (h : PSt W w) (o : Obj) : PSt W (w.alloc o) := h.on ((Below.refl w.heap.size w).alloc (Nat.le_refl _) o)
theorem PSt.dn {W w : World} (h : PSt W w) (n : Nat) : PSt W (w.drewN n) := h.on (below_dn (Below.refl _ _) n)
theorem PSt.set {W w : World} (h : PSt W w) (ht : PT W) {b : Nat} (hb : W.heap.size ≤ b) (x y z : Value) : PSt W (set3 w b x y z) := by
  have h1 : Below W.heap.size W (set3 w b x y z) := below_set3 h.b hb x y z rfl
  exact ⟨ht.on h1, h1⟩

section
variable (c y m d : Int) (w : World)
theorem One.here {W u : World} {b : Nat} {y m d : Int} {t : Nat} (h : u.heap[b]? = some (.cells #[.int .i64 y, .int .i64 m, .int .i64 d] t (0, 0))) (hb : Below W.heap.size W u) : One W b y m d u :=
  ⟨(row3 h).1, (row3 h).2.1, (row3 h).2.2.1, hb⟩
theorem One.drew {W u : World} {b : Nat} {y m d : Int} (h : One W b y m d u) : One W b y m d u.drew := h.on (below_dn (Below.refl _ _) 1)
theorem r9nm_any (h : epE c y = 0) : Calls Try.prog 67 #[.int .i64 c, dtv y m d] w fun e w' => e = .returned (.bool (bears m d (lab c y))) ∧ Below w.heap.size w w' := by
  have HA := Lib.hid (fun u (hu : One w w.heap.size y m d u) => (rlabe_any c y u h).mono (R' := fun e u' => e = .returned (.int .i64 (lab c y)) ∧ One w w.heap.size y m d u') fun e u' ⟨he, hq⟩ => ⟨he, hq ▸ hu⟩)
  have HB := Lib.hid (fun l u (hu : One w w.heap.size y m d u) => (rbears_any m d l u).mono (R' := fun e u' => e = .returned (.bool (bears m d l)) ∧ One w w.heap.size y m d u') fun e u' ⟨he, hb⟩ => ⟨he, hu.on hb⟩)
  clear h
  generalize lab c y = l at *
  have H0 := Lib.hid (One.here (W := w) (heap_alloc_new w (.cells #[.int .i64 y, .int .i64 m, .int .i64 d] 89)) ((Below.refl w.heap.size w).alloc (Nat.le_refl _) _)).drew
  go_enter Try.func67, Try.ntmps67
  go_wp2_with fail
  go_region_held3 (fun u => u.cell? ⟨w.heap.size, 0, none⟩ = some (.int .i64 y) ∧ u.cell? ⟨w.heap.size, 1, none⟩ = some (.int .i64 m) ∧ u.cell? ⟨w.heap.size, 2, none⟩ = some (.int .i64 d) ∧ Below w.heap.size w u)
    (first | exact H0.out | assumption)
    (first | (go_at_call 76; refine (HA.out _ (by assumption)).mono ?_; rintro e1 w1 ⟨rfl, hs1⟩) | (go_at_call 75; refine (HB.out _ _ (by assumption)).mono ?_; rintro e2 w2 ⟨rfl, hs2⟩))
  go_wp2_with fail
  go_ret
  exact ⟨rfl, hs2.2.2.2⟩
end
end Go.Proofs.Ytnofmlkjagdklaa

namespace Go.Proofs.Ytnofmlkjagdklaa
open Go.RowKit

section
variable (c y : Int) (w : World)
set_option maxHeartbeats 1000000 in
theorem r9fu_ok (n : Int) (f : Nat) (hf : f ≤ 28) (n1 : -1 ≤ n) (n2 : n ≤ 365249999998) (HT : ∀ w, PT w → Calls Try.prog 55 #[.int .i64 c, dtv y 3 21] w fun e w' => e = .returned (numv n 0) ∧ Below w.heap.size w w') (HF : ∀ w (k m : Int), m = n + k → -20 ≤ k → k ≤ 40 → PT w → Calls Try.prog 66 #[.int .i64 c, .int .i64 m] w fun e w' => e = .returned (datv y (marM k) (marD k) 0) ∧ Below w.heap.size w w') (HB : ∀ j : Nat, j < f → ∀ w, Calls Try.prog 67 #[.int .i64 c, dtv y (marM (j - 13)) (marD (j - 13))] w fun e w' => e = .returned (.bool false) ∧ Below w.heap.size w w') (HB1 : ∀ w, Calls Try.prog 67 #[.int .i64 c, dtv y (marM (f - 13)) (marD (f - 13))] w fun e w' => e = .returned (.bool true) ∧ Below w.heap.size w w') (ht : PT w) : Calls Try.prog 56 #[.int .i64 c, .int .i64 y] w fun e w' => e = .returned (dtv y (marM f) (marD f)) ∧ Below w.heap.size w w' := by
  have S0 := Lib.hid (PSt.start ht)
  have HFh := Lib.hid HF
  have HBh := Lib.hid HB
  clear ht HF HB
  go_enter Try.func56, Try.ntmps56
  go_wp2_with fail
  refine (HT _ ((S0.out.al _).al _).t).mono ?_
  rintro e w1 ⟨rfl, hb1⟩
  have S1 := Lib.hid (((S0.out.al _).al _).on hb1)
  have R1 := Lib.hid (row_on (b := w.heap.size) (o := zdate) (row_al (heap_alloc_new _ _) _) hb1)
  clear hb1
  go_wp2_with fail
  go_loopw [6, 8] (fun p i wr => ∃ j : Nat, j ≤ f ∧ p = .int .i64 (n + j) ∧ i = .int .i64 j ∧ PSt w wr ∧ wr.heap[w.heap.size]? = some zdate) (fun p _ _ => (n + f - intOf p).toNat)
  case atStart => exact ⟨0, by omega, by simp, by simp, S1.out, R1.out⟩
  case round =>
    obtain ⟨j, hj, rfl, rfl, hS, hR⟩ := hrel
    have Sr := Lib.hid hS
    have Rr := Lib.hid hR
    clear hS hR
    have HFj := Lib.hid (fun w m (hm : m = n + ((j : Int) - 13)) (ht : PT w) => HFh.out w ((j : Int) - 13) m hm (by omega) (by omega) ht)
    by_cases hlt : j < f
    · have HBj := Lib.hid (HBh.out j hlt)
      generalize marM ((j : Int) - 13) = M at *
      generalize marD ((j : Int) - 13) = D at *
      go_wp2_with fail
      refine (HFj.out _ _ (by omega) Sr.out.t).mono ?_
      rintro e w3 ⟨rfl, hb3⟩
      have S3 := Lib.hid (Sr.out.on hb3)
      have R3 := Lib.hid (row_on Rr.out hb3)
      clear hb3
      go_wp2_with fail
      refine (HBj.out _).mono ?_
      rintro e w4 ⟨rfl, hb4⟩
      have S4 := Lib.hid ((S3.out.al _).on hb4)
      have R4 := Lib.hid (row_on (row_al R3.out _) hb4)
      clear hb4
      go_wp2_with fail
      go_roundw
      case rel => exact ⟨j + 1, by omega, by go_num, by go_num, S4.out, R4.out⟩
      case measure => simp [intOf]; omega
    · obtain rfl : j = f := by omega
      have HBj := Lib.hid HB1
      clear HB1
      have HFf := Lib.hid (fun w m (hm : m = n + (j : Int)) (ht : PT w) => HFh.out w (j : Int) m hm (by omega) (by omega) ht)
      generalize marM ((j : Int) - 13) = M at *
      generalize marD ((j : Int) - 13) = D at *
      go_wp2_with fail
      refine (HFj.out _ _ (by omega) Sr.out.t).mono ?_
      rintro e w3 ⟨rfl, hb3⟩
      have S3 := Lib.hid (Sr.out.on hb3)
      have R3 := Lib.hid (row_on Rr.out hb3)
      clear hb3
      go_wp2_with fail
      refine (HBj.out _).mono ?_
      rintro e w4 ⟨rfl, hb4⟩
      have S4 := Lib.hid ((S3.out.al _).on hb4)
      have R4 := Lib.hid (row_on (row_al R3.out _) hb4)
      clear hb4
      go_wp2_with fail
      refine (HFf.out _ _ (by omega) S4.out.t).mono ?_
      rintro e w5 ⟨rfl, hb5⟩
      have S5 := Lib.hid (S4.out.on hb5)
      have R5 := Lib.hid (row_on R4.out hb5)
      have hz5 : w.heap.size < w5.heap.size := (row3 (row_on R4.out hb5)).2.2.2.2.2.2
      have nz5 := Nat.ne_of_lt hz5
      have nz5' := (Nat.ne_of_lt hz5).symm
      obtain ⟨c0, c1, c2, f0, f1, f2, _⟩ := row3 (row_on R4.out hb5)
      clear hb5
      go_wp2_with fail
      generalize hu : (((w5.setCell ⟨w.heap.size, 0, none⟩ (.int .i64 y)).setCell ⟨w.heap.size, 1, none⟩ (.int .i64 (marM j))).setCell ⟨w.heap.size, 2, none⟩ (.int .i64 (marD j))).alloc (.cells #[.int .i64 y, .int .i64 (marM j), .int .i64 (marD j)] 89) = u
      obtain ⟨k0, k1, k2, kb⟩ := three_al _ _ _ R5.out hu
      have Hb := Lib.hid (kb _ S5.out.b (by omega))
      clear hu
      exact bodyPost_ret (v := dtv y (marM j) (marD j)) (by simp [results, Try.results56, go_sem, k0, k1, k2]) rfl ⟨rfl, Hb.out⟩
theorem r9fu_any (h : epE c y = 0) (ht : PT w) : Calls Try.prog 56 #[.int .i64 c, .int .i64 y] w fun e w' => e = .returned (dtv y (pfM (lab c y)) (pfD (lab c y))) ∧ Below w.heap.size w w' := by
  have hc := epE_okC h
  obtain ⟨y1, y2⟩ := epE_inY h
  obtain ⟨l1, l2⟩ := lab_bd c y
  obtain ⟨f1, f2, f3⟩ := off_all l1 l2
  obtain ⟨n1, n2⟩ := marN_bd hc y1 y2
  have HT := fun w (ht : PT w) => r5day_any y 3 21 w c ht.c
  obtain ⟨t1, t2⟩ := mar_to hc y1 y2 (k := 0) (by omega) (by omega)
  rw [show marM 0 = 3 from rfl, show marD 0 = 21 from rfl] at t1 t2
  rw [t1, t2, Int.add_zero] at HT
  refine r9fu_ok c y w (marN c y) (off (lab c y)) f1 n1 n2 HT (fun w k m hm k1 k2 ht => ?_) (fun j hj w => ?_) (fun w => ?_) ht
  · obtain ⟨a0, a1, a2, a3⟩ := mar_from hc y1 y2 k1 k2
    have := r5from_any m w c ht.c
    rw [hm, a0, a1, a2, a3] at this
    rw [hm]; exact this
  · have := r9nm_any c y (marM (j - 13)) (marD (j - 13)) w h
    rwa [f3 j hj] at this
  · have := r9nm_any c y (marM (off (lab c y) - 13)) (marD (off (lab c y) - 13)) w h
    rwa [f2] at this
end
end Go.Proofs.Ytnofmlkjagdklaa

namespace Go.Proofs.Ytnofmlkjagdklaa
open Go.RowKit

def flat3 : List (Int × Int × Int) → List Value
  | [] => []
  | x :: xs => .int .i64 x.1 :: .int .i64 x.2.1 :: .int .i64 x.2.2 :: flat3 xs
theorem flat3_app : ∀ xs ys : List (Int × Int × Int), flat3 (xs ++ ys) = flat3 xs ++ flat3 ys
  | [], _ => rfl
  | x :: xs, ys => by simp [flat3, flat3_app xs ys]
def DatesAt (B : Nat) (v : Value) (ps : List (Int × Int × Int)) (w : World) : Prop := w.ownsRow B 89 3 v ps.length (flat3 ps)
theorem DatesAt.on {B : Nat} {v : Value} {xs : List (Int × Int × Int)} {w w' : World} (h : DatesAt B v xs w) (hb : Below w.heap.size w w') : DatesAt B v xs w' :=
  World.ownsRow.kept h (grown_of_below hb none) (by cases hv : v.ownBlock <;> simp)
theorem DatesAt.al {B : Nat} {v : Value} {xs : List (Int × Int × Int)} {w : World} (h : DatesAt B v xs w) (o : Obj) : DatesAt B v xs (w.alloc o) := h.on ((Below.refl _ _).alloc (Nat.le_refl _) o)
theorem DatesAt.lower {B B' : Nat} {v : Value} {xs : List (Int × Int × Int)} {w : World} (h : DatesAt B v xs w) (hB : B' ≤ B) : DatesAt B' v xs w := by
  refine ⟨h.1, ?_⟩
  rcases h.2 with hn | ⟨g, cap, cur, e, hb, rest⟩
  · exact .inl hn
  · exact .inr ⟨g, cap, cur, e, Nat.le_trans hB hb, rest⟩
theorem DatesAt.app {B : Nat} {v v' : Value} {xs : List (Int × Int × Int)} {y a b : Int} {w w1 w2 : World} {o : Obj} (hv : DatesAt B v xs w1) (hB : Below B w w1) (hs : B ≤ w1.heap.size)
    (hown : w2.ownsRow B 89 3 v' (xs.length + 1) (flat3 xs ++ [.int .i64 y, .int .i64 a, .int .i64 b])) (hg : (w1.alloc o).grownBy w2 v.ownBlock) : DatesAt B v' (xs ++ [(y, a, b)]) w2 ∧ Below B w w2 := by
  refine ⟨?_, (hB.alloc hs _).grown hg (by simp; omega) (fun k e => (World.ownsRow.lt hv k e).1)⟩
  rw [DatesAt, List.length_append, flat3_app]
  exact hown
/-- What a walk reads of it. -/
theorem flat3_at : ∀ (ps : List (Int × Int × Int)) (i : Nat) (x : Int × Int × Int), ps[i]? = some x → (flat3 ps)[i * 3]? = some (.int .i64 x.1) ∧ (flat3 ps)[i * 3 + 1]? = some (.int .i64 x.2.1) ∧ (flat3 ps)[i * 3 + 2]? = some (.int .i64 x.2.2)
  | [], i, x, h => by simp at h
  | p :: ps, 0, x, h => by
    simp at h; subst h; exact ⟨rfl, rfl, rfl⟩
  | p :: ps, i + 1, x, h => by
    have := flat3_at ps i x (by simpa using h)
    rw [show (i + 1) * 3 = i * 3 + 1 + 1 + 1 by omega]
    simpa [flat3] using this
structure DatesIn (g cap : Nat) (ps : List (Int × Int × Int)) (w : World) : Prop where
  lt : g < w.heap.size
  le : ps.length ≤ cap
  mx : cap ≤ maxLen
  one : ∀ (i : Nat) (x : Int × Int × Int), ps[i]? = some x → w.cell? ⟨g, i * 3, none⟩ = some (.int .i64 x.1)
  two : ∀ (i : Nat) (x : Int × Int × Int), ps[i]? = some x → w.cell? ⟨g, i * 3 + 1, none⟩ = some (.int .i64 x.2.1)
  thr : ∀ (i : Nat) (x : Int × Int × Int), ps[i]? = some x → w.cell? ⟨g, i * 3 + 2, none⟩ = some (.int .i64 x.2.2)
theorem DatesIn.on {g cap : Nat} {ps : List (Int × Int × Int)} {w w' : World} (h : DatesIn g cap ps w) (hb : Below w.heap.size w w') : DatesIn g cap ps w' :=
  ⟨Nat.lt_of_lt_of_le h.lt hb.size, h.le, h.mx, fun i x hi => cell_below (h.one i x hi) hb, fun i x hi => cell_below (h.two i x hi) hb, fun i x hi => cell_below (h.thr i x hi) hb⟩
theorem DatesAt.get {B : Nat} {v : Value} {ps : List (Int × Int × Int)} {w : World} (h : DatesAt B v ps w) : (v = .slice none 0 0 ∧ ps = []) ∨ ∃ g cap, v = .slice (some ⟨g, 0, none⟩) ps.length cap ∧ B ≤ g ∧ DatesIn g cap ps w := by
  rcases h.2 with ⟨rfl, hn⟩ | ⟨g, cap, cur, rfl, hb, hg, hnc, hcm, hcs, htake⟩
  · exact .inl ⟨rfl, List.eq_nil_of_length_eq_zero hn⟩
  · have hadd : ∀ j, (⟨g, 0, none⟩ : Addr).add j = ⟨g, j, none⟩ := fun j => by unfold Addr.add; split <;> simp_all
    refine .inr ⟨g, cap, rfl, hb, (Array.getElem?_eq_some_iff.1 hg).1, hnc, hcm, fun i x hi => ?_, fun i x hi => ?_, fun i x hi => ?_⟩
    · have := World.ownsRow.cells h (g := g) rfl _ _ (flat3_at ps i x hi).1
      rwa [hadd] at this
    · have := World.ownsRow.cells h (g := g) rfl _ _ (flat3_at ps i x hi).2.1
      rwa [hadd] at this
    · have := World.ownsRow.cells h (g := g) rfl _ _ (flat3_at ps i x hi).2.2
      rwa [hadd] at this
section
variable (c y : Int) (w : World)
end
end Go.Proofs.Ytnofmlkjagdklaa

namespace Go.Proofs.Ytnofmlkjagdklaa
open Go.RowKit

theorem dim_lp (l : Bool) (m : Int) : dim false m ≤ dim l m := by
  have := l01_bd l
  have z : l01 false = 0 := rfl
  unfold dim; split
  · omega
  · exact Int.le_refl _
end Go.Proofs.Ytnofmlkjagdklaa
