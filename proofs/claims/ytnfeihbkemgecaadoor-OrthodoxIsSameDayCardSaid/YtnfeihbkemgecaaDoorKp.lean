/- What earlier stages proved: Pa Pb Pc Pd Pe. -/
import Derived.Test.YtnfeihbkemgecaaDoorKc
import Derived.Test.YtnfeihbkemgecaaDoorKe
import Derived.Test.YtnfeihbkemgecaaDoorKl
import Derived.Test.YtnfeihbkemgecaaDoorKr
import Derived.Test.YtnfeihbkemgecaaDoorKa
import Derived.Test.YtnfeihbkemgecaaDoorKd
import Derived.Test.YtnfeihbkemgecaaDoorKm
import Derived.Deep.RegionHeld3
import Derived.WalkMore
import Derived.ScopeJumps
import Derived.LoopTactic
import Derived.OwnWalk
import Derived.Maps.AppendAt
namespace Go.Proofs.YtnfeihbkemgecaaDoor

/-- The month and the day that lie k days behind 21 March. -/
def marM (k : Int) : Int := if k ≤ 10 then 3 else 4
def marD (k : Int) : Int := if k ≤ 10 then 21 + k else k - 10
/-- How many days behind 21 March the first full moon of a year with label l is. -/
def off (l : Int) : Nat := (List.range 29).findIdx fun j => bears (marM (Int.ofNat j - 13)) (marD (Int.ofNat j - 13)) l
def offB (l : Int) : Bool := decide (off l ≤ 28) && bears (marM (Int.ofNat (off l) - 13)) (marD (Int.ofNat (off l) - 13)) l && (List.range 29).all fun j => !decide (j < off l) || !bears (marM (Int.ofNat j - 13)) (marD (Int.ofNat j - 13)) l
theorem off_all {l : Int} (l1 : 1 ≤ l) (l2 : l ≤ 31) : off l ≤ 28 ∧ bears (marM (off l - 13)) (marD (off l - 13)) l = true ∧ ∀ j : Nat, j < off l → bears (marM (j - 13)) (marD (j - 13)) l = false := by
  have := all_l offB (by kernel_rfl) l l1 l2
  unfold offB at this
  simp only [Bool.and_eq_true, decide_eq_true_eq] at this
  obtain ⟨⟨h1, h2⟩, h3⟩ := this
  refine ⟨h1, h2, fun j hj => ?_⟩
  have := all_lt 29 _ h3 j (by omega)
  simpa [hj] using this

theorem mar_vld (C : Cal) {y k : Int} (y1 : 1 ≤ y) (y2 : y ≤ 1000000000) (k1 : -20 ≤ k) (k2 : k ≤ 40) : C.vld y (marM k) (marD k) = true ∧ C.num y (marM k) (marD k) = C.num y 3 21 + k := by
  have a3 : dim (C.lp y) 3 = 31 := rfl
  have a4 : dim (C.lp y) 4 = 30 := rfl
  have b3 : cum (C.lp y) 3 = 59 + l01 (C.lp y) := by unfold cum; rw [if_neg (by omega)]; omega
  have b4 : cum (C.lp y) 4 = 90 + l01 (C.lp y) := by unfold cum; rw [if_neg (by omega)]; omega
  unfold marM marD
  split
  · exact ⟨C.vld_iff.2 ⟨y1, y2, by omega, by rw [a3]; omega⟩, by unfold Cal.num; omega⟩
  · exact ⟨C.vld_iff.2 ⟨y1, y2, by omega, by rw [a4]; omega⟩, by unfold Cal.num; rw [b3, b4]; omega⟩
/-- The number of 21 March. -/
def marN (c y : Int) : Int := (calOf c).num y 3 21
theorem mar_to {c y : Int} (hc : okC c = true) (y1 : 1 ≤ y) (y2 : y ≤ 1000000000) {k : Int} (k1 : -20 ≤ k) (k2 : k ≤ 40) : tE c y (marM k) (marD k) = 0 ∧ tN c y (marM k) (marD k) = marN c y + k := by
  obtain ⟨v, n⟩ := mar_vld (calOf c) y1 y2 k1 k2
  obtain ⟨a, b⟩ := tE_at hc v
  exact ⟨a, by rw [b, n]; rfl⟩
theorem mar_from {c y : Int} (hc : okC c = true) (y1 : 1 ≤ y) (y2 : y ≤ 1000000000) {k : Int} (k1 : -20 ≤ k) (k2 : k ≤ 40) :
    fE c (marN c y + k) = 0 ∧ fY c (marN c y + k) = y ∧ fM c (marN c y + k) = marM k ∧ fD c (marN c y + k) = marD k := by
  obtain ⟨v, n⟩ := mar_vld (calOf c) y1 y2 k1 k2
  exact fE_at hc v n
theorem marN_bd {c y : Int} (hc : okC c = true) (y1 : 1 ≤ y) (y2 : y ≤ 1000000000) : -1 ≤ marN c y ∧ marN c y ≤ 365249999998 := by
  have := mar_to hc y1 y2 (k := 0) (by omega) (by omega)
  have h := tN_bd c y (marM 0) (marD 0)
  rw [this.2] at h; omega

def pfM (l : Int) : Int := marM (off l)
def pfD (l : Int) : Int := marD (off l)
/-- FullMoon. -/
def puY (c y : Int) : Int := if epE c y = 0 then y else 0
def puM (c y : Int) : Int := if epE c y = 0 then pfM (lab c y) else 0
def puD (c y : Int) : Int := if epE c y = 0 then pfD (lab c y) else 0
theorem lab_bd (c y : Int) : 1 ≤ lab c y ∧ lab c y ≤ 31 := by unfold lab; exact lbl_bd (by unfold epc; exact ep30_bd _)
theorem pu_ok {c y : Int} (h : epE c y = 0) : puY c y = y ∧ puM c y = pfM (lab c y) ∧ puD c y = pfD (lab c y) := by unfold puY puM puD; rw [if_pos h, if_pos h, if_pos h]; exact ⟨rfl, rfl, rfl⟩
theorem pu_no {c y : Int} (h : epE c y ≠ 0) : puY c y = 0 ∧ puM c y = 0 ∧ puD c y = 0 := by unfold puY puM puD; rw [if_neg h, if_neg h, if_neg h]; exact ⟨rfl, rfl, rfl⟩
theorem epE_okC {c y : Int} (h : epE c y = 0) : okC c = true := okC_iff.2 (epE_zero h).1

end Go.Proofs.YtnfeihbkemgecaaDoor

namespace Go.Proofs.YtnfeihbkemgecaaDoor
open Go.RowKit

/-- The tables of both calendars and of package label. -/
structure PT (w : World) : Prop where
  c : CTab w
  l : LTab w
theorem PT.on {w w' : World} (h : PT w) (hb : Below w.heap.size w w') : PT w' := ⟨h.c.on hb, h.l.on hb⟩
theorem PT.al {w : World} (h : PT w) (o : Obj) : PT (w.alloc o) := ⟨h.c.al o, h.l.al o⟩
/-- The tables read as laid, and what was in memory is as it was. -/
structure PSt (W w : World) : Prop where
  t : PT w
  b : Below W.heap.size W w
theorem PSt.start {W : World} (h : PT W) : PSt W W := ⟨h, Below.refl _ _⟩
theorem PSt.on {W w w' : World} (h : PSt W w) (hb : Below w.heap.size w w') : PSt W w' := ⟨h.t.on hb, below_on h.b hb⟩
theorem PSt.al {W w : World} (h : PSt W w) (o : Obj) : PSt W (w.alloc o) := h.on ((Below.refl w.heap.size w).alloc (Nat.le_refl _) o)
theorem PSt.dn {W w : World} (h : PSt W w) (n : Nat) : PSt W (w.drewN n) := h.on (below_dn (Below.refl _ _) n)
theorem PSt.set {W w : World} (h : PSt W w) (ht : PT W) {b : Nat} (hb : W.heap.size ≤ b) (x y z : Value) : PSt W (set3 w b x y z) := by
  have h1 : Below W.heap.size W (set3 w b x y z) := below_set3 h.b hb x y z rfl
  exact ⟨ht.on h1, h1⟩

section
variable (c y m d : Int) (w : World)
end
end Go.Proofs.YtnfeihbkemgecaaDoor

namespace Go.Proofs.YtnfeihbkemgecaaDoor
open Go.RowKit

section
variable (c y : Int) (w : World)
theorem pfu_e1 (k : Int) (HL : ∀ w, Calls Tryd.prog 40 #[.int .i64 c, .int .i64 y] w fun e w' => e = .returned (numv 0 k) ∧ Below w.heap.size w w') (hk : (k != 0) = true) (ht : PT w) : Calls Tryd.prog 22 #[.int .i64 c, .int .i64 y] w fun e w' => e = .returned (datv 0 0 0 k) ∧ Below w.heap.size w w' := by
  have S0 := Lib.hid (PSt.start ht)
  clear ht
  go_enter Tryd.func22, Tryd.ntmps22
  go_wp2
  go_step3
  go_wp2_with fail
  refine (HL _).mono ?_
  rintro e w1 ⟨rfl, hb1⟩
  have S1 := Lib.hid ((S0.out.al _).on hb1)
  have Rr_1 := Lib.hid (row_on (b := w.heap.size) (o := zdate) (heap_alloc_new _ _) hb1)
  obtain ⟨hc1, hf1⟩ := bcell hb1
  have hz1_0 : w.heap.size < w1.heap.size := by have := hb1.size; (try simp at this); omega
  clear hb1
  go_wp2_with fail
  rw [Exit.noGoto_ret]
  generalize hu : (((w1.setCell ⟨w.heap.size, 0, none⟩ (.int .i64 0)).setCell ⟨w.heap.size, 1, none⟩ (.int .i64 0)).setCell ⟨w.heap.size, 2, none⟩ (.int .i64 0)) = u
  obtain ⟨k0, k1, k2⟩ := three_set _ _ _ Rr_1.out hu
  have Hb := Lib.hid (below_set3 S1.out.b (by omega) _ _ _ hu)
  clear hu
  exact bodyPost_ret (v := datv 0 0 0 k) (by simp [results, Tryd.results22, go_sem, k0, k1, k2]) rfl ⟨rfl, Hb.out⟩
set_option maxHeartbeats 1000000 in
theorem pfu_ok (l n : Int) (f : Nat) (hf : f ≤ 28) (n1 : -1 ≤ n) (n2 : n ≤ 365249999998) (HL : ∀ w, Calls Tryd.prog 40 #[.int .i64 c, .int .i64 y] w fun e w' => e = .returned (numv l 0) ∧ Below w.heap.size w w') (HT : ∀ w, PT w → Calls Tryd.prog 24 #[.int .i64 c, dtv y 3 21] w fun e w' => e = .returned (numv n 0) ∧ Below w.heap.size w w') (HF : ∀ w (k m : Int), m = n + k → -20 ≤ k → k ≤ 40 → PT w → Calls Tryd.prog 39 #[.int .i64 c, .int .i64 m] w fun e w' => e = .returned (datv y (marM k) (marD k) 0) ∧ Below w.heap.size w w') (HB : ∀ j : Nat, j < f → ∀ w, PT w → Calls Tryd.prog 41 #[.int .i64 (marM (j - 13)), .int .i64 (marD (j - 13)), .int .i64 l] w fun e w' => e = .returned (.bool false) ∧ Below w.heap.size w w') (HB1 : ∀ w, PT w → Calls Tryd.prog 41 #[.int .i64 (marM (f - 13)), .int .i64 (marD (f - 13)), .int .i64 l] w fun e w' => e = .returned (.bool true) ∧ Below w.heap.size w w') (ht : PT w) : Calls Tryd.prog 22 #[.int .i64 c, .int .i64 y] w fun e w' => e = .returned (datv y (marM f) (marD f) 0) ∧ Below w.heap.size w w' := by
  have S0 := Lib.hid (PSt.start ht)
  have HFh := Lib.hid HF
  have HBh := Lib.hid HB
  clear ht HF HB
  go_enter Tryd.func22, Tryd.ntmps22
  go_wp2
  refine wp_scope_jumps 0 (fun a' w' => ∃ u1 u2 u3 u5 u6 u7 u9 u10 u11 u12 u13 u14 u15 u16 u17 u18 u19 u20 u21 u22 u23 u24 u25 u26 u27 u28 u29 u30 u31 u32 u33 u34 u35 u36 u37 u38 u39 u40 u41 u42 u43 u44 u45 u46 u47 u48 u49 u50 u51 u52 u53 u54 u55 : Value, a' = { tmps := #[.int .i64 c, u1, u2, u3, .pointer (some ⟨w.heap.size, 0, none⟩), u5, u6, u7, .int .i64 (n + f), u9, u10, u11, u12, u13, u14, u15, u16, u17, u18, u19, u20, u21, u22, u23, u24, u25, u26, u27, u28, u29, u30, u31, u32, u33, u34, u35, u36, u37, u38, u39, u40, u41, u42, u43, u44, u45, u46, u47, u48, u49, u50, u51, u52, u53, u54, u55], defers := [] } ∧ PSt w w' ∧ w'.heap[w.heap.size]? = some zdate) (fun _ _ => 0) rfl ?_ ?_
  · go_wp2_with fail
    refine (HL _).mono ?_
    rintro e w1 ⟨rfl, hb1⟩
    have S1 := Lib.hid ((S0.out.al _).on hb1)
    have R1 := Lib.hid (row_on (b := w.heap.size) (o := zdate) (heap_alloc_new _ _) hb1)
    clear hb1
    go_wp2_with fail
    refine (HT _ S1.out.t).mono ?_
    rintro e w2 ⟨rfl, hb2⟩
    have S2 := Lib.hid (S1.out.on hb2)
    have R2 := Lib.hid (row_on R1.out hb2)
    clear hb2
    go_wp2_with fail
    go_loopw [8] (fun p wr => ∃ j : Nat, j ≤ f ∧ p = .int .i64 (n + j) ∧ PSt w wr ∧ wr.heap[w.heap.size]? = some zdate) (fun p _ => (n + f - intOf p).toNat)
    case atStart => exact ⟨0, by omega, by simp, S2.out, R2.out⟩
    case round =>
      obtain ⟨j, hj, rfl, hS, hR⟩ := hrel
      have Sr := Lib.hid hS
      have Rr := Lib.hid hR
      clear hS hR
      have HFj := Lib.hid (fun w m (hm : m = n + ((j : Int) - 13)) (ht : PT w) => HFh.out w ((j : Int) - 13) m hm (by omega) (by omega) ht)
      by_cases hlt : j < f
      · have HBj := Lib.hid (HBh.out j hlt)
        generalize marM ((j : Int) - 13) = M at *
        generalize marD ((j : Int) - 13) = D at *
        go_wp2_with fail
        refine (HFj.out _ _ (by omega) Sr.out.t).mono ?_
        rintro e w3 ⟨rfl, hb3⟩
        have S3 := Lib.hid (Sr.out.on hb3)
        have R3 := Lib.hid (row_on Rr.out hb3)
        clear hb3
        go_wp2_with fail
        refine (HBj.out _ (S3.out.al _).t).mono ?_
        rintro e w4 ⟨rfl, hb4⟩
        have S4 := Lib.hid ((S3.out.al _).on hb4)
        have R4 := Lib.hid (row_on (row_al R3.out _) hb4)
        clear hb4
        go_wp2_with fail
        go_roundw
        case rel => exact ⟨j + 1, by omega, by go_num, S4.out, R4.out⟩
        case measure => simp [intOf]; omega
      · obtain rfl : j = f := by omega
        have HBj := Lib.hid HB1
        clear HB1
        generalize marM ((j : Int) - 13) = M at *
        generalize marD ((j : Int) - 13) = D at *
        go_wp2_with fail
        refine (HFj.out _ _ (by omega) Sr.out.t).mono ?_
        rintro e w3 ⟨rfl, hb3⟩
        have S3 := Lib.hid (Sr.out.on hb3)
        have R3 := Lib.hid (row_on Rr.out hb3)
        clear hb3
        go_wp2_with fail
        refine (HBj.out _ (S3.out.al _).t).mono ?_
        rintro e w4 ⟨rfl, hb4⟩
        have S4 := Lib.hid ((S3.out.al _).on hb4)
        have R4 := Lib.hid (row_on (row_al R3.out _) hb4)
        clear hb4
        go_wp2_with fail
        go_step3
        exact ⟨rfl, _, _, _, _, _, _, _, _, _, _, _, _, _, _, _, _, _, _, _, _, _, _, _, _, _, _, _, _, _, _, _, _, _, _, _, _, _, _, _, _, _, _, _, _, _, _, _, _, _, _, _, _, _, rfl, S4.out, R4.out⟩
  · rintro a' w1 ⟨u1, u2, u3, u5, u6, u7, u9, u10, u11, u12, u13, u14, u15, u16, u17, u18, u19, u20, u21, u22, u23, u24, u25, u26, u27, u28, u29, u30, u31, u32, u33, u34, u35, u36, u37, u38, u39, u40, u41, u42, u43, u44, u45, u46, u47, u48, u49, u50, u51, u52, u53, u54, u55, rfl, hS, hR⟩
    have S1 := Lib.hid hS
    have R1 := Lib.hid hR
    clear hS hR
    go_wp2_with fail
    refine (HFh.out _ f _ (by omega) (by omega) (by omega) S1.out.t).mono ?_
    rintro e w2 ⟨rfl, hb2⟩
    have S2 := Lib.hid (S1.out.on hb2)
    have R2 := Lib.hid (row_on R1.out hb2)
    have hz2 : w.heap.size < w2.heap.size := (row3 R2.out).2.2.2.2.2.2
    obtain ⟨c0, c1, c2, f0, f1, f2, _⟩ := row3 R2.out
    clear hb2
    go_wp2_with fail
    simp only [Exit.jump]
    generalize hu : (((w2.setCell ⟨w.heap.size, 0, none⟩ (.int .i64 y)).setCell ⟨w.heap.size, 1, none⟩ (.int .i64 (marM f))).setCell ⟨w.heap.size, 2, none⟩ (.int .i64 (marD f))) = u
    obtain ⟨k0, k1, k2⟩ := three_set _ _ _ R2.out hu
    have Hb := Lib.hid (below_set3 S2.out.b (by omega) _ _ _ hu)
    clear hu
    exact bodyPost_ret (v := datv y (marM f) (marD f) 0) (by simp [results, Tryd.results22, go_sem, k0, k1, k2]) rfl ⟨rfl, Hb.out⟩
theorem pfu_any (hw : (Lit.int .i64 c).wf = true) (ht : PT w) : Calls Tryd.prog 22 #[.int .i64 c, .int .i64 y] w fun e w' => e = .returned (datv (puY c y) (puM c y) (puD c y) (epE c y)) ∧ Below w.heap.size w w' := by
  have HL := fun w => eLab_any c y w hw
  by_cases h : epE c y = 0
  · have hc := epE_okC h
    obtain ⟨y1, y2⟩ := epE_inY h
    obtain ⟨l1, l2⟩ := lab_bd c y
    obtain ⟨f1, f2, f3⟩ := off_all l1 l2
    obtain ⟨n1, n2⟩ := marN_bd hc y1 y2
    rw [(epN_at h).2, h] at HL
    have HT := fun w (ht : PT w) => ctoday_any y 3 21 w c ht.c
    obtain ⟨t1, t2⟩ := mar_to hc y1 y2 (k := 0) (by omega) (by omega)
    rw [show marM 0 = 3 from rfl, show marD 0 = 21 from rfl] at t1 t2
    rw [t1, t2, Int.add_zero] at HT
    rw [(pu_ok h).1, (pu_ok h).2.1, (pu_ok h).2.2, h]
    refine pfu_ok c y w (lab c y) (marN c y) (off (lab c y)) f1 n1 n2 HL HT (fun w k m hm k1 k2 ht => ?_) (fun j hj w ht => ?_) (fun w ht => ?_) ht
    · obtain ⟨a0, a1, a2, a3⟩ := mar_from hc y1 y2 k1 k2
      have := cfrom_any m w c ht.c
      rw [hm, a0, a1, a2, a3] at this
      rw [hm]; exact this
    · exact lbears_is _ _ _ _ (f3 j hj) w ht.l
    · exact lbears_is _ _ _ _ f2 w ht.l
  · rw [(epN_no h).2] at HL
    rw [(pu_no h).1, (pu_no h).2.1, (pu_no h).2.2]
    exact pfu_e1 c y w _ HL (tE_ne h) ht
end
end Go.Proofs.YtnfeihbkemgecaaDoor

namespace Go.Proofs.YtnfeihbkemgecaaDoor
open Go.RowKit

def flat3 : List (Int × Int × Int) → List Value
  | [] => []
  | x :: xs => .int .i64 x.1 :: .int .i64 x.2.1 :: .int .i64 x.2.2 :: flat3 xs
def DatesAt (B : Nat) (v : Value) (ps : List (Int × Int × Int)) (w : World) : Prop := w.ownsRow B 24 3 v ps.length (flat3 ps)
theorem DatesAt.on {B : Nat} {v : Value} {xs : List (Int × Int × Int)} {w w' : World} (h : DatesAt B v xs w) (hb : Below w.heap.size w w') : DatesAt B v xs w' :=
  World.ownsRow.kept h (grown_of_below hb none) (by cases hv : v.ownBlock <;> simp)
theorem DatesAt.al {B : Nat} {v : Value} {xs : List (Int × Int × Int)} {w : World} (h : DatesAt B v xs w) (o : Obj) : DatesAt B v xs (w.alloc o) := h.on ((Below.refl _ _).alloc (Nat.le_refl _) o)
theorem DatesAt.lower {B B' : Nat} {v : Value} {xs : List (Int × Int × Int)} {w : World} (h : DatesAt B v xs w) (hB : B' ≤ B) : DatesAt B' v xs w := by
  refine ⟨h.1, ?_⟩
  rcases h.2 with hn | ⟨g, cap, cur, e, hb, rest⟩
  · exact .inl hn
  · exact .inr ⟨g, cap, cur, e, Nat.le_trans hB hb, rest⟩
/-- What a walk reads of it. -/
theorem flat3_at : ∀ (ps : List (Int × Int × Int)) (i : Nat) (x : Int × Int × Int), ps[i]? = some x → (flat3 ps)[i * 3]? = some (.int .i64 x.1) ∧ (flat3 ps)[i * 3 + 1]? = some (.int .i64 x.2.1) ∧ (flat3 ps)[i * 3 + 2]? = some (.int .i64 x.2.2)
  | [], i, x, h => by simp at h
  | p :: ps, 0, x, h => by
    simp at h; subst h; exact ⟨rfl, rfl, rfl⟩
  | p :: ps, i + 1, x, h => by
    have := flat3_at ps i x (by simpa using h)
    rw [show (i + 1) * 3 = i * 3 + 1 + 1 + 1 by omega]
    simpa [flat3] using this
structure DatesIn (g cap : Nat) (ps : List (Int × Int × Int)) (w : World) : Prop where
  lt : g < w.heap.size
  le : ps.length ≤ cap
  mx : cap ≤ maxLen
  one : ∀ (i : Nat) (x : Int × Int × Int), ps[i]? = some x → w.cell? ⟨g, i * 3, none⟩ = some (.int .i64 x.1)
  two : ∀ (i : Nat) (x : Int × Int × Int), ps[i]? = some x → w.cell? ⟨g, i * 3 + 1, none⟩ = some (.int .i64 x.2.1)
  thr : ∀ (i : Nat) (x : Int × Int × Int), ps[i]? = some x → w.cell? ⟨g, i * 3 + 2, none⟩ = some (.int .i64 x.2.2)
theorem DatesIn.on {g cap : Nat} {ps : List (Int × Int × Int)} {w w' : World} (h : DatesIn g cap ps w) (hb : Below w.heap.size w w') : DatesIn g cap ps w' :=
  ⟨Nat.lt_of_lt_of_le h.lt hb.size, h.le, h.mx, fun i x hi => cell_below (h.one i x hi) hb, fun i x hi => cell_below (h.two i x hi) hb, fun i x hi => cell_below (h.thr i x hi) hb⟩
theorem DatesAt.get {B : Nat} {v : Value} {ps : List (Int × Int × Int)} {w : World} (h : DatesAt B v ps w) : (v = .slice none 0 0 ∧ ps = []) ∨ ∃ g cap, v = .slice (some ⟨g, 0, none⟩) ps.length cap ∧ B ≤ g ∧ DatesIn g cap ps w := by
  rcases h.2 with ⟨rfl, hn⟩ | ⟨g, cap, cur, rfl, hb, hg, hnc, hcm, hcs, htake⟩
  · exact .inl ⟨rfl, List.eq_nil_of_length_eq_zero hn⟩
  · have hadd : ∀ j, (⟨g, 0, none⟩ : Addr).add j = ⟨g, j, none⟩ := fun j => by unfold Addr.add; split <;> simp_all
    refine .inr ⟨g, cap, rfl, hb, (Array.getElem?_eq_some_iff.1 hg).1, hnc, hcm, fun i x hi => ?_, fun i x hi => ?_, fun i x hi => ?_⟩
    · have := World.ownsRow.cells h (g := g) rfl _ _ (flat3_at ps i x hi).1
      rwa [hadd] at this
    · have := World.ownsRow.cells h (g := g) rfl _ _ (flat3_at ps i x hi).2.1
      rwa [hadd] at this
    · have := World.ownsRow.cells h (g := g) rfl _ _ (flat3_at ps i x hi).2.2
      rwa [hadd] at this
section
variable (c y : Int) (w : World)
end
end Go.Proofs.YtnfeihbkemgecaaDoor

namespace Go.Proofs.YtnfeihbkemgecaaDoor
open Go.RowKit

theorem wf2 : (Lit.int .i64 2).wf = true := by decide
theorem wf1 : (Lit.int .i64 1).wf = true := by decide
end Go.Proofs.YtnfeihbkemgecaaDoor
